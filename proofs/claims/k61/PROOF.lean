import PyProof.Rows.All
import Wide.All
import OpenK.AllK
import Wide.FinOn
import Lean
import PyProof.EqAt
import PyProof.EqKinds
import PyProof.TupleCall
import PyProof.TupleKey
import PyProof.DictRoadsH
import PyProof.StationsW
import PyProof.DictWalks
import PyProof.DictItemsLoops
import KE.KPairComp
import KE.KDictList
import PyProof.StrWalks
import PyProof.ConsumeWalk
import PySem.SetOps
import KE.KSortTup
import PyProof.DictUpdate
import PyProof.ExcClass2
import PyProof.ExcClass3
import PyProof.ExcArgsOwn
import PyProof.ExcAttrAll.ValueError
import PyProof.InstStoreFacts
import PyProof.StrLawsRepr
import PyProof.ReprStr
import PyProof.NsDelKeeps
import PyProof.RulesAs
import KE.KIsAll
import KE.KRevIter
import PyProof.EnumMake
import PyProof.MeetsSeq
import PySem.Challenge.RW_twinrounds_k61_pointing
set_option compiler.extract_closed false
set_option genSizeOf false
set_option Elab.async false
set_option linter.all false
set_option maxRecDepth 100000
set_option maxHeartbeats 4000000
open Array renaming length_toList->z0Y,forIn_toList->z45,replicate->z4D,mk->z4W,getElem?_eq_getElem->z5q,toList->z6a,mem_toList_iff->z6c,toList_inj->z6T,getElem?_eq_none->z72,getElem?_eq_some_iff->z7a,getElem?_toList->z7g,toList_map->z8z,perm_iff_toList_perm->z9e,getD_eq_getD_getElem?->z9f
open Bool renaming false_ne_true->z0D,false_eq_true->z0G,and_eq_true->z0Q,eq_iff_iff->z1W,not_true->z25,true_and->z42,false_and->z4c,and_true->z6O,not_false->z7Q,false_or->z8i,eq_false_iff->z8V,or_eq_true_iff->z8W,and_eq_true_iff->z9M
open Classical renaming byContradiction->z3_
open False renaming elim->z1n
open ForInStep renaming yield->z3R
open Function renaming comp_def->z0V
open Int renaming toNat_natCast->z1a,emod_nonneg->z4K,emod_lt_of_pos->z4L,le_refl->z5U,toNat_of_nonneg->z7f,fdiv_eq_ediv_of_nonneg->z84,ediv_one->z8b
open List renaming length_map->z07,map_cons->z0c,range->z0d,mem_map->z0f,mem_cons->z0i,lookup->z0m,mem_range->z0o,map_map->z0p,getElem?_map->z0q,lookup_cons->z0r,size_toArray->z0t,length_cons->z0u,mem_cons_of_mem->z0y,getElem?_eq_getElem->z0F,length_append->z0L,mem_cons_self->z0O,length->z0P,map_append->z0S,mem_append->z0U,nodup_append->z0W,map_nil->z1b,all_eq_true->z1c,getElem_mem->z1d,set_cons_zero->z1e,set_cons_succ->z1f,append_nil->z1g,length_take->z1i,getElem?_set_ne->z1m,getElem?_eq_some_iff->z1r,pairwise_map->z1B,nil_append->z1H,getElem?_cons_zero->z1S,getElem?_append_right->z1Y,pairwise_cons->z23,getElem?_cons_succ->z24,mem_append_right->z28,getElem?_append_left->z2c,mem_singleton->z2d,Nodup->z2e,getElem?_set_self->z2k,nodup_cons->z2m,mem_filter->z2s,length_nil->z2y,length_range->z2B,length_eq_zero_iff->z2C,length_drop->z2P,getElem?_eq_none->z2R,mem_of_getElem?->z3d,any_cons->z3g,find?_cons->z3h,map_congr_left->z3l,mem_iff_getElem->z3r,map_take->z3s,getD_eq_getElem?_getD->z3v,replicate_succ->z3y,replicate_zero->z3z,cons_append->z3A,length_set->z3S,pairwise_iff_getElem->z3Z,replicate->z4i,length_replicate->z4k,all_cons->z4n,length_singleton->z4o,drop_eq_getElem_cons->z4s,eq_nil_of_length_eq_zero->z4w,nodup_range->z4y,mem_iff_getElem?->z4z,getElem?_zip_eq_some->z4A,zip_cons_cons->z4S,getElem_of_mem->z5n,mem_erase_of_ne->z5v,length_erase_of_mem->z5w,length_pos_of_mem->z5x,take_append_drop->z5y,mem_of_mem_take->z5z,mem_of_find?_eq_some->z5A,getElem?_range->z5B,map_drop->z5H,foldr_cons->z5K,filterMap_cons->z65,mem_append_left->z66,mem_filterMap->z6b,of_mem_zip->z6n,getElem?_replicate->z6p,getElem?_take_of_lt->z6q,take_sublist->z6r,filterMap_map->z6y,getElem?_drop->z6I,take_of_length_le->z6K,range_succ->z6L,drop_length->z6P,set_append_right->z6Q,append_assoc->z6R,getD->z6X,any_map->z75,getElem?_inj->z7b,mem_of_mem_drop->z7c,find?_some->z7d,find?_eq_none->z7e,take_succ->z7F,take_length->z7G,length_filter_le->z7I,any_eq_false->z85,drop_zero->z8r,ext_getElem?->z8s,range_succ_eq_map->z8t,not_mem_nil->z8u,length_pos_iff->z8A,any_eq_true->z8F,drop_of_length_le->z8M,getElem_take->z8S,pairwise_append->z8T,pairwise_lt_range->z8Y,ext_getElem->z91,find?_isSome->z98,perm_middle->z9b,toArray->z9g,not_lt->z9k,length_eraseIdx->z9l,filter_cons->z9B,filter_sublist->z9C,eraseIdx_eq_take_drop_succ->z9H,getElem_map->z9L
open List.Nodup renaming sublist->z7E
open List.Pairwise renaming imp_of_mem->z2X,nil->z5t,imp->z7H
open List.Perm renaming refl->z4F,cons->z5G,swap->z9a
open List.cons renaming injEq->z4T
open Nat renaming le_refl->z06,ne_of_lt->z0j,le_trans->z0A,lt_of_lt_of_le->z0X,zero_le->z19,lt_irrefl->z1l,le_succ->z1O,zero_add->z1R,not_lt->z1_,lt_succ_of_lt->z2o,ne_of_gt->z2I,lt_of_le_of_lt->z2Q,sub_self->z3k,reduceAdd->z3w,reduceSub->z3x,le_of_lt->z3E,lt_succ_self->z4f,le_of_lt_succ->z4C,add_assoc->z4Q,le_succ_of_le->z5k,lt_trichotomy->z5u,mod_lt->z5C,mul_comm->z5T,lt_or_ge->z5V,le_of_eq->z6h,succ_ne_self->z6H,min_self->z6N,le_zero->z7J,lt_trans->z8k,min_eq_left->z8K,min_eq_right->z8L,lt_or_eq_of_le->z8P,add_zero->z8U,succ_pos->z8X,pos_of_ne_zero->z96,mul_add_div->z9D,div_eq_of_lt->z9E,mul_add_mod->z9F,mod_eq_of_lt->z9G,exists_eq_succ_of_ne_zero->z9I,le_one_iff_eq_zero_or_eq_one->z9K
open Nat.succ renaming inj->z5N
open Ne renaming symm->z0n
open Option renaming bind_some->z0M,map_some->z1z,map_eq_some_iff->z1U,isNone_iff_eq_none->z3q,isSome_map->z4q,bind_eq_some_iff->z4E,getD->z5F,isSome_iff_exists->z6o,getD_none->z8f,none->z8q,bind_eq_bind->z8Z
open Option.some renaming inj->z0w,injEq->z6W
open Or renaming inr->z0v,inl->z0J
open Prod renaming ext->z3e
open Prod.mk renaming injEq->z3B,inj->z7R
open PyProof.Rows renaming envOfC->z1E,AllBare->z2j,seqObj->z2_,isTrue_and->z3H,IntsAre->z4r,callWith_type1->z54,subscriptTail->z5d,StrsAre->z5M,isTrue_and_nil->z68,isTrue_not->z69,slot_tuple_getitem->z6z,Subscript_->z6B,listUpdate_at->z7l,seqEpoch_at->z7m,entry_proto_collect'->z7p,entry_list_iadd'->z7q,kind_sorted->z7s,plain_sorted->z7t,entry_sorted->z7u,args_sorted1->z7v,slot_list_sort->z7x,entry_list_sort->z7y,args_list_sort->z7z,sortedHeap_at->z7A,sortedHeap_old->z7B,arrOf->z7C,subscriptTail_builtinR->z8d,kmk_tree->z8y,wpAny_notIn_heap->z97,risingS->z9p,listItems_at->z9t
open PyProof.Rows.F renaming plain_set_update_loop->z9d
open PyProof.Rows.IsTup renaming new->z6C
open PyProof.Rows.SortSt renaming mk'->z9h
open PySem renaming Value->z00,wpAny_bind->z01,wpAny->z02,Shared->z03,model->z04,wpAny_pure->z05,starEach->z09,Around->z0a,cLine->z0h,World->z0k,Program->z0s,bootBuiltins->z0x,intItems->z0z,backTo->z0B,compareOp->z0C,rawInt->z0H,atKey->z0I,pyNext->z0K,argBest->z0R,mainGlobals->z0T,codeAny->z0Z,numAt->z12,sysModules->z16,behindInMarks->z17,Builtin->z1h,wpAny_call_entry->z1k,swapsWith->z1o,keywordEach->z1p,wpAny_mono->z1s,binaryOp->z1t,sizeLine_eq->z1u,holding->z1v,attributeBase->z1x,codeAny_builtin->z1A,assignEach->z1C,backToKw->z1D,Walks->z1F,wpAny_truthy_bool->z1J,execs->z1K,wpAny_field->z1P,wpAny_newObj_type->z1Q,wpAny_seqItems->z1T,wpAny_execs_nil->z1V,standAt->z1X,plainId_quiet->z20,Scope->z26,wpAny_execs_cons->z27,getMethod->z29,callWith->z2a,NameKind->z2b,IsEnum->z2f,Paired->z2i,FuncData->z2l,wpAny_tryCatch->z2q,wpAny_specialOf->z2r,pyIter->z2t,Result->z2u,getItem->z2w,wpAny_callSpecial?_slot->z2x,DictEntry->z2z,relabel->z2A,wpAny_letGo->z2D,wpAny_setState_of->z2E,isTrue->z2G,CmpOp->z2H,codeAny_mono->z2K,bindL->z2L,bindC->z2M,IsPart->z2O,seqItems?->z2S,wpAny_updateSeq->z2T,argsOk->z2U,isSubtype_type->z2V,setNext->z2Y,pickOrder->z2Z,field->z31,Value->z32,wpAny_forIn_list->z33,wpAny_rule->z34,wpAny_isInstance->z35,tupleKind->z3a,wpAny_passesOwn->z3b,foldedSetIterable->z3c,sliceBounds->z3f,valueAt->z3i,callerA->z3j,wpAny_setField->z3o,collect->z3t,wpAny_Name->z3F,wpAny_isTrue_Compare1->z3G,assign->z3I,wpAny_Call_Name_kw->z3N,Keyword->z3O,updateSeq->z3T,newExc->z3V,wpAny_attempt->z3W,wpAny_askSetting->z3Y,wpAny_newList->z40,tupleKeyHash->z43,treeTable->z46,entryOfKey->z48,wpAny_If->z49,PassesOwn->z4a,wpAny_load->z4b,wpAny_pyIter_tuple->z4d,BindsTo->z4g,bindArgs->z4h,mem_of_lookup->z4j,wpAny_typeOf->z4l,subscripted->z4m,storedH->z4p,wpAny_of_eq->z4t,wpAny_setField_rec->z4J,Addr->z4M,Str->z4N,IsTupleKey->z4O,isInstance->z4R,eqIsQuiet->z4V,wpAny_Return_some->z4_,letOwnedTupleGo->z50,wpAny_pyIter_list->z53,wpAny_call->z58,concat_meets->z5a,tupleKind_room_in1->z5e,wpAny_Assign_Subscript->z5f,lookup_relabel_local->z5g,wpAny_getItem_str_slice->z5i,post_val_or_str->z5j,intItems_at->z5m,newTuple->z5o,wpAny_fieldsOf->z5p,ofAClassStatement->z5D,hashByValue->z5E,wpAny_runValue->z5I,firstArgMember->z5J,setsByText->z5L,wpAny_pyIter_enum->z5O,reduceHash->z5W,wpAny_tupleItemsOf->z5X,isSubtype_tuple_tuple->z5Y,carriedByValue->z5Z,wpAny_eqBool_int->z60,Within->z62,builtinsNs->z64,wpAny_Constant_int->z67,wpAny_standAt->z6m,noFill_tuple_add->z6s,seq_tuple_add->z6t,typeLookup->z6A,typeIs_str->z6E,wpAny_Dict_empty->z6G,sliceRange->z6J,wpAny_dictEntries->z6Z,wpAny_dictEpoch->z6_,isSubtype_stop->z73,wpAny_pyIter_slot->z74,call->z78,setSearchFrom->z7h,unsupported->z7i,wpAny_setEntries_of->z7n,checkCount->z7w,Shared->z7K,Expr->z7L,Stmt->z7M,wpAny_pyHash_tuple->z7O,wpAny_eqBool_tuple->z7P,wpAny_loadName_local->z7X,wpAny_loadName_cell->z7Y,wpAny_loadName_free->z7Z,wpAny_pyNext_list_item->z81,wpAny_pyNext_list_end->z82,slot_list_getitem->z8e,wpAny_getItem_heap->z8l,wpAny_setItem_heap->z8m,getitemInPython_of_ne->z8n,wpAny_letTemporaryGo->z8o,wpAny_pyIter_keyiter->z8B,searchCouldBeSeen->z94,wpAny_eqIsQuiet_tuple->z95,Slot->z9i,builtinLookup_eq_fast->z9j,wpAny_letOwnedTupleGo_enum->z9u
open PySem.Around renaming under_plainId->z2p,under->z6k
open PySem.AutoSeq1 renaming wpAny_loadPart'->z5S
open PySem.Builtin renaming bitAnd->z3J
open PySem.Builtin.Builtins renaming bindParams->z5l
open PySem.Builtin.Dict_items renaming ownsTuple->z70
open PySem.Builtin.Int renaming intBits->z1q
open PySem.Builtin.List renaming listExtendWith->z4I,listLengthHint->z9m,listSameRef->z9o
open PySem.Builtin.Range renaming rangeSize->z83
open PySem.Builtin.Slice renaming slicePlaces->z5b,sliceAdjust->z6x,sliceApplied->z8c
open PySem.Builtin.SmallTypes renaming nextOf->z5P,ownedTupleIsFree->z9x,ownedTupleHandOut->z9y
open PySem.Builtin.Str renaming occurrences->z2J
open PySem.Builtin.Tuple renaming tupleHashOf->z4P,tupleExact->z5c,tupleItemsOf->z7N
open PySem.Calls renaming call_function_entry->z7r,Name_function_global->z7_
open PySem.Challenge renaming pw_twinrounds_k61_pointing->z9N,rw_twinrounds_k61_pointing->z9O
open PySem.CmpOp renaming NotIn->z80
open PySem.Code renaming isFrame->z6l,quiet_builtin->z79,frames->z89
open PySem.Data renaming fields->z51,cell->z52
open PySem.F renaming plain_max_loop->z3m,plain_min_loop->z3u,slot_tuple_hash->z44,slot_dict_keyiterator_next->z4x,slot_tuple_eq->z4U,slot_enumerate_next->z5Q,slot_tuple_iterator_next->z5R,slot_tuple_add->z6u,entry_tuple_add->z6v,args_tuple_add_2->z6w,entry_max_loop->z6S,slot_dict_getitem->z6U,entry_min_loop->z7D,slot_dict_items->z8C,entry_dict_keyiterator_next->z8G,args_dict_keyiterator_next_1->z8H,slot_dict_iter->z8I,plain_set_new->z8O,slot_set_iter->z9n,plain_list_iadd->z9q,entry_enumerate_next->z9v,args_enumerate_next_1->z9w,entry_tuple_iterator_next->z9z,args_tuple_iterator_next_1->z9A
open PySem.Heap renaming get?_push_of_some->z0e,lt_size->z0g,get?_push_size->z0l,get?_update_other->z0_,SameBut->z14,size_push->z1w,get?_update_self->z1G,ExtBut->z4u,get?_push_cases->z4v
open PySem.Heap.SameBut renaming update->z3X,refl->z6V
open PySem.Manifest renaming find?->z71
open PySem.NameKind renaming free->z3Q
open PySem.Obj renaming mapSeq->z1Z,mapFields->z3n,data_mapFields->z3p,isFreed_of_fields->z5r,cls_mapFields->z5s
open PySem.Paired renaming length->z4Z,snoc->z8j
open PySem.PassesOwn renaming never->z13
open PySem.SeqAt renaming EqAt->z2n,in_listAt->z8g,notIn_listAt->z8h
open PySem.SeqAt.EqAt renaming same->z6F,of_refs->z6M,int_str->z7U,str_int->z7V
open PySem.SeqAt.RcAt renaming lists->z8v,lists_lengths->z8w,tuples->z8x
open PySem.SetTable renaming runEnd->z0N,bits->z1j,leap->z21,turns->z22,below->z4H,sizeAbove->z7j,fresh->z7k,slot->z8Q,has->z8R,layClean->z8_,laid->z90,fits->z92,fill->z93,grown->z99,tooFull->z9c
open PySem.SetTable.layClean renaming free->z4B
open PySem.SetTable.probe renaming go->z2W
open PySem.Shared renaming TypeIs->z6Y
open PySem.Str renaming ofString->z0E,empty->z3L,length->z6D
open PySem.Txt renaming slice->z5h
open PySem.Value renaming ref->z0b,none->z15,type->z2h,int->z37,bool->z39,str->z3D,float->z61,isInt->z7S,isStrOf->z7T,bytes->z7W
open PySem.W renaming Frag->z08,findIn->z18,fnOf->z1y,mg_none_of->z1I,keepIn->z1L,kia_one->z1N,boot_heap->z2g,emptyDict->z2v,instObj->z2F,codeIn->z2N,mg_of->z30,SharedT->z3C,isFn->z3K,kitOne->z3M,nsIn->z41,plainGet->z4e,kas_rev->z4G,boot_drawn->z4X,boot_toks->z4Y,lookIn->z55,hasDictIn->z56,methodCall_KW->z57,callWith_K->z59,methodObj->z63,plainGet_of->z6d,plainOver->z6e,takerIn->z6f,makesIn->z6g,specialIn->z6i,kitx_list->z6j,handedIn->z86,kitx_tuple->z87,kitx_dict->z88,cellsFrom_some->z8a,kdl_call->z8D,kdl_dict->z8E,KdlSrc->z8J,readsIn->z9r,findCls->z9s
open PySem.W.WData renaming int->z3P,weightAll->z76,weight->z77,layable->z8N
open PySem.W.WShape renaming has->z8p
open PySem.Walks renaming list->z3U
open PySem.pickOrder renaming go->z7o
open Sum renaming inl->z36,inr->z38
open Sum.inl renaming inj->z47
open Sum.inr renaming inj->z5_,injEq->z9J
open True renaming intro->z1M
set_option hygiene false in
local macro_rules
|`(.(0))=>`((z04 X.prog X.w))
|`(.(1))=>`((.int (n:Int)))
|`(.(2))=>`((∀ b o,s.heap.get? b=some o->h'.get? b=some o))
|`(.(3))=>`((x==("__debug__":Str)))
|`(.(4))=>`((λ _=>({ cls:=.type "enumerate",data:=.fields #[.none,.bool false,.ref it,z0H ((i:Nat):Int),.none,old] }:Obj)))
|`(.(5))=>`((.lst .(9)))
|`(.(6))=>`((.ref s.heap.objs.size))
|`(.(7))=>`((s.heap.objs.size+1))
|`(.(8))=>`((false,eval a X.env))
|`(.(9))=>`((rows.map pN))
|`(.(10))=>`((p.1,p.2.map λ q=>.(33)))
|`(.(11))=>`((by first | exact z0J rfl | exact z0v (z0J rfl) | exact z0v (z0v rfl)))
|`(.(12))=>`((ps.map pN))
|`(.(13))=>`((kF (.int 1)))
|`(.(14))=>`((s.heap.push { cls:=.type "tuple_iterator",data:=.fields #[.ref t,.int 0 0] }))
|`(.(15))=>`((s.heap.push { cls:=.type "list_iterator",data:=.fields #[.ref l,.int 0 0] }))
|`(.(16))=>`((p.1,p.2.map λ t=>os.getD t 0))
|`(.(17))=>`((by simp;omega))
|`(.(18))=>`((PV.cls KX ?pg_World ?hd_World ?po_World ?sa_World))
|`(.(19))=>`((PV.cls KX ?pg_Ranks ?hd_Ranks ?po_Ranks ?sa_Ranks))
|`(.(20))=>`((Ba I q (by simp)))
|`(.(21))=>`(((ss.map λ s=>(f,s)).map (rwV W V ps)))
|`(.(22))=>`((insertAt es (t.put j).2 (hP p,z0b b)))
|`(.(23))=>`((Same.refl H))
|`(.(24))=>`((some (.Subscript (.Attribute (.Name x p11) f p12) (.Name y p13) p14)))
|`(.(25))=>`((.dk (eT W.ts)))
|`(.(26))=>`((.dk (eM W.ms)))
|`(.(27))=>`((x==("__classdict__":Str)))
|`(.(28))=>`((.int (side:Int)))
|`(.(29))=>`((kF (.int 0)))
|`(.(30))=>`((W.frame _ _ _ st1 λ b hbf o e=>(z0_ _ _ (λ z:S=b=>nS (by rw[z];exact hbf))).trans e))
|`(.(31))=>`(((x::r).map λ (t:Nat)=>(t:Int)))
|`(.(32))=>`((.int (W.n:Int)))
|`(.(33))=>`((os.getD q.1 0,os.getD q.2 0))
|`(.(34))=>`((by decide +kernel))
|`(.(35))=>`(((fs.map λ f=>(f,s)).map (rwV W V ps)))
|`(.(36))=>`((∀ b o,b∉wr->b≠S->s.heap.get? b=some o->h'.get? b=some o))
|`(.(37))=>`((z0B pos (z09 es X.env)))
|`(.(38))=>`((.tup [.int (side:Int),.int (t:Int)]))
|`(.(39))=>`((Pr5×Addr))
|`(.(40))=>`((Ah (ps++[(f,s)])))
|`(.(41))=>`((.Call (.Attribute (.Name x q1) mth q2) [.Name y q3] [] q4))
|`(.(42))=>`((ps.map (·.1)))
|`(.(43))=>`((.lst [.int i1,.int i2,.int i3,.int i4]))
|`(.(44))=>`((.ListComp elt [⟨tg,iter,ifs,0⟩] scope pos))
abbrev zFr:=PySem.W.Frag
abbrev zQ:=PySem.Value->PySem.Shared->Prop
abbrev zP:=List (PySem.Addr×PySem.Obj)
variable {h h':PySem.Heap}{vs us its:List z32}{o:PySem.Obj}{s:z7K}{a b it p C q:z4M}{Q E:z32->z7K->Prop}{u doc pm cdv ct oc:z32}{P prog:PySem.Program}{w:PySem.World}{t' i n j ep x1 k':Nat}{ch A fp B A0:List z4M}{x c f m qual:z4N}{e tg:z7L}{N ps loose ws:List z4N}{M:PySem.Model}{pos pos' apos tp xpos spos p1 p2 p3 p4 p5 p6 p7 p8 p9 p10 p11 p12 p13 pos2:PySem.Pos}{π:List (z4M×PySem.Obj)}{es:Array (Int×z32)}{body:List z7M}{l:List Nat}{kw:List (z4N×z32)}{env:PySem.Env}{mg:z4N->Option z32}{fd:PySem.FuncData}{sc scope:PySem.Scope}{an od:Option z4M}{osl:Array (Option z32)}{st:z7M}{elts:List z7L}{ow:Array (Option Nat)}
theorem zE_ {α:Sort _}(a:α):a=a:=of_eq_true (eq_self a)
namespace PV
open PySem
section
variable {K:Type} [DecidableEq K] (kd:KeyKind prog w K)
inductive NkI (h:Heap):List (List K)->List z00->Prop
 | nil:NkI h [] []
 | cons {k:List K}{b:Addr}{ks:List (List K)}{vs:List z00}:z4O kd h k b->NkI h ks vs->NkI h (k::ks) (.ref b::vs)
def Nest (h:Heap) (ks:List (List K)) (a:Addr):Prop:=∃ o xs n,h.get? a=some o/\o.cls=.type "tuple"/\o.data=.seq xs n/\NkI kd h ks xs.toList
variable {kd}
theorem NkI.inj {h:Heap}{x y:List (List K)}{vs:List z00}(p:NkI kd h x vs):NkI kd h y vs->x=y:=by
 induction p generalizing y with
 | nil=>intro q;cases q;rfl
 | cons a _ ih=>intro q;cases q with | cons b t=>rw[a.inj b,ih t]
theorem NkI.kept {g:Heap}{d:Addr}{es ep} (ho:h.get? d=some o) (hd:o.data=.dict es ep) (hs:z14 d h g) {x:List (List K)}{vs:List z00}(p:NkI kd h x vs):NkI kd g x vs:=by
 induction p with
 | nil=>exact .nil
 | cons a _ ih=>exact .cons (a.keeps ho hd hs) ih
theorem Nest.ty {ks:List (List K)}(x:Nest kd s.heap ks a):s.TypeIs (.ref a) "tuple":=let ⟨o,_,_,g,c,_⟩:=x;⟨o,g,c⟩
theorem Nest.inj {h:Heap}{a:Addr}{x y:List (List K)}(p:Nest kd h x a) (q:Nest kd h y a):x=y:=by
 obtain⟨o,us,n,g,_,d,i⟩:=p;obtain⟨o2,vs,m,g2,_,d2,i2⟩:=q;cases g.symm.trans g2;cases d.symm.trans d2;exact i.inj i2
theorem Nest.kept {h g:Heap}{ks:List (List K)}{a d:Addr}{o:Obj}{es ep} (x:Nest kd h ks a) (ho:h.get? d=some o) (hd:o.data=.dict es ep) (hs:z14 d h g):Nest kd g ks a:=by
 obtain⟨o2,us,n,g2,c,d2,i⟩:=x;refine⟨o2,us,n,(hs.2 a λ z=>?_).trans g2,c,d2,i.kept ho hd hs⟩;subst z;cases ho.symm.trans g2;cases hd.symm.trans d2
def dF (kd:KeyKind prog w K) (ks:List (List K)):Int:=z5W (z4P (ks.map (z43 kd)))
def Xb (ks:List (List K)):Nat:=(ks.map λ k=>k.length+1).sum+1
variable {A:z0a}
theorem a_ {ks:List (List K)}{Q:Int->z03->Prop}(hu:A.units+1<z0h) (hk:Nest kd s.heap ks a) (k:Q (dF kd ks) { s with toks:=s.toks+Xb ks }):z02 (z04 prog w) A (pyHash (.ref a)) Q E s:=by
 have ty:=hk.ty;obtain⟨o,us,n,g,_,d,i⟩:=hk;unfold pyHash pyHashByItsType;refine z01 (wpAny_cRoomFor_or (.inr (by omega)) ?_);refine z01 (z2r ty z44.lookup ?_);show z02 _ _ (if (some (Value.builtin "tuple.__hash__")==some z15)=true then _ else _) Q E s;rw[if_neg (by rw[beq_builtin_none];exact z0D)];refine z01 (z2r ty z44.lookup ?_);show z02 _ _ (callSpecialIfBoundUnlessNone? (.ref a) "__hash__" _ >>= _) Q E s;refine z01 (wpAny_callSpecialIfBoundUnlessNone?_slot ty z44 (z1k z44 ty F.entry_tuple_hash ?_ (F.args_tuple_hash_1 _)));show z02 _ _ (z7N (.ref a) >>= _) _ _ s;refine z01 (z5X g d ?_);refine z01 ?_;rw[<-z45];refine z33 _ (λ r (b:Array Int) z=>∃ p q,ks=p++q/\NkI kd s.heap q r/\b.toList=p.map (z43 kd)/\z={ s with toks:=s.toks+(p.map λ k=>k.length+1).sum }) _ ?_ ?_ _ _ ⟨[],ks,rfl,i,rfl,rfl⟩
 ·rintro x r b z ⟨p,q,rfl,il,hb,rfl⟩;cases il with
  | @cons m c q' _ im il'=>
   refine z01 (z7O (s:={ s with toks:=s.toks+(p.map λ k=>k.length+1).sum }) (show A.in1.units<z0h from hu) im ?_);exact z05 ⟨p++[m],q',by simp,il',by simp[hb],by simp[z4Q]⟩
 ·rintro b z ⟨p,q,rfl,il,hb,rfl⟩;cases il;rw[z1g] at k;show z02 _ _ (retInt (z4P b.toList)) _ _ _;rw[hb];refine wpAny_ret_mkInt ?_;generalize hz:z4P (p.map (z43 kd))=y;unfold dF z5W Xb at k;rw[hz] at k;show z02 _ _ (if (decide (-(2:Int)^63<=y)&&decide (y<2^63))=true then _ else _) Q E _
  by_cases c:(decide (-(2:Int)^63<=y)&&decide (y<2^63))=true
  ·rw[if_pos c] at k ⊢;exact z05 (by simpa [z4Q] using k)
  ·rw[if_neg c] at k ⊢;exact z01 (z34 (z05 (by simpa [z4Q] using k)))
theorem mL {x y:List (List K)}{P:Fin->z03->Prop}(hu:A.units<z0h) (hx:Nest kd s.heap x a) (hy:Nest kd s.heap y b) (k:P (.done (.ret (.bool (decide (x=y))))) s):z02 (z04 prog w) A (z1h.«tuple.__eq__» ⟨[.ref a,.ref b],[]⟩) P E s:=by
 have ty:=hy.ty;obtain⟨o,us,n,g,_,d,i⟩:=hx;obtain⟨o2,vs,m,g2,_,d2,i2⟩:=hy;show z02 _ _ (z4R (.ref b) (.type "tuple") >>= _) _ _ s;refine z01 (z35 ty z5Y ?_);simp only[z25,z0G,if_false];refine z01 (z5X g d (z01 (z5X g2 d2 (z01 ?_))));refine z33 _ (λ r q z=>q.1=none/\z=s/\∃ x' y' us' vs',r=List.zip us' vs'/\NkI kd s.heap x' us'/\NkI kd s.heap y' vs'/\decide (x'=y')=decide (x=y)/\(us'.length==vs'.length)=(us.size==vs.size)) _ ?_ ?_ _ _ ⟨rfl,rfl,x,y,us.toList,vs.toList,rfl,i,i2,rfl,by simp⟩
 ·rintro⟨u,v⟩ r q z ⟨e,rfl,x',y',us',vs',hz,hx',hy',hd,hl⟩;cases hx' with
  | nil=>simp at hz
  | @cons k1 b1 x2 us2 h1 t1=>
   cases hy' with
   | nil=>simp at hz
   | @cons k2 b2 y2 vs2 h2 t2=>
    simp only[z4S,z4T,z3B] at hz;obtain⟨⟨rfl,rfl⟩,rfl⟩:=hz;refine z01 (z7P hu h1 h2 ?_)
    by_cases c:k1=k2
    ·subst c;rw[decide_eq_true rfl];simp only[z25,z0G,if_false];refine z05 ⟨rfl,rfl,x2,y2,us2,vs2,rfl,t1,t2,?_,by simpa using hl⟩;rw[<-hd]
     by_cases c2:x2=y2<;>simp[c2]
    ·rw[decide_eq_false c];simp only[z7Q,if_true];have f:decide (x=y)=false:=by rw[<-hd];simp[c]
     rw[f] at k;exact z01 (z05 (z05 (z05 k)))
 ·rintro⟨q1,q2⟩ z ⟨e,rfl,x',y',us',vs',hz,hx',hy',hd,hl⟩;simp only at e;subst e;refine z05 ?_;have f:(us.size==vs.size)=decide (x=y):=by
   rw[<-hd,<-hl];cases hx' with
   | nil=>cases hy'<;>simp
   | cons _ _=>
    cases hy' with
    | nil=>simp
    | cons _ _=>simp at hz
  show P (.done (.ret (.bool (us.size==vs.size)))) z;rw[f];exact k
theorem mQ {x y:List (List K)}{Q:Bool->z03->Prop}(hu:A.units+1<z0h) (hx:Nest kd s.heap x a) (hy:Nest kd s.heap y b) (k:Q (decide (x=y)) s):z02 (z04 prog w) A (eqBool (.ref a) (.ref b)) Q E s:=by
 unfold eqBool;refine wpAny_holding ?_;show z02 _ _ (if (z0b a==z0b b)=true then _ else _) Q E s
 by_cases c:(z0b a==z0b b)=true
 ·rw[if_pos c];have e:a=b:=by have:=eq_of_beq c;injection this
  subst e;cases hx.inj hy;exact z01 (z34 (z05 (by simpa using k)))
 ·rw[if_neg c];exact z01 (wpAny_richCompare_same_room (op:=.Eq) hx.ty hy.ty z4U (z1k z4U hx.ty F.entry_tuple_eq (mL (show A.in1.units<z0h from hu) hx hy ⟨_,rfl,(λ e=>nomatch e),z1J k⟩) (F.args_tuple_eq_2 _ _)) (by omega))
theorem dG (n:Nat) {ks:List K}{a:Addr}{Q:Bool->z03->Prop}(hk:z4O kd s.heap ks a) (k:Q true s):z02 (z04 prog w) A (z4V (n+1) (.ref a)) Q E s:=by
 have ty:=hk.typeIs;obtain⟨o,us,m,g,_,d,i⟩:=hk;unfold z4V;refine z01 (z2r ty z4U.lookup ?_);show z02 _ _ (z4R (.ref a) (.type "tuple") >>= _) _ _ s;refine z01 (z35 ty z5Y ?_);simp only[z25,z0G,if_false];refine z01 (z1T g d (z01 ?_));show z02 _ _ (forIn us _ _) _ _ s;rw[<-z45];refine z33 _ (λ r q z=>q.1=none/\z=s/\∀ v∈r,z5Z v=true) _ ?_ ?_ _ _ ⟨rfl,rfl,i.byValue⟩
 ·rintro v r q z ⟨e,rfl,al⟩;rw[eqIsQuiet_byValue _ (al v (by simp))];refine z01 (z05 ?_);simp only[z25,z0G,if_false];exact z05 ⟨rfl,rfl,λ u hu=>al u (by simp[hu])⟩
 ·rintro⟨q1,q2⟩ z ⟨e,rfl,_⟩;simp only at e;subst e;exact z05 k
theorem Xc (n:Nat) {ks:List (List K)}{a:Addr}{Q:Bool->z03->Prop}(hk:Nest kd s.heap ks a) (k:Q true s):z02 (z04 prog w) A (z4V (n+2) (.ref a)) Q E s:=by
 have ty:=hk.ty;obtain⟨o,us,m,g,_,d,i⟩:=hk;unfold z4V;refine z01 (z2r ty z4U.lookup ?_);show z02 _ _ (z4R (.ref a) (.type "tuple") >>= _) _ _ s;refine z01 (z35 ty z5Y ?_);simp only[z25,z0G,if_false];refine z01 (z1T g d (z01 ?_));show z02 _ _ (forIn us _ _) _ _ s;rw[<-z45];refine z33 _ (λ r q z=>q.1=none/\z=s/\∃ ls,NkI kd s.heap ls r) _ ?_ ?_ _ _ ⟨rfl,rfl,_,i⟩
 ·rintro v r q z ⟨e,rfl,ls,il⟩;cases il with
  | cons im il=>
   refine z01 (dG n im ?_);simp only[z25,z0G,if_false];exact z05 ⟨rfl,rfl,_,il⟩
 ·rintro⟨q1,q2⟩ z ⟨e,rfl,_⟩;simp only at e;subst e;exact z05 k
end
def RL {prog:z0s}{w:z0k}{K:Type} [DecidableEq K] (kd:KeyKind prog w K):HeapKind prog w (List (List K)) where
 is:=Nest kd
 hash:=dF kd
 draws:=Xb
 room:=λ A=>A.units+1<z0h
 inj:=λ p q=>p.inj q
 keeps:=λ x ho hd hs=>x.kept ho hd hs
 pyHash:=λ hu hk k=>a_ hu hk k
 eqBool:=λ hu hx hy k=>mQ hu hx hy k
 quiet:=λ hk k=>Xc 6 hk k
end PV
section
open PySem PySem.W PyProof.Rows
def L2.viewAt (p:z0s) (ks:List Nat):z0s:={ p with main:={ p.main with body:=ks.filterMap λ i=>p.main.body[i]? } }
abbrev K61.R:=PySem.Challenge.rw_twinrounds_k61_pointing.row
def K61.vw:z0s:=L2.viewAt z9N [0,2,3,4,5,6,7,9,10,11,12,13,14,15,16,17,18,19,21,22,23,24,25,26,27,28,30,31,32,34,35,36,37,38,39,41,42,43,44,45,46,47,48,49,50,51]
namespace L2T
def runG (st:z3C->Thread->Option (z3C×Thread)) (ok:Thread->Bool):Nat->z3C->Thread->Option z3C
 | 0,_,_=>none
 | n+1,s,t=>match through t with
  | true=>some s
  | false=>match ok t with
   | false=>none
   | true=>match st s t with
    | some (s',t')=>runG st ok n s' t'
    | none=>none
theorem Yt {tb:String->Option z1h}{p:z0s}{w:z0k}{n₀:Nat}{ann:Option z00}:∀ {n:Nat}{s s':z3C}{t:Thread},runG (stepT (denote tb) p w) (stepOk n₀ ann) n s t=some s'->topRun tb p w n₀ ann n s.abs t=some s'.abs
 | 0,_,_,_,h=>by cases h
 | n+1,s,s',t,h=>by
  unfold runG at h;unfold topRun;cases he:through t with
  | true=>rw[he] at h;cases h;rfl
  | false=>
   rw[he] at h;cases hk:stepOk n₀ ann t with
   | false=>rw[hk] at h;cases h
   | true=>
    rw[hk] at h;cases hs:stepT (denote tb) p w s t with
    | none=>rw[hs] at h;cases h
    | some r=>obtain⟨s₂,t₂⟩:=r;rw[hs] at h;rw[stepT_spec hs];exact Yt h
def treeOf (l:List Obj):BT:=(l.foldl (λ (a:BT×Nat) o=>(a.1.ins a.2 o,a.2+1)) (BT.nil,0)).1
noncomputable abbrev boot (w:z0k) (os:OsState):z3C:=⟨treeOf (z2g w.params).objs.toList,11,(z2g w.params).life,z4W [],z4X,z4Y,os⟩
set_option maxHeartbeats 0 in
theorem boot_abs (w:z0k) (os:OsState):(boot w os).abs=⟨z2g w.params,z4W [],z4X,z4Y,os⟩:=by kernel_rfl
set_option maxHeartbeats 0 in
theorem bA (w:z0k):((z2g w.params).isNs z0T,(z2g w.params).objs.size)=(true,11):=by kernel_rfl
noncomputable abbrev ann (w:z0k):Option z00:=(z2g w.params).nsMap z0T "__annotations__"
noncomputable def fits (p:z0s) (w:z0k) (s:z03):Bool:=staticsOk (importedModules p.main.body) (z2g w.params) s.heap&&namesBound p s.heap&&gensDone s&&laidKept (z2g w.params) s.heap
theorem left {p:z0s}{N:Nat}{α:Type}{f:z03->α}{good:z0k->α}(hb:opening p=plainProg p.main.scope.names) (hf:∀ s,fenceModules? p s=some s) (hN:Nat.ble 600 N=true)
  (h:∀ (w:z0k) (os:OsState),(runG (Fast.tw10156331382660048174 (Fast.tw11892475500146522536 Fast.tw14364793385576792824) p w) (Fast.tw6613529449190102663 11 (ann w)) N (boot w os) (topStub p)).map (λ s=>(fits p w s.abs,f s.abs))=some (true,good w)) (w:z0k):(openEnds z46 p w N).map f=some (good w):=by
 obtain⟨⟨h0,gs,d,k,os⟩,e,e'⟩:=z1U.mp (boot_open hb hN hf w);obtain⟨rfl,rfl,rfl,rfl⟩:h0=z2g w.params/\gs=z4W []/\d=z4X/\k=z4Y:=by simpa using e'
 have h:=h w os;rw[<-Fast.te10156331382660048174,<-Fast.te11892475500146522536,<-Fast.te14364793385576792824,<-Fast.te6613529449190102663] at h;obtain⟨s1,r,q⟩:=z1U.mp h;obtain⟨q1,q2⟩:=z7R q;have t:=Yt r;rw[boot_abs] at t;obtain⟨b1,b2⟩:=z7R (bA w);have g:topFrom z46 p w N ⟨z2g w.params,z4W [],z4X,z4Y,os⟩=some s1.abs:=by
  unfold topFrom;dsimp only;rw[b1,b2];show (topRun z46 p w 11 (ann w) N _ (topStub p)).bind _=_;rw[t];show (match fits p w s1.abs with | true=>some s1.abs | false=>none)=_;rw[q1]
 unfold openEnds;rw[e];show (topFrom z46 p w N _).map f=_;rw[g];exact congrArg some q2
end L2T
section
local macro_rules | `(tactic| o_head $H) => `(tactic| exact ‹∀ P : Prop, P› _)
set_option maxHeartbeats 0 in
theorem K61.side (hole:∀ P:Prop,P):K61.R.Holds:=by
 k_head
end
def K61.as:List Addr:=[2,3,15,17,18,20,21,22,29,30,31,32,35,42,44,45,47,48,49,50,51,54,61,63,64,66,67,68,69,70,73,80,82,83,85,86,87,88,89,92,99,100,101,104,111,112,113,116,117,120,121,122,124,125,127,128,129,131,132,134,135,136,138,139,141,142,143,145,146,148,149,157,159,160,162,163,164,166,167,169,170,171,173,174,176,177,178,180,181,183,184,185,187,188,190,191,192,193,194,195,196,199,201,202,204,205,206,208,209,211,212,213,215,216,218,219,220,222,223,225,226,227,229,230,232,233,234,237,238,239,242,243,244,246,247,249,250,251,254,255,263,265,266,268,269,270,272,273,275,276,277,279,280,282,283,284,286,287,289,290,291,294,295,296,299,300,301,303,304,306,307,308,310,311,313,314,315,316,317,318,319,322,324,325,327,328,329,331,332,334,335,336,338,339,341,342,343,346,347,348,351,352,353,355,356,358,359,360,362,363,365,366,367,369,370,372,373,374,377,378,379,381,382,384,385,386,389,390,391,394,395,396,398,399,401,402,403,405,406,408,409,410,412,413,415,416,417,419,420,422,423,424,426,427,429,430,431,434,435]
set_option maxHeartbeats 0 in
theorem K61.as_ok:∀ P,K61.as=(K61.side.heap_1 P).map (·.1):=λ _=>by kernel_rfl
noncomputable def K61.hook:Hook:=kHook K61.side.heap_1 K61.as K61.as_ok
set_option maxHeartbeats 0 in
theorem K61.look:LeftO K61.R.prog K61.vw [] (λ s=>xlAt K61.vw [] s&&recOk K61.R.records s) K61.hook.obs K61.hook.val 6000:=by
 rw[show LeftO K61.R.prog K61.vw [] (λ s=>xlAt K61.vw [] s&&recOk K61.R.records s) K61.hook.obs K61.hook.val 6000=∀ w,(openEnds z46 K61.R.prog w 6000).map (λ s=>(openSeen K61.vw [] (importedModules K61.R.prog.main.body) (λ s=>xlAt K61.vw [] s&&recOk K61.R.records s) true s,K61.hook.obs s))=some (openGood K61.vw [],K61.hook.val w) from rfl,Fast.te4187177175401517315];exact L2T.left (by kernel_rfl) (λ _=>by kernel_rfl) rfl (λ w os=>by kernel_rfl)
end
open Lean.Parser.Command in
local macro_rules | `(def $i:declId $s:optDeclSig $v:declVal)=>`(noncomputable def $i:declId $s:optDeclSig $v:declVal) | `(abbrev $i:declId $s:optDeclSig $v:declVal)=>`(noncomputable abbrev $i:declId $s:optDeclSig $v:declVal)
namespace L2
open PySem PySem.Spec PyProof.Rows
abbrev Key:=Sum Int Str
def QX:Key->z00->Bool
 | .inl k,v=>z7S k v
 | .inr x,v=>z7T x v
def keyH (w:z0k):Key->Int
 | .inl k=>hashInt k
 | .inr x=>hashStr w x
theorem Bo:∀ {k:Key}{v:z00},QX k v=true->(∃ i t,k=z36 i/\v=z37 i t)∨(∃ x t,k=z38 x/\v=z3D x t)
 | .inl i,v,h=>by
  obtain⟨t,e⟩:=Value.isInt_shape (k:=i) (v:=v) h;exact .inl ⟨i,t,rfl,e⟩
 | .inr x,v,h=>by
  obtain⟨t,e⟩:=Value.isStrOf_shape (x:=x) (v:=v) h;exact .inr ⟨x,t,rfl,e⟩
theorem bB (i:Int) (t:Tok):QX (.inl i) (.int i t)=true:=by simp[QX,z7S]
theorem bC (x:Str) (t:Tok):QX (.inr x) (.str x t)=true:=by simp[QX,z7T]
theorem uB (a b:Int):decide ((z36 a:Key)=z36 b)=(a==b):=by
 by_cases e:a=b
 ·subst e;simp
 ·have h:¬ (z36 a:Key)=z36 b:=λ q=>e (z47 q);rw[decide_eq_false h];exact (beq_eq_false_iff_ne.mpr e).symm
theorem uC (a b:Str):decide ((z38 a:Key)=z38 b)=decide (a=b):=by
 by_cases e:a=b
 ·subst e;simp
 ·have h:¬ (z38 a:Key)=z38 b:=λ q=>e (z5_ q);rw[decide_eq_false h,decide_eq_false e]
theorem uD (a:Int) (b:Str):decide ((z36 a:Key)=z38 b)=false:=decide_eq_false (λ q=>nomatch q)
theorem uE (a:Str) (b:Int):decide ((z38 a:Key)=z36 b)=false:=decide_eq_false (λ q=>nomatch q)
def Aq (prog:z0s) (w:z0k):PySem.KeyKind prog w Key where
 is:=QX
 hash:=keyH w
 inj:=λ v a b ha hb=>by
  rcases Bo ha with ⟨i,t,rfl,rfl⟩ | ⟨x,t,rfl,rfl⟩
  ·rcases Bo hb with ⟨j,u,rfl,e⟩ | ⟨y,u,rfl,e⟩
   ·injection e with e1 _;rw[e1]
   ·exact nomatch e
  ·rcases Bo hb with ⟨j,u,rfl,e⟩ | ⟨y,u,rfl,e⟩
   ·exact nomatch e
   ·injection e with e1 _;rw[e1]
 byValue:=λ k v h=>by
  rcases Bo h with ⟨i,t,rfl,rfl⟩ | ⟨x,t,rfl,rfl⟩<;>rfl
 pyHash:=λ hv h=>by
  rcases Bo hv with ⟨i,t,rfl,rfl⟩ | ⟨x,t,rfl,rfl⟩
  ·exact wpAny_pyHash_int h
  ·exact wpAny_pyHash_str h
 eqBool:=λ hu hv h=>by
  rcases Bo hu with ⟨i,t,rfl,rfl⟩ | ⟨x,t,rfl,rfl⟩
  ·rcases Bo hv with ⟨j,u,rfl,rfl⟩ | ⟨y,u,rfl,rfl⟩
   ·rw[uB] at h;exact z60 h
   ·rw[uD] at h;exact z7U i t y u _ _ _ _ h
  ·rcases Bo hv with ⟨j,u,rfl,rfl⟩ | ⟨y,u,rfl,rfl⟩
   ·rw[uE] at h;exact z7V x t j u _ _ _ _ h
   ·rw[uC] at h;exact wpAny_eqBool_str h
 «strs»:=λ k x t v h=>by
  rcases Bo h with ⟨i,u,rfl,e⟩ | ⟨y,u,rfl,e⟩
  ·exact nomatch e
  ·injection e with e1 _
   subst e1;cases v<;>rfl
theorem Vy (prog:z0s) (w:z0k) (i:Int) (t:Tok):(Aq prog w).is (.inl i) (.int i t)=true:=bB i t
theorem Vz (prog:z0s) (w:z0k) (x:Str) (t:Tok):(Aq prog w).is (.inr x) (.str x t)=true:=bC x t
inductive V where
 | non | bl (b:Bool) | int (i:Int) | str (x:Str) | byt (b:Array UInt8) | flt (b:UInt64) | ref (a:Addr) | ty (n:String)
 deriving DecidableEq
def RelV:V->z00->Prop
 | .non,u=>u=z15
 | .bl b,u=>u=z39 b
 | .int i,u=>∃ t,u=z37 i t
 | .str x,u=>∃ t,u=z3D x t
 | .byt b,u=>∃ t,u=z7W b t
 | .flt b,u=>∃ t,u=z61 b t
 | .ref a,u=>u=z0b a
 | .ty n,u=>u=z2h n
abbrev Vals:List V->List z00->Prop:=z2i RelV
theorem Vals.length {xs:List V}{us:List z00}(r:Vals xs us):xs.length=us.length:=z4Z r
theorem Vals.get:∀ {xs:List V}{us:List z00}{i:Nat}{x:V},Vals xs us->xs[i]?=some x->∃ u,us[i]?=some u/\RelV x u
 | _,_,_,_,.nil,e=>by simp at e
 | _,_,0,_,.cons r _,e=>by simp at e;subst e;exact⟨_,rfl,r⟩
 | _,_,i+1,x,.cons _ t,e=>by
  obtain⟨u,h1,h2⟩:=Vals.get (i:=i) (x:=x) t (by simpa using e);exact⟨u,by simpa using h1,h2⟩
theorem Vals.append:∀ {xs ys:List V}{us ws:List z00},Vals xs us->Vals ys ws->Vals (xs++ys) (us++ws)
 | _,_,_,_,.nil,s=>s
 | _,_,_,_,.cons r t,s=>.cons r (Vals.append t s)
theorem Vals.take:∀ {xs:List V}{us:List z00}(n:Nat),Vals xs us->Vals (xs.take n) (us.take n)
 | _,_,0,_=>.nil
 | _,_,_+1,.nil=>.nil
 | _,_,n+1,.cons r t=>.cons r (Vals.take n t)
theorem Vals.drop:∀ {xs:List V}{us:List z00}(n:Nat),Vals xs us->Vals (xs.drop n) (us.drop n)
 | _,_,0,r=>r
 | _,_,_+1,.nil=>.nil
 | _,_,n+1,.cons _ t=>Vals.drop n t
def RelO:Option V->Option z00->Prop
 | some v,some u=>RelV v u
 | none,none=>True
 | _,_=>False
def KV {κ:Type}:List (κ×V)->List (κ×z00)->Prop:=z2i λ (p:κ×V) (q:κ×z00)=>p.1=q.1/\RelV p.2 q.2
def kV:Key->V
 | .inl i=>.int i
 | .inr x=>.str x
inductive HO where
 | lst (xs:List V)
 | tup (xs:List V)
 | dK (kvs:List (Key×V)) | dT (kvs:List (List Key×V))
 | set (S:Int->Bool) (n:Nat)
 | ins (C dx:Addr) (fs:List (Str×V))
 | own (x:Addr)
 | xd (fs:List (Str×V))
 | met (f x:Addr)
 | rng (lo hi:Int)
 | frz (o:Obj) (u:HO)
 | tbl (ps:Array z00)
 | ext (φ:Heap->Prop)
 | mem (F:List (List Key)->Int) (K:z08)
abbrev Hp:=Addr->Option HO
def upd (H:Hp) (a:Addr) (o:HO):Hp:=λ b=>if b=a then some o else H b
theorem Aj {H:Hp}{o:HO}:upd H a o a=some o:=by unfold upd;rw[if_pos rfl]
theorem Ak {H:Hp}{o:HO}(h:b≠a):upd H a o b=H b:=by unfold upd;rw[if_neg h]
theorem q_ {H:Hp}{o u:HO}(h:H a=some o) (h':H b=some u) (d:o≠u):a≠b:=by
 intro e;subst e;rw[h] at h';exact d (z0w h')
theorem Dh {H:Hp}{o:HO}(h:H a=some o) (h':H b=none):a≠b:=by
 intro e;subst e;rw[h] at h';cases h'
def TupAt (K:z08) (H:Hp) (a:Addr) (xs:List V):Prop:=(H a=some (.tup xs)∨∃ o,H a=some (.frz o (.tup xs))) ∨
 ∃ (o:Obj) (its:Array z00) (n:Nat),K.lookup a=some o/\o.cls=.type "tuple"/\o.data=.seq its n/\its.size<=sizeLine/\Vals xs its.toList
def MemK (K:z08) (H:Hp) (ks:List (List Key)) (b:Addr):Prop:=∃ bs:List Addr,TupAt K H b (bs.map V.ref)/\z2i (λ k c=>TupAt K H c (k.map kV)) ks bs
def Kin (ks:List (List Key)):Prop:=∃ ps:List (Nat×Nat),ks=ps.map (λ p=>[.inl (p.1:Int),.inl (p.2:Int)])/\ps.length<=5/\∀ p∈ps,p.1<5/\p.2<5
def Tu:HO->Prop
 | .tup _=>True
 | .frz _ (.tup _)=>True
 | _=>False
section
variable (P:z0s) (w:z0k)
def BV (H:Hp) (h:Heap) (a:Addr):HO->Prop
  | .mem F K=>(a==z16)=false/\∃ xs:List (List (List Key)×Addr×z00),(∀ q∈xs,MemK K H q.1 q.2.1/\Kin q.1/\RelV (.int (F q.1)) q.2.2) ∧
      ∃ o es ep,h.get? a=some o/\o.ExactDict/\o.data=.dict es ep/\es.toList=xs.map (z48 (PV.RL (Aq P w)))/\(xs.map (·.1)).Nodup
  | .lst xs=>xs.length<=sizeLine/\∃ (its:List z00) (n:Nat),Vals xs its/\h.get? a=some { cls:=.type "list",data:=.seq its.toArray n }
  | .tup xs=>xs.length<=sizeLine/\∃ its:List z00,Vals xs its/\IsTup h a its.toArray
  | .dK kvs=>kvs.length<=sizeLine/\(a==z16)=false/\∃ vs,KV kvs vs/\h.DictOf (Aq P w) a vs
  | .dT kvs=>kvs.length<=sizeLine/\(a==z16)=false/\∃ xs:List (List Key×Addr×z00),
      z2i (λ (p:List Key×V) (q:List Key×Addr×z00)=>p.1=q.1/\H q.2.1=some (.tup (p.1.map kV))/\RelV p.2 q.2.2) kvs xs ∧
      ∃ o es ep,h.get? a=some o/\o.ExactDict/\o.data=.dict es ep/\es.toList=xs.map (z48 (z3a (Aq P w)))/\(xs.map (·.1)).Nodup
  | .set S n=>h.SetOf (intKind P w) a S n
  | .ins C dx fs=>H dx=some (.own a)/\fs.length<=1000/\dx≠a/\h.get? a=some (z2F C dx) ∧
      ∃ mA,h.Ns1 dx mA/\(∀ f,RelO (fs.lookup f) (mA f))/\z62 mA (fs.map (·.1))
  | .own _=>∃ o,h.get? a=some o
  | .xd fs=>∃ mA,h.Ns1 a mA/\∀ f,RelO (fs.lookup f) (mA f)
  | .rng lo hi=>∃ t u v,h.get? a=some { cls:=.type "range",data:=.fields #[.int lo t,.int hi u,.int 1 v] }
  | .frz o u=>h.get? a=some o/\BV H h a u
  | .tbl ps=>h.get? a=some { cls:=.none,data:=.fields ps }
  | .met f x=>h.get? a=some (z63 (.ref f) (.ref x))
  | .ext φ=>φ h/\(∃ o,h.get? a=some o)/\∀ h1 h2:Heap,φ h1->(∀ o,h1.get? a=some o->h2.get? a=some o)->φ h2
def HOk (H:Hp) (h:Heap):Prop:=∀ a o,H a=some o->BV P w H h a o
end
section
variable {H H':Hp}{o:HO}
theorem BV.lt (x:BV P w H h a o):a<h.objs.size:=by
 cases o with
 | mem F K=>obtain⟨_,_,_,o,_,_,e,_⟩:=x;exact z0g e
 | lst xs=>obtain⟨_,_,_,_,e⟩:=x;exact z0g e
 | tup xs=>obtain⟨_,_,_,p⟩:=x;exact p.lt
 | dK kvs=>obtain⟨_,_,_,_,o,_,_,e,_⟩:=x;exact z0g e
 | dT kvs=>obtain⟨_,_,_,_,o,_,_,e,_⟩:=x;exact z0g e
 | set S n=>obtain⟨o,_,_,_,e,_⟩:=x;exact z0g e
 | ins C dx fs=>obtain⟨_,_,_,e,_⟩:=x;exact z0g e
 | own y=>obtain⟨_,e⟩:=x;exact z0g e
 | xd fs=>obtain⟨_,⟨_,_,_,e,_⟩,_⟩:=x;exact z0g e
 | rng lo hi=>obtain⟨_,_,_,e⟩:=x;exact z0g e
 | frz ob u=>obtain⟨e,_⟩:=x;exact z0g e
 | tbl ps=>exact z0g (show h.get? a=some _ from x)
 | met f y=>exact z0g (show h.get? a=some _ from x)
 | ext φ=>obtain⟨_,⟨_,e⟩,_⟩:=x;exact z0g e
theorem Paired.mapP {α β:Type}{F G:α->β->Prop}:∀ {l₁:List α}{l₂:List β},z2i F l₁ l₂->(∀ a b,F a b->G a b)->z2i G l₁ l₂
 | _,_,.nil,_=>.nil
 | _,_,.cons r t,f=>.cons (f _ _ r) (Paired.mapP t f)
theorem BV.stay (x:BV P w H h a o) (k:∀ b u,(b=a∨H b=some (.own a))->h.get? b=some u->h'.get? b=some u)
  (ho:∀ b,H b=some (.own a)->H' b=some (.own a)) (ht:∀ b o,Tu o->H b=some o->H' b=some o):BV P w H' h' a o:=by
 have tp:∀ {K:z08}{b:Addr}{xs:List V},TupAt K H b xs->TupAt K H' b xs:=λ {K b xs} z=>by
  rcases z with (z | ⟨o,z⟩) | z
  ·exact .inl (.inl (ht b _ trivial z))
  ·exact .inl (.inr ⟨o,ht b _ trivial z⟩)
  ·exact .inr z
 induction o with
 | mem F K=>
  obtain⟨y,xs,al,ob,es,ep,e,c⟩:=x;exact⟨y,xs,λ q hq=>by
   obtain⟨⟨bs,z1,z2⟩,z3⟩:=al q hq;exact⟨⟨bs,tp z1,Paired.mapP z2 λ _ _ z=>tp z⟩,z3⟩,ob,es,ep,k _ _ (.inl rfl) e,c⟩
 | lst xs=>obtain⟨z,its,n,r,e⟩:=x;exact⟨z,its,n,r,k _ _ (.inl rfl) e⟩
 | tup xs=>obtain⟨z,its,r,ob,e,c⟩:=x;exact⟨z,its,r,ob,k _ _ (.inl rfl) e,c⟩
 | dK kvs=>obtain⟨z,y,vs,r,ob,es,ep,e,c⟩:=x;exact⟨z,y,vs,r,ob,es,ep,k _ _ (.inl rfl) e,c⟩
 | dT kvs=>
  obtain⟨z,y,xs,r,ob,es,ep,e,c⟩:=x;exact⟨z,y,xs,Paired.mapP r λ p q z=>⟨z.1,ht _ _ trivial z.2.1,z.2.2⟩,ob,es,ep,k _ _ (.inl rfl) e,c⟩
 | set S n=>obtain⟨ob,es,ep,t,e,c⟩:=x;exact⟨ob,es,ep,t,k _ _ (.inl rfl) e,c⟩
 | ins C dx fs=>
  obtain⟨d,z,ne,e,mA,⟨od,es,ep,e2,c⟩,r⟩:=x;exact⟨ho _ d,z,ne,k _ _ (.inl rfl) e,mA,⟨od,es,ep,k _ _ (.inr d) e2,c⟩,r⟩
 | own y=>obtain⟨ob,e⟩:=x;exact⟨ob,k _ _ (.inl rfl) e⟩
 | xd fs=>obtain⟨mA,⟨od,es,ep,e,c⟩,r⟩:=x;exact⟨mA,⟨od,es,ep,k _ _ (.inl rfl) e,c⟩,r⟩
 | rng lo hi=>obtain⟨t,u,v,e⟩:=x;exact⟨t,u,v,k _ _ (.inl rfl) e⟩
 | frz ob u ih=>obtain⟨e,q⟩:=x;exact⟨k _ _ (.inl rfl) e,ih q⟩
 | tbl ps=>
  have e:h.get? a=some { cls:=.none,data:=.fields ps }:=x;show h'.get? a=some { cls:=.none,data:=.fields ps };exact k a _ (.inl rfl) e
 | met f y=>
  have e:h.get? a=some (z63 (.ref f) (.ref y)):=x;show h'.get? a=some (z63 (.ref f) (.ref y));exact k a _ (.inl rfl) e
 | ext φ=>obtain⟨p,⟨o,e⟩,st⟩:=x;exact⟨st _ _ p λ o q=>k _ _ (.inl rfl) q,⟨o,k _ _ (.inl rfl) e⟩,st⟩
theorem HOk.lt (x:HOk P w H h) (e:H a=some o):a<h.objs.size:=(x a o e).lt
theorem HOk.fresh (x:HOk P w H h) (e:h.objs.size<=a):H a=none:=by
 cases q:H a with
 | none=>rfl
 | some u=>exact absurd (z0X (x.lt q) e) (z1l _)
theorem HOk.kept (x:HOk P w H h) (k:∀ b u,h.get? b=some u->h'.get? b=some u):HOk P w H h':=λ a o e=>
 (x a o e).stay (λ b u _ q=>k b u q) (λ _ q=>q) λ _ _ _ q=>q
theorem HOk.laid (x:HOk P w H h) (k:∀ b u,h.get? b=some u->h'.get? b=some u) (hp:h.objs.size<=a) (new:BV P w (upd H a o) h' a o):HOk P w (upd H a o) h':=λ b u e=>by
 have hn:=x.fresh hp
 by_cases hb:b=a
 ·subst hb;rw[Aj] at e;cases e;exact new
 ·rw[Ak hb] at e;exact (x b u e).stay (λ c v _ q=>k c v q) (λ c q=>by rw[Ak (Dh q hn)];exact q) λ c xs _ q=>by rw[Ak (Dh q hn)];exact q
end
def Rd (H:Hp) (a:Addr) (u:HO):Prop:=H a=some u∨∃ o,H a=some (.frz o u)
theorem Rd.of {H:Hp}{u:HO}(h:H a=some u):Rd H a u:=.inl h
theorem Rd.ok {H:Hp}{u:HO}(r:Rd H a u) (x:HOk P w H h):BV P w H h a u:=by
 rcases r with r | ⟨o,r⟩
 ·exact x a u r
 ·obtain⟨_,q⟩:=x a _ r;exact q
def Mut:Option HO->Prop
 | some (.lst _)=>True
 | some (.dK _)=>True
 | some (.dT _)=>True
 | some (.set _ _)=>True
 | some (.ins _ _ _)=>True
 | some (.ext _)=>True
 | some (.mem _ _)=>True
 | _=>False
section
variable {H:Hp}{x e:Addr}{o':HO}
theorem HOk.write (ok:HOk P w H h) (mu:Mut (H x)) (he:e=x∨H e=some (.own x)) (k:∀ b u,b≠e->h.get? b=some u->h'.get? b=some u) (heo:∃ u,h'.get? e=some u)
  (new:BV P w (upd H x o') h' x o'):HOk P w (upd H x o') h':=λ b u q=>by
 have nown:∀ c y,H c=some (.own y)->c≠x:=λ c y r z=>by subst z;rw[r] at mu;exact mu
 have ntup:∀ c o,Tu o->H c=some o->c≠x:=λ c o tu r z=>by
  subst z;rw[r] at mu;cases o with
  | tup xs=>exact mu
  | frz p u=>exact mu
  | _=>exact tu
 by_cases hb:b=x
 ·subst hb;rw[Aj] at q;cases q;exact new
 ·rw[Ak hb] at q
  by_cases hbe:b=e
  ·have q':H b=some (.own x):=by
    rcases he with z | z
    ·exact absurd (hbe.trans z) hb
    ·rw[hbe];exact z
   rw[q] at q';cases q';obtain⟨v,hv⟩:=heo;exact⟨v,by rw[hbe];exact hv⟩
  ·refine (ok b u q).stay (λ c v hc r=>k c v ?_ r) (λ c r=>by rw[Ak (nown c b r)];exact r) λ c xs tu r=>by rw[Ak (ntup c xs tu r)];exact r
   rcases hc with rfl | hc
   ·exact hbe
   ·rintro rfl
    rcases he with z | z
    ·exact nown c b hc z
    ·rw[hc] at z;cases z;exact hb rfl
end
structure Un (fs ex:List Addr) (H H':Hp) (h h':Heap):Prop where
 keep:∀ b o,h.get? b=some o->H b=none->b∉fs->b∉ex->h'.get? b=some o
 slot:∀ b o,h.get? b=some o->H b=none->b∈fs->b∉ex->∃ sl,h'.get? b=some { o with slots:=sl }
 free:∀ b o,h.get? b=some o->H b=none->b∉ex->H' b=none
 there:∀ b o,h.get? b=some o->b∉ex->∃ o',h'.get? b=some o'
 tups:∀ b xs,H b=some (.tup xs)->H' b=some (.tup xs)
 frzs:∀ b o u,H b=some (.frz o u)->H' b=some (.frz o u)
 tbls:∀ b ps,H b=some (.tbl ps)->∃ more,H' b=some (.tbl (ps++more))
section
variable {fs fs' ex ex':List Addr}{H H1 H2:Hp}{h1 h2:Heap}{x e:Addr}{o:HO}
theorem Un.any (u:Un fs ex H H1 h h1) {b:Addr}{ob:Obj}(q:h.get? b=some ob) (n:H b=none) (hx:b∉ex):∃ sl,h1.get? b=some { ob with slots:=sl }:=by
 by_cases hb:b∈fs
 ·exact u.slot b ob q n hb hx
 ·exact⟨ob.slots,u.keep b ob q n hb hx⟩
theorem Un.kept (k:∀ b u,h.get? b=some u->h'.get? b=some u):Un fs ex H H h h':=
 ⟨λ b ob q _ _ _=>k b ob q,λ b ob q _ _ _=>⟨ob.slots,k b ob q⟩,λ _ _ _ n _=>n,λ b ob q _=>⟨ob,k b ob q⟩,λ _ _ q=>q,λ _ _ _ q=>q,λ _ ps q=>⟨#[],by rw[q];simp⟩⟩
theorem Un.refl:Un fs ex H H h h:=Un.kept λ _ _ q=>q
theorem Un.laid (k:∀ b u,h.get? b=some u->h'.get? b=some u) (hp:h.objs.size<=a) (hn:H a=none):Un fs ex H (upd H a o) h h' where
 keep:=λ b u q _ _ _=>k b u q
 slot:=λ b u q _ _ _=>⟨u.slots,k b u q⟩
 free:=λ b u q n _=>by rw[Ak (z0j (z0X (z0g q) hp))];exact n
 there:=λ b u q _=>⟨u,k b u q⟩
 tups:=λ b xs q=>by rw[Ak (Dh q hn)];exact q
 frzs:=λ b u xs q=>by rw[Ak (Dh q hn)];exact q
 tbls:=λ b ps q=>⟨#[],by rw[Ak (Dh q hn),q];simp⟩
theorem Un.write (mu:Mut (H x)) (he:e=x∨H e=some (.own x)) (k:∀ b u,b≠e->h.get? b=some u->h'.get? b=some u) (heo:∃ u,h'.get? e=some u):Un fs ex H (upd H x o) h h':=by
 have hx:∀ b,H b=none->b≠x:=λ b n z=>by subst z;rw[n] at mu;exact mu
 have hb:∀ b,H b=none->b≠e:=λ b n z=>by
  subst z
  rcases he with r | r
  ·exact hx b n r
  ·rw[n] at r;cases r
 have hm:∀ b u,H b=some u->¬ Mut (some u)->b≠x:=λ b u q nm z=>by subst z;rw[q] at mu;exact nm mu
 refine⟨λ b u q n _ _=>k b u (hb b n) q,λ b u q n _ _=>⟨u.slots,k b u (hb b n) q⟩,λ b u q n _=>by rw[Ak (hx b n)];exact n,λ b u q _=>?_,
  λ b xs q=>by rw[Ak (hm b _ q λ z=>z)];exact q,λ b u xs q=>by rw[Ak (hm b _ q λ z=>z)];exact q,λ b ps q=>⟨#[],by rw[Ak (hm b _ q λ z=>z),q];simp⟩⟩
 by_cases hbe:b=e
 ·subst hbe;exact heo
 ·exact⟨u,k b u hbe q⟩
end
def trk (h:Heap) (H:Hp):List Addr:=(z0d h.objs.size).filter λ a=>(H a).isSome
def hidT (h:Heap) (H:Hp):Heap:=PySem.W.hideAll h (trk h H)
theorem bD (h:Heap) (H:Hp):(hidT h H).objs.size=h.objs.size:=PySem.W.hideAll_size _ _
theorem dH {H:Hp}(e:h.get? b=some o) (n:H b=none):(hidT h H).get? b=some o:=
 PySem.W.hideAll_get _ e λ hm=>by
  have q:(H b).isSome=true:=(z2s.mp hm).2;rw[n] at q;simp at q
theorem mR {H:Hp}(e:(hidT h H).get? b=some o):h.get? b=some o/\H b=none:=by
 have e':h.get? b=some o:=PySem.W.of_hideAll (trk h H) e;refine⟨e',?_⟩;cases q:H b with
 | none=>rfl
 | some x=>
  have hm:b∈trk h H:=z2s.mpr ⟨z0o.mpr (z0g e'),by simp[q]⟩;have z:(hidT h H).get? b=none:=PySem.W.hideAll_none (trk h H) hm;rw[z] at e;cases e
def mU (g h:Heap) (L:Addr):List (Addr×Obj):=(z0d h.objs.size).filterMap λ a=>if a=L∨(g.get? a).isSome=true then none else (h.get? a).map λ o=>(a,o)
def rest (g h:Heap) (L d:Addr):List (Addr×Obj):=(mU g h L).filter λ p=>decide (p.1≠d)
structure Mod (K:z08) (mg:Str->Option z00) (base:Heap):Prop where
 kin:K.In base
 glob:base.Ns z0T mg
 blt:∃ mb,base.Ns z64 mb/\∀ x:Str,x≠"__name__"->mb x=z0x x
 nolimit:base.NoLimit
structure Cx where
 prog:z0s
 w:z0k
 K:z08
 mg:Str->Option z00
 base:Heap
 A:z0a
 N:List Str
 s₀:z03
 H₀:Hp
 env:Env
 outer:List Env
 stack:List Env
 ex:List Addr
 fn:Str->Bool
 calm:Bool
 pn:List (Addr×Obj)
 xe:z00->z03->Prop
def frs (l:List Env):List Addr:=l.filterMap (·.frame)
abbrev Cx.fs (X:Cx):List Addr:=frs X.outer
def Vis (sc:z26) (x:Str):Prop:=sc.names.lookup x=some .local ∨sc.names.lookup x=some .cell ∨sc.names.lookup x=some .free
def Loc (sc:z26) (x:Str):Prop:=sc.names.lookup x=some .local ∨sc.names.lookup x=some .cell
def Look (env:Env) (h:Heap) (m:Str->Option z00) (x:Str) (u:z00):Prop:=
 (env.kindOf x=some .local /\m x=some u)∨((env.kindOf x=some .cell ∨env.kindOf x=some .free)/\∃ c,env.cells.lookup x=some c/\h.IsCell c (some u))
structure Cx.Ok (X:Cx):Prop where
 mod:Mod X.K X.mg X.base
 kind:X.env.scope.kind=.function
 glob:X.env.globals=z0T
 blt:X.env.builtins=z64
 above:X.s₀.heap.objs.size<=X.env.locals
 inj:∀ x y c,X.env.cells.lookup x=some c->X.env.cells.lookup y=some c->x=y
 has:∀ x,(X.env.kindOf x=some .cell ∨X.env.kindOf x=some .free)->∃ c,X.env.cells.lookup x=some c
 cab:∀ x c,X.fn x=true->X.env.cells.lookup x=some c->X.s₀.heap.objs.size<=c
 hd:X.calm=true->X.A.handled=none
 frames:X.A.frames=some X.stack
 stk:X.stack=X.outer∨(X.stack=X.env::X.outer/\X.env.frame=some X.env.locals)
 exf:∀ b∈X.ex,b≠X.env.locals/\∀ x c,X.env.cells.lookup x=some c->c≠b
 bs:∀ b o,X.base.get? b=some o->X.s₀.heap.get? b=some o/\X.H₀ b=none
 bsz:X.base.objs.size<=X.s₀.heap.objs.size
 noex:∀ b o,X.base.get? b=some o->b∉X.ex
 exfs:∀ b∈X.ex,b∉X.fs
 funs:X.s₀.heap.FunFrames X.base X.outer
 frf:∀ b∈X.fs,X.H₀ b=none
structure Inv (X:Cx) (π:zP) (σ:List (Option V)) (H:Hp) (s:z03):Prop where
 ok:X.Ok
 os:s.os=X.s₀.os
 bare:z2j s.gens
 base:Un X.fs X.ex X.H₀ H X.s₀.heap s.heap
 loc:∃ m,s.heap.Ns X.env.locals m/\∀ (i:Nat) (x:Str) (v:V),X.N[i]?=some x->σ[i]?=some (some v)->Vis X.env.scope x->∃ u,RelV v u/\Look X.env s.heap m x u
 cell:∀ x c,X.env.cells.lookup x=some c->∃ v,s.heap.IsCell c v
 free:H X.env.locals=none
 freeC:∀ x c,X.env.cells.lookup x=some c->H c=none
 pin:∀ p∈X.pn++π,s.heap.get? p.1=some p.2/\H p.1=none/\p.1≠X.env.locals/\p.1∉X.fs/\∀ v,p.2.data≠.cell v
 hok:HOk X.prog X.w H s.heap
 len:σ.length=X.N.length
section
variable {X:Cx}{σ:List (Option V)}{H H':Hp}
theorem Cx.Ok.nofr (ok:X.Ok) {b:Addr}{o:Obj}(e:X.base.get? b=some o):b∉X.fs:=λ hb=>by
 have:=(ok.funs.mem hb).1;rw[e] at this;cases this
theorem Inv.bs (I:Inv X π σ H s):∀ b o,X.base.get? b=some o->s.heap.get? b=some o/\H b=none:=λ b o e=>
 ⟨I.base.keep b o (I.ok.bs b o e).1 (I.ok.bs b o e).2 (I.ok.nofr e) (I.ok.noex b o e),I.base.free b o (I.ok.bs b o e).1 (I.ok.bs b o e).2 (I.ok.noex b o e)⟩
theorem Inv.bk (I:Inv X π σ H s):∀ b o,X.base.get? b=some o->s.heap.get? b=some o:=λ b o e=>(I.bs b o e).1
theorem Inv.mod (I:Inv X π σ H s):Mod X.K X.mg X.base:=I.ok.mod
theorem Inv.kIn (I:Inv X π σ H s):X.K.In s.heap:=I.ok.mod.kin.keeps I.bk
theorem Inv.lt (I:Inv X π σ H s):X.env.locals<s.heap.objs.size:=let ⟨_,hn,_⟩:=I.loc;hn.lt
theorem Inv.sz (I:Inv X π σ H s):X.s₀.heap.objs.size<=s.heap.objs.size:=z0A I.ok.above (z3E I.lt)
theorem Inv.nofs (I:Inv X π σ H s) {a:Addr}(h:s.heap.objs.size<=a):a∉X.fs:=λ hb=>by
 obtain⟨_,o,ho,_⟩:=I.ok.funs.mem hb;exact absurd (z0X (z0g ho) (z0A I.sz h)) (z1l _)
theorem Inv.cne (I:Inv X π σ H s):∀ x c,X.env.cells.lookup x=some c->c≠X.env.locals:=λ x c e z=>by
 obtain⟨v,o,ho,hd⟩:=I.cell x c e;obtain⟨m,⟨o',es,ep,ho',hd',_⟩,_⟩:=I.loc;rw[z,ho'] at ho;cases ho;rw[hd'] at hd;cases hd
theorem Inv.funs (I:Inv X π σ H s):s.heap.FunFrames X.base X.outer:=by
 have all:∀ (l:List Env),(∀ b∈frs l,b∈X.fs)->X.s₀.heap.FunFrames X.base l->s.heap.FunFrames X.base l:=by
  intro l
  induction l with
  | nil=>intro _ _;trivial
  | cons env r ih=>
   intro hs hl;obtain⟨hk,⟨L,o,hf,hn,ho,hd⟩,hr⟩:=hl;have hL:L∈X.fs:=hs L (by unfold frs;rw[z65,hf];exact z0O);obtain⟨sl,e⟩:=I.base.slot L o ho (I.ok.frf L hL) hL λ z=>I.ok.exfs L z hL;exact⟨hk,⟨L,_,hf,hn,e,hd⟩,ih (λ b hb=>hs b (by unfold frs;rw[z65,hf];exact z0y _ hb)) hr⟩
 exact all X.outer (λ _ hb=>hb) I.ok.funs
theorem Inv.stack (I:Inv X π σ H s):s.heap.FunFrames X.base X.stack:=by
 rcases I.ok.stk with e | ⟨e,hf⟩
 ·rw[e];exact I.funs
 ·rw[e];obtain⟨m,hn,_⟩:=I.loc;refine .cons (by rw[I.ok.kind];decide) hf hn ?_ I.funs;exact Heap.get?_none_of_le (z0A I.ok.bsz I.ok.above)
theorem Inv.stkSub (I:Inv X π σ H s):∀ b∈frs X.stack,b∈X.env.locals::X.fs:=λ b hb=>by
 rcases I.ok.stk with e | ⟨e,hf⟩
 ·rw[e] at hb;exact z0y _ hb
 ·rw[e] at hb;unfold frs at hb;rw[z65,hf] at hb;exact hb
theorem Inv.stkFree (I:Inv X π σ H s):∀ b∈frs X.stack,H b=none:=λ b hb=>by
 rcases z0i.mp (I.stkSub b hb) with e | hb
 ·rw[e];exact I.free
 ·obtain⟨_,o,ho,_⟩:=I.ok.funs.mem hb;exact I.base.free b o ho (I.ok.frf b hb) λ z=>I.ok.exfs b z hb
theorem Inv.step {g':Array GenState}{d':Drawn}(I:Inv X π σ H s)
  (hch:∀ b∈ch,(b∈X.ex∨X.s₀.heap.objs.size<=b)/\b≠X.env.locals/\(∀ x c,X.env.cells.lookup x=some c->c≠b)/\∀ p∈X.pn++π,p.1≠b)
  (keep:∀ b o,b≠X.env.locals->b∉X.fs->b∉ch->s.heap.get? b=some o->H b=none->h'.get? b=some o)
  (slot:∀ b o,b≠X.env.locals->b∈X.fs->b∉ch->s.heap.get? b=some o->H b=none->∃ sl,h'.get? b=some { o with slots:=sl }) (free:∀ b o,b∉ch->s.heap.get? b=some o->H b=none->H' b=none)
  (there:∀ b o,b∉ch->s.heap.get? b=some o->∃ o',h'.get? b=some o')
  (tups:∀ b xs,H b=some (.tup xs)->H' b=some (.tup xs)) (frzs:∀ b o u,H b=some (.frz o u)->H' b=some (.frz o u)) (tbls:∀ b ps,H b=some (.tbl ps)->∃ more,H' b=some (.tbl (ps++more)))
  (ns:∀ m,s.heap.Ns X.env.locals m->h'.Ns X.env.locals m) (hok:HOk X.prog X.w H' h') (hg:z2j g') :
  Inv X π σ H' { s with heap:=h',gens:=g',drawn:=d',toks:=t' }:=by
 have neL:∀ b o,X.s₀.heap.get? b=some o->b≠X.env.locals:=λ b o e=>z0j (z0X (z0g e) I.ok.above);have neC:∀ b o,X.s₀.heap.get? b=some o->b∉X.ex->b∉ch:=λ b o e hx hb=>by
  rcases (hch b hb).1 with z | z
  ·exact hx z
  ·exact absurd (z0X (z0g e) z) (z1l _)
 have cellK:∀ x c,X.env.cells.lookup x=some c->∀ v,s.heap.IsCell c v->h'.IsCell c v:=λ x c e v ⟨o,ho,hd⟩=>by
  have nch:c∉ch:=λ z=>(hch c z).2.2.1 x c e rfl
  by_cases hc:c∈X.fs
  ·obtain⟨sl,q⟩:=slot c o (I.cne x c e) hc nch ho (I.freeC x c e);exact⟨_,q,hd⟩
  ·exact⟨o,keep c o (I.cne x c e) hc nch ho (I.freeC x c e),hd⟩
 refine⟨I.ok,I.os,hg,⟨λ b o e n hb hx=>?_,λ b o e n hb hx=>?_,λ b o e n hx=>?_,λ b o e hx=>?_,λ b xs e=>tups b xs (I.base.tups b xs e),λ b o xs e=>frzs b o xs (I.base.frzs b o xs e),λ b ps e=>?_⟩,?_,λ x c e=>?_,?_,λ x c e=>?_,λ p hp=>?_,hok,I.len⟩
 ·exact keep b o (neL b o e) hb (neC b o e hx) (I.base.keep b o e n hb hx) (I.base.free b o e n hx)
 ·obtain⟨sl,e1⟩:=I.base.slot b o e n hb hx;obtain⟨sl',e2⟩:=slot b _ (neL b o e) hb (neC b o e hx) e1 (I.base.free b o e n hx);exact⟨sl',e2⟩
 ·obtain⟨o',e1⟩:=I.base.there b o e hx;exact free b o' (neC b o e hx) e1 (I.base.free b o e n hx)
 ·obtain⟨o',e1⟩:=I.base.there b o e hx;exact there b o' (neC b o e hx) e1
 ·obtain⟨m1,e1⟩:=I.base.tbls b ps e;obtain⟨m2,e2⟩:=tbls b _ e1;exact⟨m1++m2,by rw[e2,Array.append_assoc]⟩
 ·obtain⟨m,hn,hl⟩:=I.loc;refine⟨m,ns m hn,λ i x v e1 e2 e3=>?_⟩;obtain⟨u,r,l⟩:=hl i x v e1 e2 e3;refine⟨u,r,?_⟩
  rcases l with l | ⟨k,c,e,z⟩
  ·exact .inl l
  ·exact .inr ⟨k,c,e,cellK x c e _ z⟩
 ·obtain⟨v,z⟩:=I.cell x c e;exact⟨v,cellK x c e v z⟩
 ·obtain⟨m,⟨o,_,_,ho,_⟩,_⟩:=I.loc;exact free _ o (λ z=>(hch _ z).2.1 rfl) ho I.free
 ·obtain⟨v,o,ho,hd⟩:=I.cell x c e;exact free c o (λ z=>(hch c z).2.2.1 x c e rfl) ho (I.freeC x c e)
 ·obtain⟨e,n,ne,nf,d⟩:=I.pin p hp;have nch:p.1∉ch:=λ z=>(hch p.1 z).2.2.2 p hp rfl;exact⟨keep p.1 p.2 ne nf nch e n,free p.1 p.2 nch e n,ne,nf,d⟩
theorem Inv.un (I:Inv X π σ H s) (u:Un X.fs [] H H' s.heap h') (hok:HOk X.prog X.w H' h'):Inv X π σ H' { s with heap:=h',toks:=t' }:=by
 obtain⟨m,⟨o,es,ep,ho,r⟩,_⟩:=id I.loc;obtain⟨sl,hL⟩:=u.any ho I.free (by simp);exact I.step (g':=s.gens) (d':=s.drawn) (ch:=[]) (λ _ z=>nomatch z) (λ b o _ hb _ e n=>u.keep b o e n hb (by simp)) (λ b o _ hb _ e n=>u.slot b o e n hb (by simp)) (λ b o _ e n=>u.free b o e n (by simp)) (λ b o _ e=>u.there b o e (by simp)) u.tups u.frzs u.tbls (λ m' hm=>by
  obtain⟨o',es',ep',ho',r'⟩:=hm;rw[ho] at ho';cases ho';exact⟨_,es',ep',hL,r'⟩) hok I.bare
theorem Inv.call {g':Array GenState}{d':Drawn}(I:Inv X π σ H s) (u:Un (frs X.stack) ch H H' s.heap h') (hok:HOk X.prog X.w H' h') (hg:z2j g')
  (hch:∀ b∈ch,(b∈X.ex∨X.s₀.heap.objs.size<=b)/\b≠X.env.locals/\(∀ x c,X.env.cells.lookup x=some c->c≠b)/\∀ p∈X.pn++π,p.1≠b) :
  Inv X π σ H' { s with heap:=h',gens:=g',drawn:=d',toks:=t' }:=by
 obtain⟨m,⟨o,es,ep,ho,r⟩,_⟩:=id I.loc;obtain⟨sl,hL⟩:=u.any ho I.free λ z=>(hch _ z).2.1 rfl;exact I.step (ch:=ch) hch (λ b o hL hb hc e n=>u.keep b o e n (λ z=>(z0i.mp (I.stkSub b z)).elim hL hb) hc) (λ b o _ _ hc e n=>u.any e n hc) (λ b o hc e n=>u.free b o e n hc) (λ b o hc e=>u.there b o e hc) u.tups u.frzs u.tbls (λ m' hm=>by
  obtain⟨o',es',ep',ho',r'⟩:=hm;rw[ho] at ho';cases ho';exact⟨_,es',ep',hL,r'⟩) hok hg
theorem Inv.turned (I:Inv X π σ H s) (k:∀ b o,b≠it->s.heap.get? b=some o->h'.get? b=some o) (hn:H it=none) (hL:it≠X.env.locals)
  (h1:it∈X.ex∨X.s₀.heap.objs.size<=it) (h2:∀ x c,X.env.cells.lookup x=some c->c≠it) (h3:∀ p∈X.pn++π,p.1≠it):Inv X π σ H { s with heap:=h',toks:=t' }:=by
 have nit:∀ b u,H b=some u->b≠it:=λ b u e z=>by rw[z,hn] at e;cases e
 refine I.step (g':=s.gens) (d':=s.drawn) (ch:=[it]) (λ b hb=>?_) (λ b o _ _ hc e _=>k b o (λ z=>hc (by simp[z])) e) (λ b o _ _ hc e _=>⟨o.slots,k b o (λ z=>hc (by simp[z])) e⟩) (λ _ _ _ _ n=>n)
  (λ b o hc e=>⟨o,k b o (λ z=>hc (by simp[z])) e⟩) (λ _ _ e=>e) (λ _ _ _ e=>e) (λ b ps e=>⟨#[],by rw[e];simp⟩) (λ m hm=>?_) (λ b u e=>?_) I.bare
 ·have e:b=it:=by simpa using hb
  subst e;exact⟨h1,hL,h2,h3⟩
 ·obtain⟨o,es,ep,ho,r⟩:=hm;exact⟨o,es,ep,k _ o (z0n hL) ho,r⟩
 ·refine (I.hok b u e).stay (λ c v hc q=>k c v ?_ q) (λ _ q=>q) λ _ _ _ q=>q
  rcases hc with z | z
  ·rw[z];exact nit b u e
  ·exact nit c _ z
theorem Inv.tok (I:Inv X π σ H s) (t:Nat):Inv X π σ H { s with toks:=t }:=I.un (h':=s.heap) (t':=t) Un.refl I.hok
theorem Inv.kept {t':Nat}(I:Inv X π σ H s) (k:∀ b u,s.heap.get? b=some u->h'.get? b=some u):Inv X π σ H { s with heap:=h',toks:=t' }:=I.un (Un.kept k) (I.hok.kept k)
theorem Inv.laid {a:Addr}{o:HO}{t':Nat}(I:Inv X π σ H s) (k:∀ b u,s.heap.get? b=some u->h'.get? b=some u) (hp:s.heap.objs.size<=a) (new:BV X.prog X.w (upd H a o) h' a o) :
  Inv X π σ (upd H a o) { s with heap:=h',toks:=t' }:=I.un (Un.laid k hp (I.hok.fresh hp)) (I.hok.laid k hp new)
theorem Inv.write {x e:Addr}{o:HO}{t':Nat}(I:Inv X π σ H s) (mu:Mut (H x)) (he:e=x∨H e=some (.own x)) (k:∀ b u,b≠e->s.heap.get? b=some u->h'.get? b=some u) (heo:∃ u,h'.get? e=some u)
  (new:BV X.prog X.w (upd H x o) h' x o):Inv X π σ (upd H x o) { s with heap:=h',toks:=t' }:=I.un (Un.write mu he k heo) (I.hok.write mu he k heo new)
theorem Inv.pins_of {pins':zP}(I:Inv X π σ H s) (h:∀ p∈pins',s.heap.get? p.1=some p.2/\H p.1=none/\p.1≠X.env.locals/\p.1∉X.fs/\∀ v,p.2.data≠.cell v):Inv X pins' σ H s:=
 ⟨I.ok,I.os,I.bare,I.base,I.loc,I.cell,I.free,I.freeC,λ p hp=>(z0U.mp hp).elim (λ z=>I.pin p (z66 _ z)) (h p),I.hok,I.len⟩
theorem Nh (hN:N.Nodup) {i j:Nat}{x:Str}(a:N[i]?=some x) (b:N[j]?=some x):i=j:=by
 obtain⟨h1,e1⟩:=z1r.mp a;obtain⟨h2,e2⟩:=z1r.mp b;exact (List.getElem_inj hN).mp (e1.trans e2.symm)
theorem bG {A:z0a}{v:V}{Q:Unit->z03->Prop}(I:Inv X π σ H s) (hN:X.N.Nodup) (hi:X.N[i]?=some x) (hx:Loc X.env.scope x) (r:RelV v u)
  (h:∀ s',Inv X π (σ.set i (some v)) H s'->(∃ a,z14 a s.heap s'.heap/\(a=X.env.locals∨X.env.cells.lookup x=some a))->Q () s') (hf:X.fn x=true∨X.env.scope.names.lookup x=some .local :=by first | exact .inl rfl | exact .inr rfl | assumption):z02 M A (storeName X.env x u) Q E s:=by
 obtain⟨m,hn,hl⟩:=id I.loc;have hcls:(X.env.scope.kind==.class||(X.env.scope.kind==.module&&X.env.locals != X.env.globals))=false:=by rw[I.ok.kind];rfl
 have hiσ:i<σ.length:=by rw[I.len];exact (z1r.mp hi).1
 have cne:=I.cne;have tracked:∀ {a:Addr}{h':Heap},(∃ o,s.heap.get? a=some o/\H a=none)->z14 a s.heap h'->HOk X.prog X.w H h':=λ {a h'} ha hs b ob e=>by
  obtain⟨_,_,hfree⟩:=ha;refine (I.hok b ob e).stay (λ c w' hc q=>(hs.2 c ?_).trans q) (λ _ q=>q) λ _ _ _ q=>q;rintro rfl
  rcases hc with rfl | hc
  ·rw[hfree] at e;cases e
  ·rw[hfree] at hc;cases hc
 rcases hx with hk | hk
 ·refine wpAny_storeName_local hk hn (λ h' hn' hs=>?_) hcls;obtain⟨oL,_,_,hoL,_⟩:=id hn;refine h _ ⟨I.ok,I.os,I.bare,⟨λ b o e n hb hx=>?_,λ b o e n hb hx=>?_,I.base.free,λ b o e hx=>?_,I.base.tups,I.base.frzs,I.base.tbls⟩,⟨_,hn',λ j y v' e1 e2 e3=>?_⟩,λ y c e=>?_,I.free,I.freeC,λ p hp=>?_,tracked ⟨oL,hoL,I.free⟩ hs,by simpa using I.len⟩ ⟨_,hs,.inl rfl⟩
  ·exact (hs.2 b (z0j (z0X (z0g e) I.ok.above))).trans (I.base.keep b o e n hb hx)
  ·obtain⟨sl,e1⟩:=I.base.slot b o e n hb hx;exact⟨sl,(hs.2 b (z0j (z0X (z0g e) I.ok.above))).trans e1⟩
  ·obtain⟨o',e1⟩:=I.base.there b o e hx;exact⟨o',(hs.2 b (z0j (z0X (z0g e) I.ok.above))).trans e1⟩
  ·by_cases hj:j=i
   ·subst hj;rw[hi] at e1;cases e1;rw[z2k hiσ] at e2;cases e2;exact⟨u,r,.inl ⟨hk,by simp⟩⟩
   ·rw[z1m (z0n hj)] at e2;obtain⟨u',r',q⟩:=hl j y v' e1 e2 e3;refine⟨u',r',?_⟩
    rcases q with ⟨k,e⟩ | ⟨k,c,e,z⟩
    ·refine .inl ⟨k,?_⟩;have:y≠x:=λ e=>hj (Nh hN e1 (e▸hi));simp[this,e]
    ·exact .inr ⟨k,c,e,z.sameBut hs (cne y c e)⟩
  ·obtain⟨w',z⟩:=I.cell y c e;exact⟨w',z.sameBut hs (cne y c e)⟩
  ·obtain⟨e,n,ne,nf,d⟩:=I.pin p hp;exact⟨(hs.2 p.1 ne).trans e,n,ne,nf,d⟩
 ·have hfn:X.fn x=true:=by
   rcases hf with z | z
   ·exact z
   ·rw[z] at hk;cases hk
  obtain⟨c,hc⟩:=I.ok.has x (.inl hk);obtain⟨w',z⟩:=I.cell x c hc;refine wpAny_storeName_cell I.ok.kind hk hc z (λ h' hc' hs=>?_);obtain⟨oc,hoc,hocd⟩:=id z;refine h { s with heap:=h' } ⟨I.ok,I.os,I.bare,⟨λ b o e n hb hx=>?_,λ b o e n hb hx=>?_,I.base.free,λ b o e hx=>?_,I.base.tups,I.base.frzs,I.base.tbls⟩,⟨m,hn.sameBut hs (z0n (cne x c hc)),λ j y v' e1 e2 e3=>?_⟩,λ y c' e=>?_,I.free,I.freeC,λ p hp=>?_,tracked ⟨oc,hoc,I.freeC x c hc⟩ hs,by simpa using I.len⟩ ⟨c,hs,.inr hc⟩
  ·exact (hs.2 b (z0j (z0X (z0g e) (I.ok.cab x c hfn hc)))).trans (I.base.keep b o e n hb hx)
  ·obtain⟨sl,e1⟩:=I.base.slot b o e n hb hx;exact⟨sl,(hs.2 b (z0j (z0X (z0g e) (I.ok.cab x c hfn hc)))).trans e1⟩
  ·obtain⟨o',e1⟩:=I.base.there b o e hx;exact⟨o',(hs.2 b (z0j (z0X (z0g e) (I.ok.cab x c hfn hc)))).trans e1⟩
  ·by_cases hj:j=i
   ·subst hj;rw[hi] at e1;cases e1;rw[z2k hiσ] at e2;cases e2;exact⟨u,r,.inr ⟨.inl hk,c,hc,hc'⟩⟩
   ·rw[z1m (z0n hj)] at e2;obtain⟨u',r',q⟩:=hl j y v' e1 e2 e3;refine⟨u',r',?_⟩
    rcases q with q | ⟨k,c',e,z'⟩
    ·exact .inl q
    ·refine .inr ⟨k,c',e,z'.sameBut hs ?_⟩;rintro rfl;exact hj (Nh hN e1 (I.ok.inj _ _ _ e hc▸hi))
  ·by_cases hcc:c'=c
   ·subst hcc;exact⟨_,hc'⟩
   ·obtain⟨w2,z2⟩:=I.cell y c' e;exact⟨w2,z2.sameBut hs hcc⟩
  ·obtain⟨e,n,ne,nf,d⟩:=I.pin p hp;refine⟨(hs.2 p.1 ?_).trans e,n,ne,nf,d⟩;intro q;rw[q,hoc] at e;have q':oc=p.2:=z0w e;exact d w' (by rw[<-q'];exact hocd)
theorem V2 {A:z0a}{v:V}{Q:Unit->z03->Prop}(I:Inv X π σ H s) (hN:X.N.Nodup) (hi:X.N[i]?=some x) (hx:Loc X.env.scope x) (r:RelV v u)
  (h:∀ s',Inv X π (σ.set i (some v)) H s'->Q () s') (hf:X.fn x=true∨X.env.scope.names.lookup x=some .local :=by first | exact .inl rfl | exact .inr rfl | assumption):z02 M A (storeName X.env x u) Q E s:=
 bG I hN hi hx r (λ s' I' _=>h s' I') hf
theorem Inv.call' {s':z03}(I:Inv X π σ H s) (ho:s'.os=s.os) (u:Un (frs X.stack) ch H H' s.heap s'.heap) (hok:HOk X.prog X.w H' s'.heap) (hg:z2j s'.gens)
  (hch:∀ b∈ch,(b∈X.ex∨X.s₀.heap.objs.size<=b)/\b≠X.env.locals/\(∀ x c,X.env.cells.lookup x=some c->c≠b)/\∀ p∈X.pn++π,p.1≠b):Inv X π σ H' s':=by
 obtain⟨h',g',d',t',o'⟩:=s';have e:o'=s.os:=ho;subst e;exact I.call (g':=g') (t':=t') (d':=d') u hok hg hch
end
abbrev XK:=z00->Option Addr->Hp->Prop
abbrev St:=List (Option V)
abbrev VK:=V->Hp->Prop
abbrev TE:=St->Hp->VK->Prop
abbrev TT:=St->Hp->(Bool->Hp->Prop)->Prop
abbrev TA:=St->Hp->(List V->Hp->Prop)->Prop
structure Ends where
 nx:St->Hp->Prop
 rt:VK
 bk:St->Hp->Prop:=λ _ _=>False
 ct:St->Hp->Prop:=λ _ _=>False
abbrev TS:=Ends->St->Hp->Prop
def EP (X:Cx) (π:zP) (σ:St) (Q:VK) (u:z00) (s':z03):Prop:=∃ v H',Inv X π σ H' s'/\RelV v u/\Q v H'
def TP (X:Cx) (π:zP) (σ:St) (Q:Bool->Hp->Prop) (b:Bool) (s':z03):Prop:=∃ H',Inv X π σ H' s'/\Q b H'
def AP (X:Cx) (π:zP) (σ:St) (Q:List V->Hp->Prop) (us:List z00) (s':z03):Prop:=∃ vs H',Inv X π σ H' s'/\Vals vs us/\Q vs H'
def SP (X:Cx) (π:zP) (D:Ends) (f:Flow) (s':z03):Prop:=
 match f with
 | .next=>∃ σ' H',Inv X π σ' H' s'/\D.nx σ' H'
 | .brk=>∃ σ' H',Inv X π σ' H' s'/\D.bk σ' H'
 | .cont=>∃ σ' H',Inv X π σ' H' s'/\D.ct σ' H'
 | .ret u=>∃ v σ' H',Inv X π σ' H' s'/\RelV v u/\D.rt v H'
def PE (X:Cx) (e:Expr) (t:TE):Prop:=
 ∀ (π:zP) (s:z03) (σ:St) (H:Hp) (Q:VK),Inv X π σ H s->t σ H Q->z02 .(0) X.A (eval e X.env) (EP X π σ Q) X.xe s
def PT (X:Cx) (e:Expr) (t:TT):Prop:=
 ∀ (π:zP) (s:z03) (σ:St) (H:Hp) (Q:Bool->Hp->Prop),Inv X π σ H s->t σ H Q->z02 .(0) X.A (z2G e X.env (eval e X.env)) (TP X π σ Q) X.xe s
def PW (X:Cx) (e:Expr) (t:TT):Prop:=
 ∀ (whole:Sem z00) (π:zP) (s:z03) (σ:St) (H:Hp) (Q:Bool->Hp->Prop),Inv X π σ H s->t σ H Q->z02 .(0) X.A (z2G e X.env whole) (TP X π σ Q) X.xe s
theorem PW.pt {X:Cx}{t:TT}(h:PW X e t):PT X e t:=h _
def PA (X:Cx) (es:List Expr) (t:TA):Prop:=
 ∀ (pos:Pos) (π:zP) (s:z03) (σ:St) (H:Hp) (Q:List V->Hp->Prop),Inv X π σ H s->t σ H Q->z02 .(0) X.A (spliced .(37)) (AP X π σ Q) X.xe s
def PS (X:Cx) (st:Stmt) (t:TS):Prop:=
 ∀ (π:zP) (s:z03) (σ:St) (H:Hp) (D:Ends),Inv X π σ H s->t D σ H->z02 .(0) X.A (exec st X.env) (SP X π D) X.xe s
def PSs (X:Cx) (st:List Stmt) (t:TS):Prop:=
 ∀ (π:zP) (s:z03) (σ:St) (H:Hp) (D:Ends),Inv X π σ H s->t D σ H->z02 .(0) X.A (z1K st X.env) (SP X π D) X.xe s
theorem thn {α:Type}{t:Sem α}{Q Q':α->z03->Prop}{A:z0a}(h:z02 M A t Q E s) (hQ:∀ a s,Q a s->Q' a s):z02 M A t Q' E s:=z1s h hQ λ _ _ x=>x
section
variable {X:Cx}
theorem bin {a b:Expr}{ta tb:TE}(ha:PE X a ta) (hb:PE X b tb) {π:zP}{s:z03}{σ:St}{H:Hp}{R:V->V->Hp->Prop}(I:Inv X π σ H s) (h:ta σ H λ x H1=>tb σ H1 λ y H2=>R x y H2)
  {α:Type}{Q:α->z03->Prop}{f:z00->z00->Sem α}
  (hf:∀ v u s2 x y H2,Inv X π σ H2 s2->RelV x v->RelV y u->R x y H2->z02 .(0) X.A (f v u) Q X.xe s2) :
  z02 .(0) X.A (eval a X.env) (λ v s₁=>z02 .(0) X.A (eval b X.env) (λ u s₂=>z02 .(0) X.A (f v u) Q X.xe s₂) X.xe s₁) X.xe s:=by
 refine thn (ha π s σ H _ I h) λ v s1 ⟨x,H1,I1,r1,q1⟩=>?_;refine thn (hb π s1 σ H1 _ I1 q1) λ u s2 ⟨y,H2,I2,r2,q2⟩=>?_;exact hf v u s2 x y H2 I2 r1 r2 q2
def tVar (i:Nat):TE:=λ σ H Q=>∃ v,σ[i]?=some (some v)/\Q v H
def tC (v:V):TE:=λ _ H Q=>Q v H
theorem Xd (hN:X.N[i]?=some x) (hv:Vis X.env.scope x) (hd:.(3)=false:=by decide) (hcd:.(27)=false:=by decide):PE X (.Name x pos) (tVar i):=by
 intro π s σ H Q I h;obtain⟨v,e,h⟩:=h;obtain⟨m,hn,hl⟩:=I.loc;obtain⟨u,r,l⟩:=hl i x v hN e hv;have fin:EP X π σ Q u s:=⟨v,H,I,r,h⟩
 rcases l with ⟨hk,hm⟩ | ⟨hk,c,hc,hcell⟩
 ·exact z3F (z7X I.ok.kind hk hn hm fin) hd
 ·rcases hk with hk | hk
  ·exact z3F (z7Y I.ok.kind hk hc hcell fin) hd
  ·exact z3F (z7Z I.ok.kind hk hc hcell fin hcd) hd
theorem uG {i j pos}:PE X (.Constant (.int i) j pos) (tC (.int i)):=λ _ _ _ H _ I h=>z67 ⟨.int i,H,I.tok _,⟨_,rfl⟩,h⟩
theorem wQ {b j pos}:PE X (.Constant (.bool b) j pos) (tC (.bl b)):=λ _ _ _ H _ I h=>Constant_bool ⟨.bl b,H,I,rfl,h⟩
theorem uH {j pos}:PE X (.Constant .none j pos) (tC .non):=λ _ _ _ H _ I h=>Constant_none ⟨.non,H,I,rfl,h⟩
theorem uI {x j pos}:PE X (.Constant (.str x) j pos) (tC (.str x)):=λ _ _ _ H _ I h=>Calls.Constant_str ⟨.str x,H,I.tok _,⟨_,rfl⟩,h⟩
def Gl (X:Cx) (x:Str):Prop:=X.env.kindOf x=some .globalImplicit
theorem Uj {σ:St}{H:Hp}(I:Inv X π σ H s) (hg:Gl X x) (hm:X.mg x=some u) (h:Q u s)
  (hd:.(3)=false:=by decide):z02 .(0) X.A (eval (.Name x pos) X.env) Q E s:=
 z7_ I.ok.kind hg (Calls.loadGlobal_global (by rw[I.ok.glob];exact I.mod.glob.keeps I.bk) hm h) hd
theorem Kr {σ:St}{H:Hp}(I:Inv X π σ H s) (hg:Gl X x) (hm:X.mg x=none) (hv:z0x x=some u) (h:Q u s)
  (hn:x≠"__name__":=by decide) (hd:.(3)=false:=by decide):z02 .(0) X.A (eval (.Name x pos) X.env) Q E s:=by
 obtain⟨mb,h1,h2⟩:=I.mod.blt;exact z7_ I.ok.kind hg (Calls.loadGlobal_builtin (by rw[I.ok.glob];exact I.mod.glob.keeps I.bk) hm (by rw[I.ok.blt];exact h1.keeps I.bk) ((h2 x hn).trans hv) h) hd
theorem Lj {v:V}(hg:Gl X x) (hm:X.mg x=some u) (r:RelV v u) (hd:.(3)=false:=by decide):PE X (.Name x pos) (tC v):=
 λ _ _ _ H _ I h=>Uj I hg hm ⟨v,H,I,r,h⟩ hd
theorem mV {v:V}(hg:Gl X x) (hm:X.mg x=none) (hv:z0x x=some u) (r:RelV v u) (hn:x≠"__name__":=by decide) (hd:.(3)=false:=by decide):PE X (.Name x pos) (tC v):=
 λ _ _ _ H _ I h=>Kr I hg hm hv ⟨v,H,I,r,h⟩ hn hd
def t2I (ta tb:TE) (k:Int->Int->Hp->Prop):St->Hp->Prop:=λ σ H=>ta σ H λ x H1=>tb σ H1 λ y H2=>∃ i j,x=.int i/\y=.int j/\k i j H2
variable {a b:Expr}{ta tb:TE}
def PC (X:Cx) (op:z2H) (a b:Expr) (t:TE):Prop:=
 ∀ (π:zP) (s:z03) (σ:St) (H:Hp) (Q:VK),Inv X π σ H s->t σ H Q ->
  z02 .(0) X.A (eval a X.env) (λ v s₁=>z02 .(0) X.A (eval b X.env) (λ u s₂=>z02 .(0) X.A (z0C op v u) (EP X π σ Q) X.xe s₂) X.xe s₁) X.xe s
theorem dI (b:Expr) {op:z2H}(h:op≠.In) (h2:op≠.NotIn):z17 op b=false:=by
 have e1:(op==CmpOp.In)=false:=by cases op<;>first | rfl | exact absurd rfl h
 have e2:(op==z80)=false:=by cases op<;>first | rfl | exact absurd rfl h2
 cases b<;>simp[z17,e1,e2]
def tCmp (p:Int->Int->Bool) (ta tb:TE):TE:=λ σ H Q=>t2I ta tb (λ i j H2=>Q (.bl (p i j)) H2) σ H
abbrev tLt:TE->TE->TE:=tCmp λ i j=>decide (i<j)
abbrev tGt:TE->TE->TE:=tCmp λ i j=>decide (j<i)
abbrev tGe:TE->TE->TE:=tCmp λ i j=>decide (j<=i)
def tIsN (ta:TE):TE:=λ σ H Q=>ta σ H λ x H1=>Q (.bl (decide (x=.non))) H1
theorem RelV.none_iff {x:V}{v:z00}(r:RelV x v):(v==z15)=decide (x=.non):=by
 cases x with
 | non=>cases r;rfl
 | bl _=>cases r;rfl
 | int _=>obtain⟨t,rfl⟩:=r;rfl
 | str _=>obtain⟨t,rfl⟩:=r;rfl
 | byt _=>obtain⟨t,rfl⟩:=r;rfl
 | flt _=>obtain⟨t,rfl⟩:=r;rfl
 | ref _=>cases r;rfl
 | ty _=>cases r;rfl
theorem uJ {j pos'} (ha:PE X a ta):PC X .Is a (.Constant .none j pos') (tIsN ta):=by
 intro π s σ H Q I h;refine thn (ha π s σ H _ I h) λ v s1 ⟨x,H1,I1,r1,q1⟩=>?_;exact Constant_none (is_none_gen ⟨.bl _,H1,I1,by rw[r1.none_iff];rfl,q1⟩)
def tB (t:TE):TT:=λ σ H Q=>t σ H λ x H1=>∃ c,x=.bl c/\Q c H1
theorem uK {op:z2H}{t:TE}(h:PC X op a b t) (h1:z17 op b=false:=by first | exact dI _ (by decide) (by decide) | rfl):PT X (.Compare a [op] [b] pos) (tB t):=by
 intro π s σ H Q I hw;refine z3G (thn (h π s σ H _ I hw) λ v s1 h1=>thn h1 λ u s2 h2=>thn h2 λ c s3 ⟨x,H1,I1,r1,q1⟩=>?_) h1;obtain⟨d,rfl,q⟩:=q1;cases r1;exact z1J ⟨H1,I1,q⟩
variable {tA tB':TT}{rest:List Expr}
def tAnd (t u:TT):TT:=λ σ H Q=>t σ H λ c H1=>if c=true then u σ H1 Q else Q false H1
def tOr (t u:TT):TT:=λ σ H Q=>t σ H λ c H1=>if c=true then Q true H1 else u σ H1 Q
def tNot (t:TT):TT:=λ σ H Q=>t σ H λ c H1=>Q (!c) H1
theorem mW (ha:PT X a tA):PW X (.BoolOp .And [a] pos) tA:=by
 intro wh π s σ H Q I h;refine z3H (thn (ha π s σ H Q I h) λ c s1 e=>?_);cases c with
 | true=>exact z68 e
 | false=>exact e
theorem dJ (ha:PT X a tA):PW X (.BoolOp .Or [a] pos) tA:=by
 intro wh π s σ H Q I h;refine isTrue_or (thn (ha π s σ H Q I h) λ c s1 e=>?_);cases c with
 | false=>exact isTrue_or_nil e
 | true=>exact e
theorem uL (ha:PT X a tA) (hb:PW X (.BoolOp .And (b::rest) pos) tB'):PW X (.BoolOp .And (a::b::rest) pos) (tAnd tA tB'):=by
 intro wh π s σ H Q I h;refine z3H (thn (ha π s σ H _ I h) λ c s1 ⟨H1,I1,q1⟩=>?_);cases c with
 | true=>exact hb wh π s1 σ H1 Q I1 q1
 | false=>exact⟨H1,I1,q1⟩
theorem rA (ha:PT X a tA) (hb:PW X (.BoolOp .Or (b::rest) pos) tB'):PW X (.BoolOp .Or (a::b::rest) pos) (tOr tA tB'):=by
 intro wh π s σ H Q I h;refine isTrue_or (thn (ha π s σ H _ I h) λ c s1 ⟨H1,I1,q1⟩=>?_);cases c with
 | true=>exact⟨H1,I1,q1⟩
 | false=>exact hb wh π s1 σ H1 Q I1 q1
theorem uM (ha:PT X a tA):PT X (.UnaryOp .Not a pos) (tNot tA):=by
 intro π s σ H Q I h;exact z69 (ha π s σ H (λ c H1=>Q (!c) H1) I h)
def wR (ta tb:TE):TE:=λ σ H Q=>ta σ H λ x H1=>∃ c,x=.bl c/\if c=true then tb σ H1 Q else Q (.bl false) H1
def wU (ta:TE):TE:=λ σ H Q=>ta σ H λ x H1=>∃ c,x=.bl c/\Q (.bl (!c)) H1
theorem uN {op} {t:TE}(h:PE X a t):PE X (.BoolOp op [a] pos) t:=λ π s σ H Q I hw=>BoolOp_one (h π s σ H Q I hw)
theorem uO (ha:PE X a ta) (hb:PE X (.BoolOp .And (b::rest) pos) tb):PE X (.BoolOp .And (a::b::rest) pos) (wR ta tb):=by
 intro π s σ H Q I h;refine BoolOp_and (thn (ha π s σ H _ I h) λ v s1 ⟨x,H1,I1,r1,q1⟩=>?_);obtain⟨c,rfl,q1⟩:=q1;cases r1;refine z1J ?_;cases c with
 | true=>exact hb π s1 σ H1 Q I1 q1
 | false=>exact⟨.bl false,H1,I1,rfl,q1⟩
theorem uP (ha:PE X a ta):PE X (.UnaryOp .Not a pos) (wU ta):=by
 intro π s σ H Q I h;refine UnaryOp_ (thn (ha π s σ H _ I h) λ v s1 ⟨x,H1,I1,r1,q1⟩=>?_);obtain⟨c,rfl,q1⟩:=q1;cases r1;exact not_of (z1J ⟨.bl (!c),H1,I1,rfl,q1⟩)
def tIf (t:TT) (ta tb:TE):TE:=λ σ H Q=>t σ H λ c H1=>if c=true then ta σ H1 Q else tb σ H1 Q
theorem dM {c:Expr}(hc:PT X c tA) (ha:PE X a ta) (hb:PE X b tb):PE X (.IfExp c a b pos) (tIf tA ta tb):=by
 intro π s σ H Q I h;refine wpAny_IfExp (thn (hc π s σ H _ I h) λ d s1 ⟨H1,I1,q1⟩=>?_);cases d with
 | true=>exact ha π s1 σ H1 Q I1 q1
 | false=>exact hb π s1 σ H1 Q I1 q1
end
def SqL (K:z08) (H:Hp) (a:Addr) (xs:List V):Prop:=
 Rd H a (.lst xs) ∨
  ∃ (o:Obj) (its:Array z00) (n:Nat),K.lookup a=some o/\o.cls=.type "list"/\o.dict=none/\o.data=.seq its n/\its.size<=sizeLine/\Vals xs its.toList
def SqT (K:z08) (H:Hp) (a:Addr) (xs:List V):Prop:=
 Rd H a (.tup xs) ∨
  ∃ (o:Obj) (its:Array z00) (n:Nat),K.lookup a=some o/\o.cls=.type "tuple"/\o.data=.seq its n/\its.size<=sizeLine/\Vals xs its.toList
def absV:z00->Option V
 | .none=>some .non
 | .bool b=>some (.bl b)
 | .int i _=>some (.int i)
 | .str x _=>some (.str x)
 | .bytes b _=>some (.byt b)
 | .float b _=>some (.flt b)
 | .ref a=>some (.ref a)
 | .type n=>some (.ty n)
 | _=>none
theorem RelV.abs {x:V}(r:RelV x u):absV u=some x:=by
 cases x with
 | non=>cases r;rfl
 | bl _=>cases r;rfl
 | int _=>obtain⟨t,rfl⟩:=r;rfl
 | str _=>obtain⟨t,rfl⟩:=r;rfl
 | byt _=>obtain⟨t,rfl⟩:=r;rfl
 | flt _=>obtain⟨t,rfl⟩:=r;rfl
 | ref _=>cases r;rfl
 | ty _=>cases r;rfl
theorem RelV.inj {x y:V}{u:z00}(r:RelV x u) (q:RelV y u):x=y:=z0w (r.abs.symm.trans q.abs)
theorem Vals.inj:∀ {xs ys:List V}{us:List z00},Vals xs us->Vals ys us->xs=ys
 | _,_,_,.nil,.nil=>rfl
 | _,_,_,.cons r t,.cons r' t'=>by rw[r.inj r',Vals.inj t t']
section
variable {X:Cx}{σ:St}{H:Hp}{xs ys:List V}
theorem SqL.of {K:z08}(h:H a=some (.lst xs)):SqL K H a xs:=.inl (.inl h)
theorem SqT.of {K:z08}(h:H a=some (.tup xs)):SqT K H a xs:=.inl (.inl h)
theorem Inv.list (I:Inv X π σ H s) (h:SqL X.K H a xs):∃ its:List z00,Vals xs its/\PlainL s.heap a its.toArray/\xs.length<=sizeLine:=by
 rcases h with h | ⟨o,its,n,hk,hc,hd,hs,hz,r⟩
 ·obtain⟨z,its,n,r,e⟩:=h.ok I.hok;exact⟨its,r,⟨_,n,e,rfl,rfl,rfl⟩,z⟩
 ·refine⟨its.toList,r,⟨o,n,I.kIn a o hk,hc,hd,by simpa using hs⟩,?_⟩;have e:=r.length;simp only[z0Y] at e;omega
theorem Inv.tuple (I:Inv X π σ H s) (h:SqT X.K H a xs):∃ its:List z00,Vals xs its/\IsTup s.heap a its.toArray/\xs.length<=sizeLine:=by
 rcases h with h | ⟨o,its,n,hk,hc,hs,hz,r⟩
 ·obtain⟨z,its,r,p⟩:=h.ok I.hok;exact⟨its,r,p,z⟩
 ·refine⟨its.toList,r,⟨o,I.kIn a o hk,hc,n,by simpa using hs⟩,?_⟩;have e:=r.length;simp only[z0Y] at e;omega
theorem Inv.list_inj (I:Inv X π σ H s) (h:SqL X.K H a xs) (h':SqL X.K H a ys):xs=ys:=by
 obtain⟨its,r,⟨o,n,e,_,_,d⟩,_⟩:=I.list h;obtain⟨its',r',⟨o',n',e',_,_,d'⟩,_⟩:=I.list h';rw[e] at e';cases e';rw[d] at d';injection d' with d1 _
 have:its=its':=by simpa using congrArg z6a d1
 subst this;exact r.inj r'
theorem Inv.tuple_inj (I:Inv X π σ H s) (h:SqT X.K H a xs) (h':SqT X.K H a ys):xs=ys:=by
 obtain⟨its,r,⟨o,e,_,n,d⟩,_⟩:=I.tuple h;obtain⟨its',r',⟨o',e',_,n',d'⟩,_⟩:=I.tuple h';rw[e] at e';cases e';rw[d] at d';injection d' with d1 _
 have:its=its':=by simpa using congrArg z6a d1
 subst this;exact r.inj r'
end
abbrev Cx.wish (X:Cx) (E:z00->z03->Prop):Cx:={ X with xe:=E }
abbrev Cx.nox (X:Cx):Cx:=X.wish λ _ _=>False
theorem Cx.Ok.wish {X:Cx}(ok:X.Ok) (E:z00->z03->Prop):(X.wish E).Ok:=
 ⟨ok.mod,ok.kind,ok.glob,ok.blt,ok.above,ok.inj,ok.has,ok.cab,ok.hd,ok.frames,ok.stk,ok.exf,ok.bs,ok.bsz,ok.noex,ok.exfs,ok.funs,ok.frf⟩
theorem Cx.Ok.unwish {X:Cx}(ok:(X.wish E).Ok):X.Ok:=
 ⟨ok.mod,ok.kind,ok.glob,ok.blt,ok.above,ok.inj,ok.has,ok.cab,ok.hd,ok.frames,ok.stk,ok.exf,ok.bs,ok.bsz,ok.noex,ok.exfs,ok.funs,ok.frf⟩
section
variable {X:Cx}{σ:St}{H:Hp}
theorem Inv.wish (I:Inv X π σ H s) (E:z00->z03->Prop):Inv (X.wish E) π σ H s:=⟨I.ok.wish E,I.os,I.bare,I.base,I.loc,I.cell,I.free,I.freeC,I.pin,I.hok,I.len⟩
theorem Inv.unwish (I:Inv (X.wish E) π σ H s):Inv X π σ H s:=⟨I.ok.unwish,I.os,I.bare,I.base,I.loc,I.cell,I.free,I.freeC,I.pin,I.hok,I.len⟩
theorem SP.unwish {D:Ends}{f:Flow}{s':z03}(h:SP (X.wish E) π D f s'):SP X π D f s':=by
 cases f with
 | next=>obtain⟨σ',H',I,q⟩:=h;exact⟨σ',H',I.unwish,q⟩
 | brk=>obtain⟨σ',H',I,q⟩:=h;exact⟨σ',H',I.unwish,q⟩
 | cont=>obtain⟨σ',H',I,q⟩:=h;exact⟨σ',H',I.unwish,q⟩
 | ret u=>obtain⟨v,σ',H',I,r,q⟩:=h;exact⟨v,σ',H',I.unwish,r,q⟩
theorem PSs.nox {st:List Stmt}{t:TS}(h:PSs X.nox st t):PSs X st t:=λ π s σ H D I hw=>
 z1s (h π s σ H D (I.wish _) hw) (λ _ _ q=>q.unwish) λ _ _ z=>z1n z
end
section
variable {X:Cx}{rest:List Stmt}{t u:TS}{te:TE}
def wV:TS:=λ D σ H=>D.nx σ H
def tSeq (t u:TS):TS:=λ D σ H=>t { D with nx:=u D } σ H
theorem Ln:PSs X [] wV:=λ _ _ σ H _ I h=>z1V ⟨σ,H,I,h⟩
theorem RM (h1:PS X st t) (h2:PSs X rest u):PSs X (st::rest) (tSeq t u):=by
 intro π s σ H D I h;refine z27 (thn (h1 π s σ H { D with nx:=u D } I h) λ f s1 q=>?_);cases f with
 | next=>
  obtain⟨σ',H',I',q⟩:=q;exact h2 π s1 σ' H' D I' q
 | ret v=>exact q
 | brk=>exact q
 | cont=>exact q
theorem Yu (h1:PS X st t):PSs X [st] t:=by
 intro π s σ H D I h;refine z27 (thn (h1 π s σ H D I h) λ f s1 q=>?_);cases f with
 | next=>exact z1V q
 | ret v=>exact q
 | brk=>exact q
 | cont=>exact q
theorem Inv.quiet {σ:St}{H:Hp}(I:Inv X π σ H s):interactive X.env=false:=by simp[interactive,I.ok.kind]
def wW (te:TE):TS:=λ D σ H=>te σ H λ _ H1=>D.nx σ H1
theorem Yv (he:PE X e te) (hs:z1o e none pos.line X.env=pure false:=by rfl):PS X (.Expr e pos) (wW te):=by
 intro π s σ H D I h;exact wpAny_Expr_any (thn (he π s σ H _ I h) λ v s1 ⟨x,H1,I1,r1,q1⟩=>⟨σ,H1,I1,q1⟩) I.quiet hs
def tRet (te:TE):TS:=λ D σ H=>te σ H D.rt
theorem uQ (he:PE X e te):PS X (.Return (some e) pos) (tRet te):=by
 intro π s σ H D I h;exact z4_ (thn (he π s σ H _ I h) λ v s1 ⟨x,H1,I1,r1,q1⟩=>⟨x,σ,H1,I1,r1,q1⟩)
def tIfS (c:TT) (t u:TS):TS:=λ D σ H=>c σ H λ b H1=>if b=true then t D σ H1 else u D σ H1
theorem rB {c:Expr}{a b:List Stmt}{tc:TT}(hc:PT X c tc) (ha:PSs X a t) (hb:PSs X b u):PS X (.If c a b pos) (tIfS tc t u):=by
 intro π s σ H D I h;refine z49 (thn (hc π s σ H _ I h) λ d s1 ⟨H1,I1,q1⟩=>?_);cases d with
 | true=>exact ha π s1 σ H1 D I1 q1
 | false=>exact hb π s1 σ H1 D I1 q1
end
abbrev TG:=V->St->Hp->(St->Hp->Prop)->Prop
abbrev TGs:=List V->St->Hp->(St->Hp->Prop)->Prop
def PG (X:Cx) (target:Expr) (t:TG):Prop:=
 ∀ (π:zP) (s:z03) (σ:St) (H:Hp) (v:V) (u:z00) (Q:St->Hp->Prop),Inv X π σ H s->RelV v u->t v σ H Q ->
  z02 .(0) X.A (z3I target X.env u) (λ _ s'=>∃ σ' H',Inv X π σ' H' s'/\Q σ' H') X.xe s
def PGs (X:Cx) (ts:List Expr) (t:TGs):Prop:=
 ∀ (π:zP) (s:z03) (σ:St) (H:Hp) (vs:List V) (us:List z00) (Q:St->Hp->Prop),Inv X π σ H s->Vals vs us->t vs σ H Q ->
  z02 .(0) X.A (assignInOrder ((z1C ts X.env).map (·.2)) us) (λ _ s'=>∃ σ' H',Inv X π σ' H' s'/\Q σ' H') X.xe s
section
variable {X:Cx}
def Hq (i:Nat):TG:=λ v σ H Q=>Q (σ.set i (some v)) H
theorem Qx (hN:X.N.Nodup) (hi:X.N[i]?=some x) (hx:Loc X.env.scope x) (hf:X.fn x=true∨X.env.scope.names.lookup x=some .local :=by first | exact .inl rfl | exact .inr rfl | assumption):PG X (.Name x pos) (Hq i):=by
 intro π s σ H v u Q I r h;exact wpAny_assign_Name (V2 I hN hi hx r (λ s' I'=>⟨_,H,I',h⟩) hf)
def gNil:TGs:=λ vs σ H Q=>vs=[]/\Q σ H
def V4 (t:TG) (u:TGs):TGs:=λ vs σ H Q=>∃ v r,vs=v::r/\t v σ H λ σ' H'=>u r σ' H' Q
theorem Yw:PGs X [] gNil:=by
 intro π s σ H vs us Q I r h;obtain⟨e,h⟩:=h;subst e;cases r;exact assignInOrder_nil ⟨σ,H,I,h⟩
theorem RN {es:List Expr}{t:TG}{u:TGs}(h1:PG X e t) (h2:PGs X es u)
  (hs:(z1C (e::es) X.env).map (·.2)=z3I e X.env::(z1C es X.env).map (·.2):=by rfl):PGs X (e::es) (V4 t u):=by
 intro π s σ H vs us Q I r h;obtain⟨v,vr,e1,h⟩:=h;subst e1;cases r with
 | cons r rr=>
  rw[hs];refine assignInOrder_cons (thn (h1 π s σ H _ _ _ I r h) λ _ s1 ⟨σ1,H1,I1,q1⟩=>?_);exact h2 π s1 σ1 H1 _ _ Q I1 rr q1
def gTup (K:z08) (n:Nat) (t:TGs):TG:=λ v σ H Q=>∃ a xs,v=.ref a/\SqT K H a xs/\xs.length=n/\t xs σ H Q
theorem dN {es:List Expr}{k:Nat}{t:TGs}(hc:X.calm=true) (h:PGs X es t)
  (hn:(z1C es X.env).length=n:=by rfl) (hst:(z1C es X.env).findIdx? (·.1)=none:=by rfl):PG X (.Tuple es k pos) (gTup X.K n t):=by
 intro π s σ H v u Q I r hw;obtain⟨a,xs,e1,hq,hl,hw⟩:=hw;subst e1;cases r;obtain⟨its,rv,ht,hz⟩:=I.tuple hq;refine assign_Tuple_tuple (I.ok.hd hc) ht (by simp[hn,<-hl,rv.length]) hst λ h' hx=>?_;have I1:Inv X π σ H { s with heap:=h' }:=I.kept (t':=s.toks) λ b o e=>hx b o (z0j (z0g e)) e;exact h π _ σ H xs _ Q I1 (by simpa using rv) hw
def tAsg (te:TE) (g:TG):TS:=λ D σ H=>te σ H λ x H1=>g x σ H1 D.nx
theorem uR {te:TE}{g:TG}(he:PE X e te) (hg:PG X tg g) (hs:swapsWithSole [tg] e pos.line X.env=pure false:=by rfl) (hw:swappedStores [tg] e X.env=pure none:=by rfl)
  (h1:(z1C [tg] X.env).map (·.2)=[z3I tg X.env]:=by rfl):PS X (.Assign [tg] e pos) (tAsg te g):=by
 intro π s σ H D I h;refine wpAny_Assign_stores (thn (he π s σ H _ I h) λ v s1 ⟨x,H1,I1,r1,q1⟩=>?_) hs hw;rw[h1];exact thn (hg π s1 σ H1 x v _ I1 r1 q1) λ _ s2 q=>q
theorem dO {te:TE}(hN:X.N.Nodup) (hi:X.N[i]?=some x) (hx:Loc X.env.scope x) (he:PE X e te) (hs:z1o e (some (.Name x pos')) pos.line X.env=pure false:=by rfl) (hf:X.fn x=true∨X.env.scope.names.lookup x=some .local :=by first | exact .inl rfl | exact .inr rfl | assumption) :
  PS X (.Assign [.Name x pos'] e pos) (tAsg te (Hq i)):=by
 intro π s σ H D I h;refine wpAny_Assign_Name (thn (he π s σ H _ I h) λ v s1 ⟨y,H1,I1,r1,q1⟩=>?_) hs;exact V2 I1 hN hi hx r1 (λ s2 I2=>⟨_,H1,I2,q1⟩) hf
end
section
variable {X:Cx}
def uT (c:TT) (tb:TS):TS:=λ D σ H=>∃ W:Nat->St->Hp->Prop,(∃ m,W m σ H)/\∀ m σ H,W m σ H ->
 c σ H λ b H1=>if b=true then ∃ N:St->Hp->Prop,(∀ σ' H',N σ' H'->∃ m',m'<m/\W m' σ' H')/\tb { D with nx:=N,ct:=N,bk:=D.nx } σ H1 else D.nx σ H1
theorem dR {c:Expr}{tc:TT}{tb:TS}(hp:z4a .(0) X.A X.env X.xe) (hc:PT X c tc) (hb:PSs X body tb):PS X (.While c body [] pos) (uT tc tb):=by
 intro π s σ H D I h;obtain⟨W,⟨m0,w0⟩,turn⟩:=h;refine wpAny_While (codeAny_whileLoop (λ n s'=>∃ σ' H',Inv X π σ' H' s'/\W n σ' H') ?_ m0 ⟨σ,H,I,w0⟩);rintro n s1 ⟨σ1,H1,I1,w1⟩;refine z3b hp (thn (hc π s1 σ1 H1 _ I1 (turn n σ1 H1 w1)) λ b s2 ⟨H2,I2,q2⟩=>?_);cases b with
 | true=>
  obtain⟨N,hN,q2⟩:=q2;rw[if_pos rfl];refine z3b hp (thn (hb π s2 σ1 H2 _ I2 q2) λ f s3 q3=>?_);cases f with
  | next=>
   obtain⟨σ3,H3,I3,n3⟩:=q3;obtain⟨m',hm,w3⟩:=hN σ3 H3 n3;exact⟨m',hm,σ3,H3,I3,w3⟩
  | cont=>
   obtain⟨σ3,H3,I3,n3⟩:=q3;obtain⟨m',hm,w3⟩:=hN σ3 H3 n3;exact⟨m',hm,σ3,H3,I3,w3⟩
  | brk=>exact q3
  | ret v=>exact q3
 | false=>
  rw[if_neg z0D];exact z1V ⟨σ1,H2,I2,q2⟩
end
structure It where
 go:Nat->Hp->Prop
 yld:Nat->Hp->V->Hp->Prop
 stop:Nat->Hp->Prop
def FpOk (X:Cx) (π:zP) (H:Hp) (b:Addr):Prop:=
 H b=none/\b≠X.env.locals/\b∉X.fs/\(b∈X.ex∨X.s₀.heap.objs.size<=b)/\(∀ x c,X.env.cells.lookup x=some c->c≠b)/\∀ p∈X.pn++π,p.1≠b
theorem Inv.fpOk {X:Cx}{σ:St}{H H':Hp}(I:Inv X π σ H s) (hb:s.heap.objs.size<=b) (hn:H' b=none):FpOk X π H' b:=by
 refine⟨hn,z2I (z0X I.lt hb),I.nofs hb,.inr (z0A I.sz hb),λ x c e z=>?_,λ p hp z=>?_⟩
 ·obtain⟨v,q⟩:=I.cell x c e;exact absurd (z0X q.lt (by rw[z];exact hb)) (z1l _)
 ·exact absurd (z0X (z0g (I.pin p hp).1) (by rw[z];exact hb)) (z1l _)
structure Turn (P:z0s) (w:z0k) (K:z08) (tg:Expr) (J:It) (fp:List Addr) (it:Addr) (tn:Nat->Heap->Prop):Prop where
 mem:it∈fp
 obj:∀ i h,tn i h->∀ b∈fp,∃ o,h.get? b=some o/\∀ v,o.data≠.cell v
 keep:∀ i h h',tn i h->(∀ b∈fp,∀ o,h.get? b=some o->h'.get? b=some o)->tn i h'
 item:∀ (X:Cx),X.prog=P->X.w=w->X.K=K->X.calm=true->∀ (i:Nat) (π:zP) (s:z03) (σ:St) (H:Hp) (E:z00->z03->Prop),Inv X π σ H s->(∀ b∈fp,FpOk X π H b)->tn i s.heap->J.go i H ->
  z02 (z04 P w) X.A (z0K (.ref it)) (λ r s1=>∃ u,r=some u ∧
   z02 (z04 P w) X.A (z50 tg (.ref it) u) (λ _ s2=>∃ x H',Inv X π σ H' s2/\RelV x u/\J.yld i H x H'/\tn (i+1) s2.heap/\∀ b∈fp,H' b=none) E s1) E s
 done:∀ (X:Cx),X.prog=P->X.w=w->X.K=K->X.calm=true->∀ (i:Nat) (π:zP) (s:z03) (σ:St) (H:Hp) (E:z00->z03->Prop),Inv X π σ H s->(∀ b∈fp,FpOk X π H b)->tn i s.heap->J.stop i H ->
  z02 (z04 P w) X.A (z0K (.ref it)) (λ r s1=>r=none/\Inv X π σ H s1) E s
 self:∀ (A:z0a) (i:Nat) (s:z03) (Q:z00->z03->Prop) (E:z00->z03->Prop),tn i s.heap->Q (.ref it) s->z02 (z04 P w) A (z2t (.ref it)) Q E s
abbrev TI:=St->Hp->(It->Hp->Prop)->Prop
def PIE (X:Cx) (π:zP) (σ:St) (tg:Expr) (R:It->Hp->Prop) (itv:z00) (s2:z03):Prop:=
 ∃ (it:Addr) (fp:List Addr) (tn:Nat->Heap->Prop) (J:It) (H':Hp),itv=.ref it/\Inv X π σ H' s2/\Turn X.prog X.w X.K tg J fp it tn/\tn 0 s2.heap/\(∀ b∈fp,FpOk X π H' b)/\R J H'
def PI (X:Cx) (tg iter:Expr) (wi:TI):Prop:=
 ∀ (π:zP) (s:z03) (σ:St) (H:Hp) (R:It->Hp->Prop),Inv X π σ H s->wi σ H R ->
  z02 .(0) X.A (eval iter X.env) (λ v s1=>z02 .(0) X.A (z2t v) (PIE X π σ tg R) X.xe s1) X.xe s
theorem V5 {A:z0a}{n:String}{vs:Array z00}{Q:Unit->z03->Prop}(ho:s.heap.get? it=some o) (hc:o.cls=.type n) (hd:o.data=.fields vs)
    (hn:["enumerate","zip","dict_itemiterator","dict_reverseitemiterator","odict_iterator","itertools.zip_longest","itertools.pairwise"].contains n=false) (hQ:Q () s):z02 M A (z50 tg (.ref it) u) Q E s:=by
  unfold z50;cases tg<;>first
    | exact z05 hQ
    | (cases u<;>first
        | exact z05 hQ
        | (refine z01 (z4b ho ?_)
           rw[hc,hd];show z02 M A (if (["enumerate","zip","dict_itemiterator","dict_reverseitemiterator","odict_iterator","itertools.zip_longest","itertools.pairwise"].contains n&&vs[0]?==some (z0H _))=true then _ else _) Q E s;rw[if_neg (by intro h;rw[hn,z4c] at h;cases h)];exact z05 hQ))
def Itl (K:z08) (a:Addr):It:=
 ⟨λ i H=>∃ xs x,SqL K H a xs/\xs[i]?=some x,λ i H x H'=>H'=H/\∀ xs,SqL K H a xs->xs[i]?=some x,λ i H=>∃ xs,SqL K H a xs/\xs.length<=i⟩
def Itt (K:z08) (a:Addr):It:=
 ⟨λ i H=>∃ xs x,SqT K H a xs/\xs[i]?=some x,λ i H x H'=>H'=H/\∀ xs,SqT K H a xs->xs[i]?=some x,λ i H=>∃ xs,SqT K H a xs/\xs.length<=i⟩
def Itr (lo:Int) (n:Nat):It:=⟨λ i _=>i<n,λ i H x H'=>H'=H/\x=.int (lo+i),λ i _=>n<=i⟩
theorem bH {K:z08}(a it:Addr):Turn P w K tg (Itl K a) [it] it (λ i h=>h.IsListIter it a i) where
 mem:=by simp
 obj:=λ i h st b hb=>by
  have e:b=it:=by simpa using hb
  subst e;obtain⟨o,e,c,d⟩:=st;exact⟨o,e,λ v z=>by rw[d] at z;cases z⟩
 keep:=λ i h h' st k=>st.at λ o e=>k it (by simp) o e
 item:=by
  intro X hP hw hK hc i π s σ H E I hf st hg;subst hP hw hK;obtain⟨xs,x,hq,hx⟩:=hg;obtain⟨its,rv,p,hz⟩:=I.list hq;obtain⟨u,hu,ru⟩:=rv.get hx;obtain⟨f0,f1,f2,f3,f4,f5⟩:=hf it (by simp);refine z81 st p.isList (x:=u) (by simpa using hu) λ h' st' sb=>?_;have I1:Inv X π σ H { s with heap:=h' }:=I.turned (t':=s.toks) (λ b o hb e=>(sb.2 b hb).trans e) f0 f1 f3 f4 f5;obtain⟨o,e,c,d⟩:=id st';exact⟨u,rfl,V5 (s:={ s with heap:=h' }) e c d (by decide) ⟨x,H,I1,ru,⟨rfl,λ ys hy=>by rw[I.list_inj hy hq];exact hx⟩,st',λ b hb=>(hf b hb).1⟩⟩
 done:=by
  intro X hP hw hK hc i π s σ H E I hf st hg;subst hP hw hK;obtain⟨xs,hq,hx⟩:=hg;obtain⟨its,rv,p,hz⟩:=I.list hq;obtain⟨f0,f1,f2,f3,f4,f5⟩:=hf it (by simp);have hl:=rv.length;exact z82 (I.ok.hd hc) st p.isList .(17) λ h' eb=>⟨rfl,I.turned (t':=s.toks) (λ b o hb e=>eb b o hb e) f0 f1 f3 f4 f5⟩
 self:=λ _ _ _ _ _ st h=>wpAny_pyIter_listiter st h
theorem Xe {K:z08}(a it:Addr):Turn P w K tg (Itt K a) [it] it (λ i h=>h.IsTupleIter it a i) where
 mem:=by simp
 obj:=λ i h st b hb=>by
  have e:b=it:=by simpa using hb
  subst e;obtain⟨o,e,c,d⟩:=st;exact⟨o,e,λ v z=>by rw[d] at z;cases z⟩
 keep:=λ i h h' st k=>st.at λ o e=>k it (by simp) o e
 item:=by
  intro X hP hw hK hc i π s σ H E I hf st hg;subst hP hw hK;obtain⟨xs,x,hq,hx⟩:=hg;obtain⟨its,rv,p,hz⟩:=I.tuple hq;obtain⟨u,hu,ru⟩:=rv.get hx;obtain⟨f0,f1,f2,f3,f4,f5⟩:=hf it (by simp);refine wpAny_pyNext_tuple_item st (show s.heap.IsTuple a its.toArray from p) (x:=u) (by simpa using hu) λ h' st' sb=>?_;have I1:Inv X π σ H { s with heap:=h' }:=I.turned (t':=s.toks) (λ b o hb e=>(sb.2 b hb).trans e) f0 f1 f3 f4 f5;obtain⟨o,e,c,d⟩:=id st';exact⟨u,rfl,V5 (s:={ s with heap:=h' }) e c d (by decide) ⟨x,H,I1,ru,⟨rfl,λ ys hy=>by rw[I.tuple_inj hy hq];exact hx⟩,st',λ b hb=>(hf b hb).1⟩⟩
 done:=by
  intro X hP hw hK hc i π s σ H E I hf st hg;subst hP hw hK;obtain⟨xs,hq,hx⟩:=hg;obtain⟨its,rv,p,hz⟩:=I.tuple hq;obtain⟨f0,f1,f2,f3,f4,f5⟩:=hf it (by simp);have hl:=rv.length;exact wpAny_pyNext_tuple_end (I.ok.hd hc) st (show s.heap.IsTuple a its.toArray from p) .(17) λ h' eb=>⟨rfl,I.turned (t':=s.toks) (λ b o hb e=>eb b o hb e) f0 f1 f3 f4 f5⟩
 self:=λ _ _ _ _ _ st h=>wpAny_pyIter_tupleiter st h
theorem Xf {K:z08}(it:Addr) (lo:Int) (n:Nat):Turn P w K tg (Itr lo n) [it] it (λ i h=>IsRangeIter h it (lo+(i:Nat)*1) ((n:Int)-(i:Nat)) 1) where
 mem:=by simp
 obj:=λ i h st b hb=>by
  have e:b=it:=by simpa using hb
  subst e;exact⟨_,st,λ v z=>by
   have z':z51 _=z52 v:=z;cases z'⟩
 keep:=λ i h h' st k=>k it (by simp) _ st
 item:=by
  intro X hP hw hK hc i π s σ H E I hf st hg;subst hP hw hK;obtain⟨f0,f1,f2,f3,f4,f5⟩:=hf it (by simp);have W:=Walks.range (prog:=X.prog) (w:=X.w) (I.ok.hd hc) it lo 1 n;refine W.item i s _ _ hg st λ v h' tk hv st' kk=>?_;obtain⟨t,rfl⟩:=hv;have I1:Inv X π σ H { s with heap:=h',toks:=tk }:=I.turned (λ b o hb e=>kk b o (by simpa using hb) e) f0 f1 f3 f4 f5;refine⟨_,rfl,V5 (s:={ s with heap:=h',toks:=tk }) (n:="range_iterator") st' rfl rfl (by decide) ⟨.int (lo+i),H,I1,⟨t,?_⟩,⟨rfl,rfl⟩,st',λ b hb=>(hf b hb).1⟩⟩;rw[Int.mul_one]
 done:=by
  intro X hP hw hK hc i π s σ H E I hf st hg;subst hP hw hK;obtain⟨f0,f1,f2,f3,f4,f5⟩:=hf it (by simp);exact wpAny_pyNext_range_end (I.ok.hd hc) st (by have:n<=i:=hg;omega) λ h' eb=>⟨rfl,I.turned (t':=s.toks) (λ b o hb e=>eb b o hb e) f0 f1 f3 f4 f5⟩
 self:=λ _ _ _ _ _ st h=>wpAny_pyIter_rangeiter st h
section
variable {X:Cx}
def wX (K:z08) (tl:TE):TI:=λ σ H R=>tl σ H λ x H1=>∃ a,x=.ref a/\(∃ xs,SqL K H1 a xs)/\R (Itl K a) H1
def iTup (K:z08) (tl:TE):TI:=λ σ H R=>tl σ H λ x H1=>∃ a,x=.ref a/\(∃ xs,SqT K H1 a xs)/\R (Itt K a) H1
theorem mX {l:Expr}{tl:TE}(hl:PE X l tl):PI X tg l (wX X.K tl):=by
 intro π s σ H R I h;refine thn (hl π s σ H _ I h) λ v s1 ⟨x,H1,I1,r1,q1⟩=>?_;obtain⟨a,e,⟨xs,hq⟩,q⟩:=q1;subst e;cases r1;obtain⟨its,rv,p,hz⟩:=I1.list hq;refine z53 p.isList ?_;refine⟨s1.heap.objs.size,[s1.heap.objs.size],_,_,H1,rfl,I1.kept (t':=s1.toks) λ b o e=>z0e _ e,bH a _,⟨_,z0l _ rfl,rfl,rfl⟩,λ b hb=>?_,q⟩;have e:b=s1.heap.objs.size:=by simpa using hb
 subst e;exact I1.fpOk (z06 _) (I1.hok.fresh (z06 _))
theorem uU {l:Expr}{tl:TE}(hl:PE X l tl):PI X tg l (iTup X.K tl):=by
 intro π s σ H R I h;refine thn (hl π s σ H _ I h) λ v s1 ⟨x,H1,I1,r1,q1⟩=>?_;obtain⟨a,e,⟨xs,hq⟩,q⟩:=q1;subst e;cases r1;obtain⟨its,rv,p,hz⟩:=I1.tuple hq;refine z4d (show s1.heap.IsTuple a its.toArray from p) ?_;refine⟨s1.heap.objs.size,[s1.heap.objs.size],_,_,H1,rfl,I1.kept (t':=s1.toks) λ b o e=>z0e _ e,Xe a _,⟨_,z0l _ rfl,rfl,rfl⟩,λ b hb=>?_,q⟩;have e:b=s1.heap.objs.size:=by simpa using hb
 subst e;exact I1.fpOk (z06 _) (I1.hok.fresh (z06 _))
theorem dU {σ:St}{H:Hp}{R:It->Hp->Prop}{lo hi:Int}{t u v:Tok}{tk:Nat}(I:Inv X π σ H s) (h1 : -(2^62)<=lo) (h2:lo<2^62) (h3 : -(2^62)<=hi) (h4:hi<2^62)
  (q:R (Itr lo (hi-lo).toNat) H):z02 .(0) X.A (z2t .(6)) (PIE X π σ tg R) E { s with heap:=s.heap.push { cls:=.type "range",data:=.fields #[.int lo t,.int hi u,.int 1 v] },toks:=tk }:=by
 refine wpAny_pyIter_range (IsRange.new ..) (small_one h1 h2 h3 h4) ?_;have I1:Inv X π σ H { s with heap:=s.heap.push { cls:=.type "range",data:=.fields #[.int lo t,.int hi u,.int 1 v] },toks:=tk }:=I.kept λ b o e=>z0e _ e;refine⟨(s.heap.push { cls:=.type "range",data:=.fields #[.int lo t,.int hi u,.int 1 v] }).objs.size,[(s.heap.push { cls:=.type "range",data:=.fields #[.int lo t,.int hi u,.int 1 v] }).objs.size],_,_,H,rfl,
  I1.kept (t':=tk) λ b o e=>z0e _ e,Xf _ lo (hi-lo).toNat,?_,λ b hb=>?_,q⟩
 ·have e1:lo+((0:Nat):Int)*1=lo:=by simp
  have e2:(((hi-lo).toNat:Nat):Int)-((0:Nat):Int)=z83 lo hi 1:=by rw[rangeSize_one];split<;>omega
  show IsRangeIter _ _ (lo+((0:Nat):Int)*1) ((((hi-lo).toNat:Nat):Int)-((0:Nat):Int)) 1;rw[e1,e2];exact z0l _ rfl
 ·have e:b=(s.heap.push { cls:=.type "range",data:=.fields #[.int lo t,.int hi u,.int 1 v] }).objs.size:=by simpa using hb
  subst e;exact I1.fpOk (z06 _) (I1.hok.fresh (z06 _))
def wZ (ta:TA):TI:=λ σ H R=>ta σ H λ vs H1=>∃ j:Int,vs=[.int j]/\-(2^62)<=j/\j<2^62/\R (Itr 0 j.toNat) H1
theorem bI {a:Expr}{ta:TA}{p:Pos}(hg:Gl X "range") (hm:X.mg "range"=none) (ha:PA X [a] ta) (hs:z09 [a] X.env=[.(8)]:=by rfl):PI X tg (.Call (.Name "range" p) [a] [] pos) (wZ ta):=by
 intro π s σ H R I h;refine Call_ (Kr I hg hm boot_range (z54 (thn (ha pos π s σ H _ I h) λ us s1 ⟨vs,H1,I1,r1,q1⟩=>?_) hs rfl));obtain⟨j,e,q1,q2,q⟩:=q1;subst e;cases r1 with
 | cons r rr=>
  cases rr;obtain⟨t,rfl⟩:=r;exact call_range_1 (dU I1 (by omega) (by omega) q1 q2 (by simpa using q))
def tFor (wi:TI) (g:TG) (tb:TS):TS:=λ D σ H=>wi σ H λ J H1=>∃ W:Nat->Nat->St->Hp->Prop,(∃ m,W 0 m σ H1)/\∀ i m σ H,W i m σ H ->
 (J.stop i H/\D.nx σ H)∨(J.go i H/\∃ N:St->Hp->Prop,(∀ σ' H',N σ' H'->∃ m',m'<m/\W (i+1) m' σ' H')/\∀ x H',J.yld i H x H'->g x σ H' λ σ2 H2=>tb { D with nx:=N,ct:=N,bk:=D.nx } σ2 H2)
def RP (fp:List Addr) (h:Heap):List (Addr×Obj):=fp.filterMap λ b=>(h.get? b).map λ o=>(b,o)
theorem Jy (hb:b∈fp) (e:h.get? b=some o):(b,o)∈RP fp h:=z6b.mpr ⟨b,hb,by rw[e];rfl⟩
theorem bJ {p:Addr×Obj}(hp:p∈RP fp h):p.1∈fp/\h.get? p.1=some p.2:=by
 obtain⟨b,hb,e⟩:=z6b.mp hp;cases q:h.get? b with
 | none=>rw[q] at e;cases e
 | some o=>
  rw[q] at e;have e':(b,o)=p:=z0w e;subst e';exact⟨hb,q⟩
theorem Inv.pinned {σ:St}{H:Hp}(I:Inv X π σ H s) (hf:∀ b∈fp,FpOk X π H b) (ho:∀ b∈fp,∃ o,s.heap.get? b=some o/\∀ v,o.data≠.cell v):Inv X (π++RP fp s.heap) σ H s:=
 I.pins_of λ p hp=>(z0U.mp hp).elim (λ z=>I.pin p (z28 _ z)) λ z=>by
  obtain⟨hb,e⟩:=bJ z;obtain⟨f0,f1,f2,_⟩:=hf p.1 hb;obtain⟨o,e',d⟩:=ho p.1 hb;rw[e] at e';cases e';exact⟨e,f0,f1,f2,d⟩
theorem Inv.unpinned {pl:zP}{σ:St}{H:Hp}(I:Inv X (π++pl) σ H s):Inv X π σ H s:=I.pins_of λ p hp=>I.pin p (z28 _ (z66 _ hp))
theorem dW {iter:Expr}{wi:TI}{g:TG}{tb:TS}(hp:z4a .(0) X.A X.env X.xe) (hc:X.calm=true) (hi:PI X tg iter wi) (hg:PG X tg g) (hb:PSs X body tb)
  (hs:∀ x,z3c iter X.env x=pure x:=by intro _;rfl):PS X (.For tg iter body [] pos) (tFor wi g tb):=by
 intro π s σ H D I h;refine wpAny_For (thn (hi π s σ H _ I h) λ v s1 h1=>thn h1 λ itv s2 h2=>?_) hs;obtain⟨it,fp,tn,J,H2,e,I2,T,st2,f2,W,⟨m0,w0⟩,turn⟩:=h2;subst e;have stat:∀ {H':Hp},(∀ b∈fp,H' b=none)->∀ b∈fp,FpOk X π H' b:=λ hn b hb=>⟨hn b hb,(f2 b hb).2⟩;refine codeAny_forLoop_any (λ n s'=>∃ i σ' H',Inv X π σ' H' s'/\tn i s'.heap/\(∀ b∈fp,H' b=none)/\W i n σ' H') ?_ m0 ⟨0,σ,H2,I2,st2,λ b hb=>(f2 b hb).1,w0⟩;rintro n s3 ⟨i,σ3,H3,I3,st3,fr3,w3⟩
 rcases turn i n σ3 H3 w3 with ⟨stop,qn⟩ | ⟨go,N,hN,step⟩
 ·refine z3b hp (thn (T.done X rfl rfl rfl hc i π s3 σ3 H3 X.xe I3 (stat fr3) st3 stop) λ r s4 ⟨hr,I4⟩=>?_);subst hr;exact z1V ⟨σ3,H3,I4,qn⟩
 ·refine z3b hp (thn (T.item X rfl rfl rfl hc i π s3 σ3 H3 X.xe I3 (stat fr3) st3 go) λ r s4 ⟨u,hr,h4⟩=>?_);subst hr;refine z3b hp (thn h4 λ _ s5 ⟨x,H5,I5,r5,y5,st5,fr5⟩=>?_);have I5':=I5.pinned (stat fr5) (T.obj _ _ st5);refine z3b hp (thn (hg _ s5 σ3 H5 x u _ I5' r5 (step x H5 y5)) λ _ s6 ⟨σ6,H6,I6,q6⟩=>?_);refine z3b hp (thn (hb _ s6 σ6 H6 _ I6 q6) λ f s7 q7=>?_);have again:∀ {σ7:St}{H7:Hp},Inv X (π++RP fp s5.heap) σ7 H7 s7->N σ7 H7->∃ m,m<n/\∃ i σ' H',Inv X π σ' H' s7/\tn i s7.heap/\(∀ b∈fp,H' b=none)/\W i m σ' H':=λ {σ7 H7} I7 n7=>by
   obtain⟨m',hm,w7⟩:=hN σ7 H7 n7;refine⟨m',hm,i+1,σ7,H7,I7.unpinned,T.keep _ _ _ st5 λ b hb o e=>(I7.pin (b,o) (z28 _ (z28 _ (Jy hb e)))).1,λ b hb=>?_,w7⟩;obtain⟨o,e,d⟩:=T.obj _ _ st5 b hb;exact (I7.pin (b,o) (z28 _ (z28 _ (Jy hb e)))).2.1
  cases f with
  | next=>obtain⟨σ7,H7,I7,n7⟩:=q7;exact again I7 n7
  | cont=>obtain⟨σ7,H7,I7,n7⟩:=q7;exact again I7 n7
  | brk=>obtain⟨σ7,H7,I7,q7⟩:=q7;exact⟨σ7,H7,I7.unpinned,q7⟩
  | ret v=>obtain⟨x7,σ7,H7,I7,r7,q7⟩:=q7;exact⟨x7,σ7,H7,I7.unpinned,r7,q7⟩
end
abbrev R2:=V->V->Hp->VK->Prop
def OpR (X:Cx) (f:z00->z00->Sem z00) (r:R2):Prop:=
 ∀ (π:zP) (s:z03) (σ:St) (H:Hp) (x y:V) (v u:z00) (Q:VK),Inv X π σ H s->RelV x v->RelV y u->r x y H Q ->
  z02 .(0) X.A (f v u) (EP X π σ Q) X.xe s
def UnR (X:Cx) (f:z00->Sem z00) (r:V->Hp->VK->Prop):Prop:=
 ∀ (π:zP) (s:z03) (σ:St) (H:Hp) (x:V) (v:z00) (Q:VK),Inv X π σ H s->RelV x v->r x H Q ->
  z02 .(0) X.A (f v) (EP X π σ Q) X.xe s
def Dd (X:Cx) (f:z00) (r:List V->Hp->VK->Prop):Prop:=
 ∀ (π:zP) (s:z03) (σ:St) (H:Hp) (xs:List V) (us:List z00) (Q:VK),Inv X π σ H s->Vals xs us->r xs H Q ->
  z02 .(0) X.A (call f us) (EP X π σ Q) X.xe s
def TruR (X:Cx) (r:V->Hp->(Bool->Hp->Prop)->Prop):Prop:=
 ∀ (π:zP) (s:z03) (σ:St) (H:Hp) (x:V) (v:z00) (Q:Bool->Hp->Prop),Inv X π σ H s->RelV x v->r x H Q ->
  z02 .(0) X.A (truthy v) (TP X π σ Q) X.xe s
def tOp (r:R2) (ta tb:TE):TE:=λ σ H Q=>ta σ H λ x H1=>tb σ H1 λ y H2=>r x y H2 Q
def tUn (r:V->Hp->VK->Prop) (ta:TE):TE:=λ σ H Q=>ta σ H λ x H1=>r x H1 Q
def rI (C:Int->Int->Prop) (g:Int->Int->V):R2:=λ x y H Q=>∃ i j,x=.int i/\y=.int j/\C i j/\Q (g i j) H
def rI0 (g:Int->Int->V):R2:=λ x y H Q=>∃ i j,x=.int i/\y=.int j/\Q (g i j) H
def rU (g:Int->V):V->Hp->VK->Prop:=λ x H Q=>∃ i,x=.int i/\Q (g i) H
section
variable {X:Cx}{a b c:Expr}{ta tb tc:TE}
theorem binT (ha:PE X a ta) (hb:PE X b tb) {π:zP}{s:z03}{σ:St}{H:Hp}{R:V->V->Hp->Prop}(I:Inv X π σ H s)
  (h:ta σ H λ x H1=>tb σ H1 λ y H2=>R x y H2) {Q:z00->z03->Prop}{f:z00->z00->Sem z00}
  (hf:∀ v u s2 x y H2,Inv X π σ H2 s2->RelV x v->RelV y u->R x y H2->z02 .(0) X.A (f v u) Q X.xe s2) :
  z02 .(0) X.A (eval a X.env) (λ v s₁=>z02 .(0) X.A (eval b X.env) (λ u s₂=>z02 .(0) X.A (f v u) Q X.xe s₂) X.xe s₁) X.xe s:=by
 refine thn (ha π s σ H _ I h) λ v s1 ⟨x,H1,I1,r1,q1⟩=>?_;refine thn (hb π s1 σ H1 _ I1 q1) λ u s2 ⟨y,H2,I2,r2,q2⟩=>?_;exact hf v u s2 x y H2 I2 r1 r2 q2
theorem wg {op:Operator}{r:R2}(ho:OpR X (z1t op) r) (ha:PE X a ta) (hb:PE X b tb):PE X (.BinOp a op b pos) (tOp r ta tb):=by
 intro π s σ H Q I h;exact wpAny_BinOp (binT ha hb I h λ v u s2 x y H2 I2 rx ry q=>ho π s2 σ H2 x y v u Q I2 rx ry q)
theorem wj {op:UnaryOp}{r:V->Hp->VK->Prop}(ho:UnR X (unaryOp op) r) (ha:PE X a ta):PE X (.UnaryOp op a pos) (tUn r ta):=by
 intro π s σ H Q I h;exact UnaryOp_ (thn (ha π s σ H _ I h) λ v s1 ⟨x,H1,I1,r1,q1⟩=>ho π s1 σ H1 x v Q I1 r1 q1)
theorem opI {f:z00->z00->Sem z00}{C:Int->Int->Prop}{g:Int->Int->Int}(rule:∀ (i j:Int) (t u:Tok) (s:z03) (Q:z00->z03->Prop) (E:z00->z03->Prop),C i j->Q (.int (g i j) s.toks) { s with toks:=s.toks+1 }->z02 .(0) X.A (f (.int i t) (.int j u)) Q E s) :
  OpR X f (rI C λ i j=>.int (g i j)):=by
 intro π s σ H x y v u Q I rx ry h;obtain⟨i,j,rfl,rfl,hc,q⟩:=h;obtain⟨t,rfl⟩:=rx;obtain⟨t',rfl⟩:=ry;exact rule i j t t' s _ _ hc ⟨.int (g i j),H,I.tok _,⟨_,rfl⟩,q⟩
theorem opI0 {f:z00->z00->Sem z00}{g:Int->Int->Int}(rule:∀ (i j:Int) (t u:Tok) (s:z03) (Q:z00->z03->Prop) (E:z00->z03->Prop),Q (.int (g i j) s.toks) { s with toks:=s.toks+1 }->z02 .(0) X.A (f (.int i t) (.int j u)) Q E s) :
  OpR X f (rI0 λ i j=>.int (g i j)):=by
 intro π s σ H x y v u Q I rx ry h;obtain⟨i,j,rfl,rfl,q⟩:=h;obtain⟨t,rfl⟩:=rx;obtain⟨t',rfl⟩:=ry;exact rule i j t t' s _ _ ⟨.int (g i j),H,I.tok _,⟨_,rfl⟩,q⟩
theorem opB0 {f:z00->z00->Sem z00}{g:Int->Int->Bool}(rule:∀ (i j:Int) (t u:Tok) (s:z03) (Q:z00->z03->Prop) (E:z00->z03->Prop),Q (.bool (g i j)) s->z02 .(0) X.A (f (.int i t) (.int j u)) Q E s) :
  OpR X f (rI0 λ i j=>.bl (g i j)):=by
 intro π s σ H x y v u Q I rx ry h;obtain⟨i,j,rfl,rfl,q⟩:=h;obtain⟨t,rfl⟩:=rx;obtain⟨t',rfl⟩:=ry;exact rule i j t t' s _ _ ⟨.bl (g i j),H,I,rfl,q⟩
def CDiv (i j:Int):Prop:=0<j/\j<1073741824
def CPow (i j:Int):Prop:=0<=j/\j<=1000000/\i.natAbs<2^64
def CMul (i j:Int):Prop:=(-(2^64)<i/\i<2^64)∨(-(2^64)<j/\j<2^64)
theorem CMul.ok {i j:Int}(h:CMul i j):IntMulOk i j:=by
 rcases h with ⟨h1,h2⟩ | ⟨h1,h2⟩
 ·exact .of_left (intBits_le_64 h1 h2)
 ·exact .of_right (intBits_le_64 h1 h2)
theorem Xg (k:Nat):(0:Int)<=2^k:=by
 rw[two_pow_cast];exact Int.natCast_nonneg _
theorem uV:OpR X (z1t .Add) (rI0 λ i j=>.int (i+j)):=opI0 λ _ _ _ _ _ _ _ q=>add_int q
theorem uW:OpR X (z1t .Sub) (rI0 λ i j=>.int (i-j)):=opI0 λ _ _ _ _ _ _ _ q=>sub_int q
theorem mY:OpR X (z1t .FloorDiv) (rI CDiv λ i j=>.int (i/j)):=opI λ i j _ _ _ _ _ hc q=>by
 have h1:(0:Int)<j:=hc.1;have h2:j<1073741824:=hc.2;exact floordiv_int (by omega) (by rw[z84 i (by omega)];exact q) (.inl (PyProof.noPylong_small (by omega)))
theorem uX:OpR X (z1t .Mod) (rI (λ _ j=>0<j) λ i j=>.int (i%j)):=opI λ i j _ _ _ _ _ hc q=>by
 have h1:(0:Int)<j:=hc;exact mod_int' (by omega) (by rw[Int.fmod_eq_emod_of_nonneg i (by omega)];exact q)
theorem dX:OpR X (z1t .RShift) (rI (λ _ j=>0<=j) λ i j=>.int (i/2^j.toNat)):=opI λ i j _ _ _ _ _ hc q=>
 rshift_int hc (by rw[z84 i (Xg _)];exact q)
theorem dY:OpR X (z1t .BitAnd) (rI0 λ i j=>.int (z3J i j)):=opI0 λ _ _ _ _ _ _ _ q=>and_int q
theorem unI {f:z00->Sem z00}{g:Int->Int}(rule:∀ (i:Int) (t:Tok) (s:z03) (Q:z00->z03->Prop) (E:z00->z03->Prop),Q (.int (g i) s.toks) { s with toks:=s.toks+1 }->z02 .(0) X.A (f (.int i t)) Q E s) :
  UnR X f (rU λ i=>.int (g i)):=by
 intro π s σ H x v Q I rx h;obtain⟨i,rfl,q⟩:=h;obtain⟨t,rfl⟩:=rx;exact rule i t s _ _ ⟨.int (g i),H,I.tok _,⟨_,rfl⟩,q⟩
theorem uY:UnR X (unaryOp .USub) (rU λ i=>.int (-i)):=unI λ _ _ _ _ _ q=>neg_int q
end
def scal:V->V->Bool
 | .non,.non=>true | .non,.int _=>true | .int _,.non=>true | .non,.bl _=>true | .bl _,.non=>true | .non,.str _=>true | .str _,.non=>true
 | .int _,.int _=>true | .bl _,.bl _=>true | .str _,.str _=>true | .byt _,.byt _=>true
 | .int _,.str _=>true | .str _,.int _=>true | .bl _,.str _=>true | .str _,.bl _=>true
 | _,_=>false
def rEq:R2:=λ x y H Q=>scal x y=true/\Q (.bl (decide (x=y))) H
def rNe:R2:=λ x y H Q=>scal x y=true/\Q (.bl (!decide (x=y))) H
theorem Yx {i j:Int}:decide (V.int i=V.int j)=(i==j):=by
 rw[z1W];simp
theorem dZ {i j:Bool}:decide (V.bl i=V.bl j)=(i==j):=by
 rw[z1W];simp
theorem Yy {i j:Str}:decide (V.str i=V.str j)=(i==j):=by
 rw[z1W];simp
theorem Yz {i j:Array UInt8}:decide (V.byt i=V.byt j)=(i.toList==j.toList):=by
 rw[z1W];cases i;cases j;simp
section
variable {X:Cx}{a b c:Expr}{ta tb tc:TE}
theorem Ba {σ:St}{H:Hp}{Q:VK}{k k':Bool}(I:Inv X π σ H s) (q:Q (.bl k) H) (e:k=k'):EP X π σ Q (.bool k') s:=by
 subst e;exact⟨.bl k,H,I,rfl,q⟩
theorem wk:OpR X (z0C .Eq) rEq:=by
 intro π s σ H x y v u Q I rx ry h;obtain⟨hs,q⟩:=h;cases x with
 | non=>
  cases rx;cases y with
  | non=>cases ry;exact PySem.EqNone.eq_none_none .(20)
  | bl j=>cases ry;exact PySem.EqNone.eq_none_bool .(20)
  | int j=>obtain⟨t',rfl⟩:=ry;exact PySem.EqNone.eq_none_int .(20)
  | str j=>obtain⟨t',rfl⟩:=ry;exact PySem.EqNone.eq_none_str .(20)
  | _=>exact absurd (show false=true from hs) z0D
 | bl i=>
  cases rx;cases y with
  | non=>cases ry;exact PySem.EqNone.eq_bool_none .(20)
  | bl j=>cases ry;exact eq_bool (Ba I q dZ)
  | str j=>obtain⟨t',rfl⟩:=ry;exact PySem.EqMixed.eq_bool_str .(20)
  | _=>exact absurd (show false=true from hs) z0D
 | int i=>
  obtain⟨t,rfl⟩:=rx;cases y with
  | non=>cases ry;exact PySem.EqNone.eq_int_none .(20)
  | int j=>obtain⟨t',rfl⟩:=ry;exact eq_int (Ba I q Yx)
  | str j=>obtain⟨t',rfl⟩:=ry;exact PySem.EqMixed.eq_int_str .(20)
  | _=>exact absurd (show false=true from hs) z0D
 | str i=>
  obtain⟨t,rfl⟩:=rx;cases y with
  | non=>cases ry;exact PySem.EqNone.eq_str_none .(20)
  | bl j=>cases ry;exact PySem.EqMixed.eq_str_bool .(20)
  | int j=>obtain⟨t',rfl⟩:=ry;exact PySem.EqMixed.eq_str_int .(20)
  | str j=>obtain⟨t',rfl⟩:=ry;exact eq_str (Ba I q Yy)
  | _=>exact absurd (show false=true from hs) z0D
 | byt i=>
  obtain⟨t,rfl⟩:=rx;cases y with
  | byt j=>obtain⟨t',rfl⟩:=ry;exact PySem.W.eq_bytes (Ba I q Yz)
  | _=>exact absurd (show false=true from hs) z0D
 | _=>cases y<;>exact absurd (show false=true from hs) z0D
theorem wu:OpR X (z0C .NotEq) rNe:=by
 intro π s σ H x y v u Q I rx ry h;obtain⟨hs,q⟩:=h;cases x with
 | non=>
  cases rx;cases y with
  | non=>cases ry;exact PySem.EqNone.ne_none_none .(20)
  | bl j=>cases ry;exact PySem.EqNone.ne_none_bool .(20)
  | int j=>obtain⟨t',rfl⟩:=ry;exact PySem.EqNone.ne_none_int .(20)
  | str j=>obtain⟨t',rfl⟩:=ry;exact PySem.EqNone.ne_none_str .(20)
  | _=>exact absurd (show false=true from hs) z0D
 | bl i=>
  cases rx;cases y with
  | non=>cases ry;exact PySem.EqNone.ne_bool_none .(20)
  | bl j=>cases ry;exact ne_bool (Ba I q (congrArg not dZ))
  | str j=>obtain⟨t',rfl⟩:=ry;exact PySem.EqMixed.ne_bool_str .(20)
  | _=>exact absurd (show false=true from hs) z0D
 | int i=>
  obtain⟨t,rfl⟩:=rx;cases y with
  | non=>cases ry;exact PySem.EqNone.ne_int_none .(20)
  | int j=>obtain⟨t',rfl⟩:=ry;exact ne_int (Ba I q (congrArg not Yx))
  | str j=>obtain⟨t',rfl⟩:=ry;exact PySem.EqMixed.ne_int_str .(20)
  | _=>exact absurd (show false=true from hs) z0D
 | str i=>
  obtain⟨t,rfl⟩:=rx;cases y with
  | non=>cases ry;exact PySem.EqNone.ne_str_none .(20)
  | bl j=>cases ry;exact PySem.EqMixed.ne_str_bool .(20)
  | int j=>obtain⟨t',rfl⟩:=ry;exact PySem.EqMixed.ne_str_int .(20)
  | str j=>obtain⟨t',rfl⟩:=ry;exact ne_str (Ba I q (congrArg not Yy))
  | _=>exact absurd (show false=true from hs) z0D
 | byt i=>
  obtain⟨t,rfl⟩:=rx;cases y with
  | byt j=>obtain⟨t',rfl⟩:=ry;exact PySem.W.ne_bytes (Ba I q (congrArg not Yz))
  | _=>exact absurd (show false=true from hs) z0D
 | _=>cases y<;>exact absurd (show false=true from hs) z0D
theorem rC:OpR X (z0C .Lt) (rI0 λ i j=>.bl (decide (i<j))):=opB0 λ _ _ _ _ _ _ _ q=>lt_int q
theorem ww:OpR X (z0C .LtE) (rI0 λ i j=>.bl (decide (i<=j))):=opB0 λ _ _ _ _ _ _ _ q=>le_int q
theorem wy:OpR X (z0C .Gt) (rI0 λ i j=>.bl (decide (j<i))):=opB0 λ _ _ _ _ _ _ _ q=>gt_int q
theorem wz:OpR X (z0C .GtE) (rI0 λ i j=>.bl (decide (j<=i))):=opB0 λ _ _ _ _ _ _ _ q=>ge_int q
theorem bK:OpR X (z0C .In) (λ x y H Q=>∃ i j,x=.str i/\y=.str j/\Q (.bl (!(z2J j i 0 j.length 1).isEmpty)) H):=by
 intro π s σ H x y v u Q I rx ry h;obtain⟨i,j,rfl,rfl,q⟩:=h;obtain⟨t,rfl⟩:=rx;obtain⟨t',rfl⟩:=ry;exact in_str (Ba I q rfl)
theorem Uk:OpR X (z0C .NotIn) (λ x y H Q=>∃ i j,x=.str i/\y=.str j/\Q (.bl (!(!(z2J j i 0 j.length 1).isEmpty))) H):=by
 intro π s σ H x y v u Q I rx ry h;obtain⟨i,j,rfl,rfl,q⟩:=h;obtain⟨t,rfl⟩:=rx;obtain⟨t',rfl⟩:=ry;exact notIn_str (Ba I q rfl)
theorem OpR.or {f:z00->z00->Sem z00}{r r':R2}(h:OpR X f r) (h':OpR X f r'):OpR X f (λ x y H Q=>r x y H Q∨r' x y H Q):=by
 intro π s σ H x y v u Q I rx ry q
 rcases q with q | q
 ·exact h π s σ H x y v u Q I rx ry q
 ·exact h' π s σ H x y v u Q I rx ry q
theorem Ks (b:Expr) {op:z2H}(h:op≠.In:=by decide) (h2:op≠.NotIn:=by decide):z17 op b=false:=by
 have e1:(op==CmpOp.In)=false:=by cases op<;>first | rfl | exact absurd rfl h
 have e2:(op==z80)=false:=by cases op<;>first | rfl | exact absurd rfl h2
 cases b<;>simp[z17,e1,e2]
theorem Y0 {op:z2H}{r:R2}(ho:OpR X (z0C op) r) (ha:PE X a ta) (hb:PE X b tb) (hm:z17 op b=false):PE X (.Compare a [op] [b] pos) (tOp r ta tb):=by
 intro π s σ H Q I h;exact wpAny_Compare1 (binT ha hb I h λ v u s2 x y H2 I2 rx ry q=>ho π s2 σ H2 x y v u Q I2 rx ry q) hm
def w6 (t:TE):TT:=λ σ H Q=>t σ H λ x H'=>∃ k,x=.bl k/\Q k H'
theorem Y4 {op:z2H}{r:R2}(ho:OpR X (z0C op) r) (ha:PE X a ta) (hb:PE X b tb) (hm:z17 op b=false):PT X (.Compare a [op] [b] pos) (w6 (tOp r ta tb)):=by
 intro π s σ H Q I h;refine z3G (thn (ha π s σ H _ I h) λ v s1 ⟨x,H1,I1,r1,q1⟩=>thn (hb π s1 σ H1 _ I1 q1) λ u s2 ⟨y,H2,I2,r2,q2⟩=>
  thn (ho π s2 σ H2 x y v u _ I2 r1 r2 q2) λ c s3 ⟨z,H3,I3,r3,k,e,q3⟩=>?_) hm
 subst e;cases r3;exact z1J ⟨H3,I3,q3⟩
def TruV (K:z08) (x:V) (H:Hp) (k:Bool):Prop:=
 match x with
 | .non=>k=false
 | .bl b=>k=b
 | .int i=>k=(i != 0)
 | .str y=>y.length<=sizeLine/\k=((y.length:Int) != 0)
 | .byt y=>y.size<=sizeLine/\k=((y.size:Int) != 0)
 | .ref p=>(∃ xs,SqL K H p xs/\k=!xs.isEmpty)∨(∃ xs,SqT K H p xs/\k=!xs.isEmpty)∨∃ kvs,H p=some (.dK kvs)/\k=!kvs.isEmpty
 | _=>False
theorem Xh {κ:Type}{kvs:List (κ×V)}{vs:List (κ×z00)}(r:KV kvs vs):(!vs.isEmpty)=!kvs.isEmpty:=by
 cases r<;>rfl
theorem RQ {xs:List V}(r:Vals xs its):(!its.toArray.isEmpty)=!xs.isEmpty:=by
 cases r<;>simp
theorem RT:(sizeLine:Nat)<2^63:=by rw[z1u];decide
theorem uZ:TruR X (λ x H Q=>∃ k,TruV X.K x H k/\Q k H):=by
 intro π s σ H x v Q I rx h;obtain⟨k,e,q⟩:=h;have hl:=RT;have hs:sizeLine=16777216:=z1u;cases x with
 | non=>
  cases rx;have e':k=false:=e;subst e';exact truthy_none ⟨H,I,q⟩
 | bl b=>
  cases rx;have e':k=b:=e;subst e';exact z1J ⟨H,I,q⟩
 | int i=>
  obtain⟨t,rfl⟩:=rx;have e':k=(i != 0):=e;subst e';exact PySem.P.truthy_int ⟨H,I,q⟩
 | str y=>
  obtain⟨t,rfl⟩:=rx;obtain⟨hy,e'⟩:y.length<=sizeLine/\k=((y.length:Int) != 0):=e;subst e';exact PySem.P.truthy_str (by omega) ⟨H,I.tok _,q⟩
 | byt y=>
  obtain⟨t,rfl⟩:=rx;obtain⟨hy,e'⟩:y.size<=sizeLine/\k=((y.size:Int) != 0):=e;subst e';exact PySem.W.truthy_bytes (by omega) ⟨H,I.tok _,q⟩
 | ref p=>
  cases rx;have e':(∃ xs,SqL X.K H p xs/\k=!xs.isEmpty)∨(∃ xs,SqT X.K H p xs/\k=!xs.isEmpty)∨∃ kvs,H p=some (.dK kvs)/\k=!kvs.isEmpty:=e
  rcases e' with ⟨xs,hx,e'⟩ | ⟨xs,hx,e'⟩ | ⟨kvs,hx,e'⟩
  ·subst e';obtain⟨its,r,pl,hz⟩:=I.list hx;have hlen:=r.length;exact wpAny_truthy_list pl.isList (by simp only[z0t];omega) ⟨H,I.tok _,by rw[RQ r];exact q⟩
  ·subst e';obtain⟨its,r,pl,hz⟩:=I.tuple hx;have hlen:=r.length;exact truthy_tuple pl (by simp only[z0t];omega) ⟨H,I.tok _,by rw[RQ r];exact q⟩
  ·subst e';obtain⟨hz,hS,vs,r,m⟩:kvs.length<=sizeLine/\(p==z16)=false/\∃ vs,KV kvs vs/\s.heap.DictOf (Aq X.prog X.w) p vs:=I.hok p _ hx;have hlen:kvs.length=vs.length:=z4Z r;exact wpAny_truthy_dict hS m (by omega) ⟨H,I.tok _,by rw[Xh r];exact q⟩
 | _=>exact (show False from e).elim
theorem dg (ha:PE X a ta) (he:∀ whole,z2G a X.env whole=(do let v <-whole;z1X a.pos;z1v [v] (truthy v))) :
  PT X a (λ σ H Q=>ta σ H λ x H'=>∃ k,TruV X.K x H' k/\Q k H'):=by
 intro π s σ H Q I h;exact isTrue_plain (thn (ha π s σ H _ I h) λ v s1 ⟨x,H1,I1,r1,q1⟩=>uZ π s1 σ H1 x v Q I1 r1 q1) (he _)
theorem Xi:OpR X (z1t .Add) (λ x y H Q=>∃ i j,x=.str i/\y=.str j/\i.length+j.length<=sizeLine/\Q (.str (i++j)) H):=by
 intro π s σ H x y v u Q I rx ry h;obtain⟨i,j,rfl,rfl,hz,q⟩:=h;obtain⟨t,rfl⟩:=rx;obtain⟨t',rfl⟩:=ry;exact add_str (λ t' tk=>⟨.str (i++j),H,I.tok _,⟨_,rfl⟩,q⟩) hz
theorem vals1 {x:V}(r:Vals [x] us):∃ u,us=[u]/\RelV x u:=by
 cases r with
 | cons r1 r2=>cases r2;exact⟨_,rfl,r1⟩
theorem vals2 {x y:V}(r:Vals [x,y] us):∃ u w',us=[u,w']/\RelV x u/\RelV y w':=by
 cases r with
 | cons r1 r2=>
  cases r2 with
  | cons r3 r4=>cases r4;exact⟨_,_,rfl,r1,r3⟩
theorem O8 (hc:X.calm=true):Dd X (.builtin "max") (λ xs H Q=>∃ i j,xs=[.int i,.int j]/\Q (.int (if j > i then j else i)) H):=by
 intro π s σ H xs us Q I r h;obtain⟨i,j,rfl,q⟩:=h;obtain⟨u,w',rfl,⟨t,rfl⟩,⟨t',rfl⟩⟩:=vals2 r;refine max_two_ints (I.ok.hd hc) λ h' tk k=>⟨_,H,I.kept k,?_,q⟩
 by_cases hj:j > i
 ·rw[if_pos hj,if_pos hj];exact⟨_,rfl⟩
 ·rw[if_neg hj,if_neg hj];exact⟨_,rfl⟩
theorem Ti (hc:X.calm=true):Dd X (.builtin "min") (λ xs H Q=>∃ i j,xs=[.int i,.int j]/\Q (.int (if j<i then j else i)) H):=by
 intro π s σ H xs us Q I r h;obtain⟨i,j,rfl,q⟩:=h;obtain⟨u,w',rfl,⟨t,rfl⟩,⟨t',rfl⟩⟩:=vals2 r;refine min_two_ints (I.ok.hd hc) λ h' tk k=>⟨_,H,I.kept k,?_,q⟩
 by_cases hj:j<i
 ·rw[if_pos hj,if_pos hj];exact⟨_,rfl⟩
 ·rw[if_neg hj,if_neg hj];exact⟨_,rfl⟩
def LenV (K:z08) (x:V) (H:Hp) (n:Nat):Prop:=
 match x with
 | .str y=>y.length<=sizeLine/\n=y.length
 | .byt y=>y.size<=sizeLine/\n=y.size
 | .ref p=>(∃ xs,SqL K H p xs/\n=xs.length)∨∃ xs,SqT K H p xs/\n=xs.length
 | _=>False
theorem dh:Dd X (.builtin "len") (λ xs H Q=>∃ x n,xs=[x]/\LenV X.K x H n/\Q (.int n) H):=by
 intro π s σ H xs us Q I r h;obtain⟨x,n,rfl,e,q⟩:=h;obtain⟨u,rfl,rx⟩:=vals1 r;have hl:=RT;have hs:sizeLine=16777216:=z1u;cases x with
 | str y=>
  obtain⟨t,rfl⟩:=rx;obtain⟨hy,e'⟩:y.length<=sizeLine/\n=y.length:=e;subst e';exact len_str (by omega) ⟨.int _,H,I.tok _,⟨_,rfl⟩,q⟩
 | byt y=>
  obtain⟨t,rfl⟩:=rx;obtain⟨hy,e'⟩:y.size<=sizeLine/\n=y.size:=e;subst e';exact PySem.W.len_bytes (by omega) ⟨.int _,H,I.tok _,⟨_,rfl⟩,q⟩
 | ref p=>
  cases rx;have e':(∃ xs,SqL X.K H p xs/\n=xs.length)∨∃ xs,SqT X.K H p xs/\n=xs.length:=e
  rcases e' with ⟨xs,hx,e'⟩ | ⟨xs,hx,e'⟩
  ·subst e';obtain⟨its,r',pl,hz⟩:=I.list hx;have hlen:=r'.length;exact Calls.call_len_list pl.isList (by simp only[z0t];omega) ⟨.int xs.length,H,I.tok _,⟨_,by simp only[z0t];rw[hlen]⟩,q⟩
  ·subst e';obtain⟨its,r',pl,hz⟩:=I.tuple hx;have hlen:=r'.length;exact len_tuple pl (by simp only[z0t];omega) ⟨.int xs.length,H,I.tok _,⟨_,by simp only[z0t];rw[hlen]⟩,q⟩
 | _=>exact (show False from e).elim
end
structure ObjM (h:Heap) (x dx C:Addr) (mA:Str->Option z00):Prop where
 obj:h.get? x=some (z2F C dx)
 ns:h.Ns1 dx mA
 ne:dx≠x
theorem bL {dx:Addr}{mA:Str->Option z00}(n:h.Ns1 dx mA):∃ od,h.get? dx=some od/\∀ name,z55 name od=some (mA name):=by
 obtain⟨o,es,ep,ho,hd,hk,_,hm⟩:=n;refine⟨o,ho,λ name=>?_⟩;have e:=hm name;unfold nsFind findBy at e;rw[<-Array.find?_toList] at e;unfold z55;rw[hd];dsimp only;split
 ·rename_i y q;rw[q] at e;exact congrArg some e
 ·rename_i q;rw[q] at e;have a:es.toList.any (·.refKey)=false:=by
   rw[z85];intro y hy;obtain⟨z,t,hkey⟩:=hk y (z6c.mp hy);simp[DictEntry.refKey,hkey]
  have a':¬ es.toList.any (·.refKey)=true:=by rw[a];exact z0D
  rw[if_neg a'];exact congrArg some e
theorem ObjM.look {x dx:Addr}{mA:Str->Option z00}(I:ObjM h x dx C mA):∃ od,PySem.W.InstAt h x (z2F C dx) C (some od)/\∀ name,z55 name od=some (mA name):=
 let ⟨od,ho,hl⟩:=bL I.ns
 ⟨od,⟨I.obj,rfl,rfl,ho⟩,hl⟩
section
variable {A:z0a}{K:z08}{x dx f:Addr}{mA:Str->Option z00}{name:Str}{v:z00}
theorem Ul {expr:Bool}(X:K.In s.heap) (I:ObjM s.heap x dx C mA) (hg:z4e K C name=true) (hh:z56 K C=true)
  (ha:z18 K (.ref C) name=some none) (hv:mA name=some v) (hv':z86 v=true) (h:Q v { s with toks:=s.toks+1 }) :
  z02 (z04 prog w) A (getAttr (.ref x) name expr) Q E s:=by
 obtain⟨od,J,hl⟩:=I.look;exact PySem.W.get_value X J (z6d hg).1 (PySem.W.findObj_own hh ha rfl (by rw[hl,hv])) hv' h
theorem di {pl:Sem Bool}{Q:z00×List z00->z03->Prop}(X:K.In s.heap) (I:ObjM s.heap x dx C mA) (hg:z4e K C name=true)
  (hf:z18 K (.ref C) name=some (some (.ref f))) (ht:z3K K (.ref f)=true) (hv:mA name=none) (h:Q (.ref f,[.ref x]) s) :
  z02 (z04 prog w) A (z29 (.ref x) name pl) Q E s:=by
 obtain⟨od,J,hl⟩:=I.look;exact PySem.W.method_fn X J (z6d hg).1 (z6d hg).2 hf (beq_iff_eq.mp ht) (by show (z55 name od).map (·.isSome)=some false;rw[hl,hv];rfl) h
theorem mj {ns:List Str}{Q:Unit->z03->Prop}(X:K.In s.heap) (I:ObjM s.heap x dx C mA)
  (hs:z18 K (.ref C) "__setattr__"=some (some (.builtin "object.__setattr__"))) (hp:z6e K C=true) (ht:z6f K C name=some none) (hh:z56 K C=true)
  (hw:z62 mA ns) (hsz:ns.length<=sizeLine)
  (h:∀ h',ObjM h' x dx C (λ y=>if y=name then some v else mA y)->z14 dx s.heap h'->Q () { s with heap:=h',toks:=s.toks+2 }) :
  z02 (z04 prog w) A (setAttr (.ref x) name v) Q E s:=by
 obtain⟨od,J,hl⟩:=I.look;refine PySem.W.set_plain X J hs (PySem.W.osa_open (s:={ s with toks:=s.toks+1 }) (r:=none) X J hp ht λ b=>?_);obtain⟨cd,hc,hd'⟩:=PySem.W.any_some hh;have hx:s.heap.get? x=some ⟨.ref C,some dx,.plain,#[]⟩:=I.obj;refine z01 (z05 (z01 (z01 (wpAny_loadPart hx (z01 (PySem.W.Looks.here (s:={ s with toks:=s.toks+1 }) (PySem.W.looks_clsIn X hc) ?_))))));rw[hd'];refine z05 (a:=some dx) (z01 (z05 (z01 ?_)));refine wpAny_nsSet1 (s:={ s with toks:=s.toks+1 }) I.ns λ h' hn2 hs2=>?_;obtain⟨oD,esD,epD,hoD,hdD,hcD⟩:=hn2.count (PySem.Within.cons name v hw);refine z01 (wpAny_lookBehind hoD (by rw[hdD];exact pastItsLine_dict (z0A hcD (by rw[z0u];omega))) ?_);exact z05 (h _ ⟨(hs2.2 _ (z0n I.ne)).trans I.obj,hn2,I.ne⟩ hs2)
theorem dj {R:z2u->z03->Prop}(X:K.In s.heap) (hm:z6g K C=true)
  (hi:z18 K (.ref C) "__init__"=some (some (.ref f))) (hf:PySem.W.typeIn K (.ref f)=some (.type "function"))
  (h:z0Z (z04 prog w) (A.under (.builtin "type.__call__" ⟨.ref C::vs,kw⟩)) (.call (.ref f) ⟨.ref .(7)::vs,kw⟩) (PySem.W.InitBack .(7) R)
   { s with heap:=(s.heap.push z2v).push (z2F C s.heap.objs.size) }) :
  z0Z (z04 prog w) A (.call (.ref C) ⟨vs,kw⟩) R s:=by
 obtain⟨hh,g,d,t,os⟩:=s;exact PySem.W.make_core (PySem.W.makes_of X hm) (PySem.W.looks_findIn X hi) (λ self=>PySem.W.bind_fn X self hf) (.inl rfl) h
end
def putF (f:Str) (v:V):List (Str×V)->List (Str×V)
 | []=>[(f,v)]
 | (g,x)::r=>if g=f then (g,v)::r else (g,x)::putF f v r
theorem QZ (f g:Str) (v:V):∀ fs:List (Str×V),(putF f v fs).lookup g=if g=f then some v else fs.lookup g
 | []=>by
  show z0m g [(f,v)]=_
  by_cases h:g=f
  ·have hb:(g==f)=true:=beq_iff_eq.mpr h;simp only[z0m,hb,if_pos h]
  ·have hb:(g==f)=false:=beq_eq_false_iff_ne.mpr h;simp only[z0m,hb,if_neg h]
 | (k,x)::r=>by
  have ih:=QZ f g v r;rw[show putF f v ((k,x)::r)=(if k=f then (k,v)::r else (k,x)::putF f v r) from rfl]
  by_cases hk:k=f
  ·rw[if_pos hk]
   by_cases h:g=k
   ·have hb:(g==k)=true:=beq_iff_eq.mpr h;simp only[z0m,hb,if_pos (h.trans hk)]
   ·have hb:(g==k)=false:=beq_eq_false_iff_ne.mpr h;simp only[z0m,hb,if_neg (λ e:g=f=>h (e.trans hk.symm))]
  ·rw[if_neg hk]
   by_cases h:g=k
   ·have hb:(g==k)=true:=beq_iff_eq.mpr h;simp only[z0m,hb,if_neg (λ e:g=f=>hk (h.symm.trans e))]
   ·have hb:(g==k)=false:=beq_eq_false_iff_ne.mpr h;simp only[z0m,hb];exact ih
theorem O9 (f:Str) (v:V):∀ fs:List (Str×V),f∈(putF f v fs).map (·.1)/\∀ g,g∈fs.map (·.1)->g∈(putF f v fs).map (·.1)
 | []=>⟨by simp[putF],λ g h=>by simp at h⟩
 | (k,x)::r=>by
  obtain⟨i1,i2⟩:=O9 f v r;rw[show putF f v ((k,x)::r)=(if k=f then (k,v)::r else (k,x)::putF f v r) from rfl]
  by_cases hk:k=f
  ·rw[if_pos hk];subst hk;exact⟨by simp,λ g h=>by simpa using h⟩
  ·rw[if_neg hk];refine⟨?_,λ g h=>?_⟩
   ·rw[z0c];exact z0y _ i1
   ·rw[z0c] at h ⊢
    rcases z0i.mp h with e | e
    ·exact z0i.mpr (.inl e)
    ·exact z0y _ (i2 g e)
theorem Qa (f:Str) (v:V):∀ fs:List (Str×V),(putF f v fs).length<=fs.length+1
 | []=>by simp[putF]
 | (k,x)::r=>by
  have ih:=Qa f v r;rw[show putF f v ((k,x)::r)=(if k=f then (k,v)::r else (k,x)::putF f v r) from rfl]
  by_cases hk:k=f
  ·rw[if_pos hk,z0u,z0u];omega
  ·rw[if_neg hk,z0u,z0u];omega
theorem RelO.some_of {v:V}{o:Option z00}(r:RelO (some v) o):∃ u,o=some u/\RelV v u:=by
 cases o with
 | none=>exact (show False from r).elim
 | some u=>exact⟨u,rfl,r⟩
theorem RelO.none_of {o:Option z00}(r:RelO none o):o=none:=by
 cases o with
 | none=>rfl
 | some u=>exact (show False from r).elim
theorem O_ {v:V}(r:RelV v u):z86 u=true:=by
 cases v with
 | non=>cases (show u=z15 from r);rfl
 | bl b=>cases (show u=z39 b from r);rfl
 | int i=>obtain⟨t,e⟩:=(show ∃ t,u=z37 i t from r);cases e;rfl
 | str x=>obtain⟨t,e⟩:=(show ∃ t,u=z3D x t from r);cases e;rfl
 | byt b=>obtain⟨t,e⟩:=(show ∃ t,u=z7W b t from r);cases e;rfl
 | flt b=>obtain⟨t,e⟩:=(show ∃ t,u=z61 b t from r);cases e;rfl
 | ref a=>cases (show u=z0b a from r);rfl
 | ty n=>cases (show u=z2h n from r);rfl
section
variable {H H':Hp}{dx:Addr}{fs fs':List (Str×V)}
theorem Lp (hok:HOk P w H h) (e:H a=some (.ins C dx fs)):∃ mA,ObjM h a dx C mA/\(∀ f,RelO (fs.lookup f) (mA f))/\z62 mA (fs.map (·.1))/\fs.length<=1000/\H dx=some (.own a):=by
 obtain⟨d,z,ne,ob,mA,n,r,q⟩:=(show BV P w H h a (.ins C dx fs) from hok a _ e);exact⟨mA,⟨ob,n,ne⟩,r,q,z,d⟩
end
structure Cls (K:z08) (C:Addr):Prop where
 pg:z4e K C z3L=true
 hd:z56 K C=true
 po:z6e K C=true
 sa:z18 K (.ref C) "__setattr__"=some (some (.builtin "object.__setattr__"))
theorem Cls.get {K:z08}(c:Cls K C) (f:Str):z4e K C f=true:=c.pg
def Bf (K:z08) (C:Addr) (f:Str):Prop:=z18 K (.ref C) f=some none
theorem Bf.taker {K:z08}(n:Bf K C f):z6f K C f=some none:=by
 unfold z6f;rw[show z18 K (.ref C) f=some none from n];rfl
structure Meth (K:z08) (C:Addr) (m:Str) (f:Addr):Prop where
 at_:z18 K (.ref C) m=some (some (.ref f))
 fn:z3K K (.ref f)=true
 kp:z1L K (.ref f)=true
section
variable {X:Cx}{σ:St}{H:Hp}{dx:Addr}{fs:List (Str×V)}{v:V}{A:z0a}
theorem Xj {b:Bool}(I:Inv X π σ H s) (e:H a=some (.ins C dx fs)) (c:Cls X.K C) (n:Bf X.K C f) (l:fs.lookup f=some v)
  (h:∀ u s',Inv X π σ H s'->RelV v u->Q u s'):z02 .(0) A (getAttr (.ref a) f b) Q E s:=by
 obtain⟨mA,O,r,_,_,_⟩:=Lp I.hok e;obtain⟨u,hu,ru⟩:=RelO.some_of (v:=v) (o:=mA f) (by rw[<-l];exact r f);exact Ul I.kIn O (c.get f) c.hd n hu (O_ ru) (h u _ (I.tok _) ru)
theorem Jz {g:Addr}{pl:Sem Bool}{Q:z00×List z00->z03->Prop}(I:Inv X π σ H s) (e:H a=some (.ins C dx fs)) (c:Cls X.K C) (k:Meth X.K C m g) (l:fs.lookup m=none)
  (h:Q (.ref g,[.ref a]) s):z02 .(0) A (z29 (.ref a) m pl) Q E s:=by
 obtain⟨mA,O,r,_,_,_⟩:=Lp I.hok e;have hn:mA m=none:=RelO.none_of (by rw[<-l];exact r m);exact di I.kIn O (c.get m) k.at_ k.fn hn h
theorem Xk {y:V}{Q:Unit->z03->Prop}(I:Inv X π σ H s) (e:H a=some (.ins C dx fs)) (c:Cls X.K C) (n:Bf X.K C f) (hl:fs.length<1000) (ry:RelV y u)
  (h:∀ s',Inv X π σ (upd H a (.ins C dx (putF f y fs))) s'->Q () s'):z02 .(0) A (setAttr (.ref a) f u) Q E s:=by
 obtain⟨mA,O,r,wi,_,ho⟩:=Lp I.hok e;have hz:(fs.map (·.1)).length<=sizeLine:=by rw[z07,z1u];omega
 refine mj I.kIn O c.sa c.po n.taker c.hd wi hz λ h' O' sb=>h _ ?_;have hd:∃ o,h'.get? dx=some o:=let ⟨o,_,_,e',_⟩:=O'.ns;⟨o,e'⟩;refine I.write (x:=a) (e:=dx) (by rw[e];exact z1M) (.inr ho) (λ b q hb z=>(sb.2 b hb).trans z) hd ?_;refine⟨by rw[Ak O.ne];exact ho,?_,O.ne,O'.obj,_,O'.ns,λ g=>?_,λ g hg=>?_⟩
 ·have:=Qa f y fs;omega
 ·show RelO ((putF f y fs).lookup g) (if g=f then some u else mA g);rw[QZ]
  by_cases q:g=f
  ·rw[if_pos q,if_pos q];exact ry
  ·rw[if_neg q,if_neg q];exact r g
 ·by_cases q:g=f
  ·rw[q];exact (O9 f y fs).1
  ·refine (O9 f y fs).2 g (wi g λ z=>hg ?_);show (if g=f then some u else mA g)=none;rw[if_neg q];exact z
theorem Inv.made (I:Inv X π σ H s):Inv X π σ (upd (upd H s.heap.objs.size (.own .(7))) .(7) (.ins C s.heap.objs.size []))
  { s with heap:=(s.heap.push z2v).push (z2F C s.heap.objs.size) }:=by
 have e1:(s.heap.push z2v).get? s.heap.objs.size=some z2v:=z0l s.heap rfl;have e2:((s.heap.push z2v).push (z2F C s.heap.objs.size)).get? .(7)=some (z2F C s.heap.objs.size):=by
  have:=z0l (s.heap.push z2v) (o:=z2F C s.heap.objs.size) rfl
  rwa [z1w] at this
 have e3:(s.heap.push z2v).Ns s.heap.objs.size (λ _=>none):=⟨z2v,#[],_,e1,rfl,(λ e he=>absurd he (by simp)),λ _=>rfl⟩;have I1:=I.laid (a:=s.heap.objs.size) (o:=.own .(7)) (h':=s.heap.push z2v) (t':=s.toks) (λ b u q=>z0e _ q) (z06 _) ⟨_,e1⟩;refine I1.laid (a:=s.heap.objs.size+1) (o:=.ins C s.heap.objs.size []) (t':=s.toks) (λ b u q=>z0e _ q) (z6h (z1w _ _)) ?_;have ne:s.heap.objs.size≠s.heap.objs.size+1:=z0j (z4f _);refine⟨by rw[Ak ne,Aj],z19 _,ne,e2,λ _=>none,(Heap.Ns1.of_empty e3).at λ o q=>z0e _ q,λ _=>z1M,λ y hy=>absurd rfl hy⟩
theorem Um (hb:z1x e f env (eval e env)=eval e env)
  (h:z02 (z04 prog w) A (eval e env) (λ o s₁=>z02 (z04 prog w) A (getAttr o f true) Q E s₁) E s):z02 (z04 prog w) A (eval (.Attribute e f pos) env) Q E s:=
 Attribute_any_ h (by rw[arm_eval_Attribute,hb])
end
def tFld (K:z08) (ta:TE) (f:Str):TE:=λ σ H Q=>ta σ H λ x H1=>∃ a C dx fs v,x=.ref a/\H1 a=some (.ins C dx fs)/\Cls K C/\Bf K C f/\fs.lookup f=some v/\Q v H1
def sFld (K:z08) (ta tv:TE) (f:Str):TS:=λ D σ H=>tv σ H λ y H1=>ta σ H1 λ x H2=>∃ a C dx fs,x=.ref a/\H2 a=some (.ins C dx fs)/\Cls K C/\Bf K C f/\fs.length<1000 ∧
 D.nx σ (upd H2 a (.ins C dx (putF f y fs)))
section
variable {X:Cx}{o value:Expr}{tpos:Pos}{ta tv:TE}
theorem Xl (he:PE X e ta) (hb:z1x e f X.env (eval e X.env)=eval e X.env):PE X (.Attribute e f pos) (tFld X.K ta f):=by
 intro π s σ H Q I h;refine Um hb (thn (he π s σ H _ I h) λ u s1 ⟨x,H1,I1,rx,a,C,dx,fs,v,ex,ea,c,n,l,q⟩=>?_);subst ex;obtain rfl:u=z0b a:=rx;exact Xj I1 ea c n l λ u' s2 I2 ru=>⟨v,H1,I2,ru,q⟩
theorem du (ha:PE X o ta) (hv:PE X value tv) (hs:z1o value (some (.Attribute o f pos')) pos.line X.env=pure false):PS X (.Assign [.Attribute o f pos'] value pos) (sFld X.K ta tv f):=by
 intro π s σ H D I h;refine plainObj_wpAny_Assign_Attribute (thn (hv π s σ H _ I h) λ u s1 ⟨y,H1,I1,ry,q⟩=>thn (ha π s1 σ H1 _ I1 q) λ ov s2 ⟨x,H2,I2,rx,a,C,dx,fs,ex,ea,c,n,l,q2⟩=>?_) hs;subst ex;obtain rfl:ov=z0b a:=rx;exact Xk I2 ea c n l ry λ s3 I3=>⟨σ,_,I3,q2⟩
def rAdd:V->V->Hp->VK->Prop:=λ x y H Q=>∃ i j,x=.int i/\y=.int j/\Q (.int (i+j)) H
theorem rD {pl:Sem Bool}{args:List Expr}{σ:St}{H:Hp}{te:TE}(he:PE X e te) (I:Inv X π σ H s)
  (h:te σ H λ x H1=>∃ a C dx fs g,x=.ref a/\H1 a=some (.ins C dx fs)/\Cls X.K C/\Meth X.K C m g/\fs.lookup m=none ∧
   ∀ s1,Inv X π σ H1 s1->z02 .(0) X.A (z2a pos (.ref g) [.ref a] (z0B pos (z09 args X.env)) (z1D pos (z1p [] X.env))) Q X.xe s1)
  (ht:eval (.Call (.Attribute e m apos) args [] pos) X.env=(do
   let ov <-eval e X.env
   z1X apos.atName
   let (f,first) <-z1v [ov] (z29 ov m pl)
   z2a pos f first (z0B pos (z09 args X.env)) (z1D pos (z1p [] X.env)))) :
  z02 .(0) X.A (eval (.Call (.Attribute e m apos) args [] pos) X.env) Q X.xe s:=by
 refine z57 (pl:=pl) (thn (he π s σ H _ I h) λ u s1 ⟨x,H1,I1,rx,a,C,dx,fs,g,ex,ea,c,k,l,q⟩=>?_) ht;subst ex;obtain rfl:u=z0b a:=rx;exact Jz I1 ea c k l (q s1 I1)
end
section
variable {X:Cx}{σ:St}{H:Hp}{A:z0a}{c:z00}{b:Bool}
inductive TyOf (K:z08) (H:Hp):V->z00->Prop where
  | non:TyOf K H .non (.type "NoneType")
  | bl (x:Bool):TyOf K H (.bl x) (.type "bool")
  | int (i:Int):TyOf K H (.int i) (.type "int")
  | str (x:Str):TyOf K H (.str x) (.type "str")
  | flt (x:UInt64):TyOf K H (.flt x) (.type "float")
  | lst {a:Addr}{xs:List V}(e:H a=some (.lst xs)):TyOf K H (.ref a) (.type "list")
  | frz {a:Addr}{o:Obj}{xs:List V}(e:H a=some (.frz o (.lst xs))):TyOf K H (.ref a) (.type "list")
  | tup {a:Addr}{xs:List V}(e:H a=some (.tup xs)):TyOf K H (.ref a) (.type "tuple")
  | dK {a:Addr}{kvs:List (Key×V)}(e:H a=some (.dK kvs)):TyOf K H (.ref a) (.type "dict")
  | dT {a:Addr}{kvs:List (List Key×V)}(e:H a=some (.dT kvs)):TyOf K H (.ref a) (.type "dict")
  | ins {a C dx:Addr}{fs:List (Str×V)}(e:H a=some (.ins C dx fs)) (cl:Cls K C) (ha:z18 K (.ref C) "__class__"=some (some (.builtin "object.__class__")))
      (hn:z6i K (.builtin "object.__class__") "__get__"=some (some (.builtin "getset_descriptor.__get__"))) (htk:PySem.W.takesIn K (.builtin "object.__class__")=some true)
      (hm:PySem.W.mroIn K C (.type "object")=some true):TyOf K H (.ref a) (.ref C)
theorem bM {x:V}{t:z00}(I:Inv X π σ H s) (rx:RelV x u) (ty:TyOf X.K H x t) (e:z3M X.K t c=some b) (h:∀ tk,Q (.bool b) { s with toks:=tk }) :
  z02 .(0) A (call (.builtin "isinstance") [u,c]) Q E s:=by
 cases ty with
 | non=>cases (show u=z15 from rx);exact z1N PySem.W.kitx_none I.kIn z1M e (λ z=>nomatch z) h
 | bl y=>cases (show u=z39 y from rx);exact z1N PySem.W.kitx_bool I.kIn z1M e (λ z=>nomatch z) h
 | int i=>obtain⟨t,q⟩:=(show ∃ t,u=z37 i t from rx);cases q;exact z1N PySem.W.kitx_int I.kIn z1M e (λ z=>nomatch z) h
 | str y=>obtain⟨t,q⟩:=(show ∃ t,u=z3D y t from rx);cases q;exact z1N PySem.W.kitx_str I.kIn z1M e (λ z=>nomatch z) h
 | flt y=>obtain⟨t,q⟩:=(show ∃ t,u=z61 y t from rx);cases q;exact z1N PySem.W.kitx_float I.kIn z1M e (λ z=>nomatch z) h
 | @lst a xs ea=>
  cases (show u=z0b a from rx);obtain⟨_,_,n,_,h1⟩:=(show BV X.prog X.w H s.heap a (.lst xs) from I.hok a _ ea);exact z1N z6j I.kIn ⟨_,h1,rfl⟩ e (λ z=>nomatch z) h
 | @frz a ob xs ea=>
  cases (show u=z0b a from rx);obtain⟨_,_,_,n,_,h1⟩:=(show BV X.prog X.w H s.heap a (.frz ob (.lst xs)) from I.hok a _ ea);exact z1N z6j I.kIn ⟨_,h1,rfl⟩ e (λ z=>nomatch z) h
 | @tup a xs ea=>
  cases (show u=z0b a from rx);obtain⟨_,_,_,p⟩:=(show BV X.prog X.w H s.heap a (.tup xs) from I.hok a _ ea);obtain⟨o,h1,h2,_⟩:=p;exact z1N z87 I.kIn ⟨o,h1,h2⟩ e (λ z=>nomatch z) h
 | @dK a kvs ea=>
  cases (show u=z0b a from rx);obtain⟨_,_,vs,_,p⟩:=(show BV X.prog X.w H s.heap a (.dK kvs) from I.hok a _ ea);obtain⟨o,es,ep,h1,h2,_⟩:=p;exact z1N z88 I.kIn ⟨o,h1,h2.1⟩ e (λ z=>nomatch z) h
 | @dT a kvs ea=>
  cases (show u=z0b a from rx);obtain⟨_,_,xs,_,o,es,ep,h1,h2,_⟩:=(show BV X.prog X.w H s.heap a (.dT kvs) from I.hok a _ ea);exact z1N z88 I.kIn ⟨o,h1,h2.1⟩ e (λ z=>nomatch z) h
 | @ins a C dx fs ea cl ha hn htk hm=>
  cases (show u=z0b a from rx);obtain⟨mA,O,_⟩:=Lp I.hok ea;obtain⟨od,J,_⟩:=O.look;exact z1N (PySem.W.kitx_own (cl.get _) cl.hd ha hn htk hm) I.kIn J e (λ z=>nomatch z) h
end
structure Room (k:Nat) (A:z0a):Prop where
 hd:A.handled=none
 dp:A.depth+3*k+5<recursionLimit
 un:A.units+16*k+200<z0h
theorem Room.mono {k:Nat}{A:z0a}(r:Room k A) (h:j<=k):Room j A:=⟨r.hd,by have:=r.dp;omega,by have:=r.un;omega⟩
theorem Room.deeper {k:Nat}{A:z0a}(r:Room (k+1) A) (env:Env):Room k (A.deeper env):=
 ⟨r.hd,by have:=r.dp;show A.depth+1+3*k+5<_;omega,by have:=r.un;show A.units+3+16*k+200<_;omega⟩
theorem Xm {A:z0a}:(A.under (.builtin "type.__call__" ⟨.ref C::us,kw⟩)).depth=A.depth+1:=by
 first | rfl | simp[z6k,Code.weight,Code.isCreation,Code.isGuard,Code.isCaller,z89,z6l,guardIds]
theorem Xn {A:z0a}:(A.under (.builtin "type.__call__" ⟨.ref C::us,kw⟩)).units=A.units+1:=by
 first | rfl | simp[z6k,Code.cUnits,z89,z6l]
theorem Room.make {k:Nat}{A:z0a}(r:Room (k+1) A) (C:Addr) (us:List z00) (kw:List (Str×z00)):Room k (A.under (.builtin "type.__call__" ⟨.ref C::us,kw⟩)):=
 ⟨r.hd,by have:=r.dp;rw[Xm];omega,by have:=r.un;rw[Xn];omega⟩
theorem Room.depth {k:Nat}{A:z0a}(r:Room k A):A.depth<recursionLimit:=by have:=r.dp;omega
theorem Room.units {k:Nat}{A:z0a}(r:Room k A):A.units+64<z0h:=by have:=r.un;omega
def tNil:TA:=λ _ H Q=>Q [] H
def V6 (ta:TE) (tr:TA):TA:=λ σ H Q=>ta σ H λ x H1=>tr σ H1 λ xs H2=>Q (x::xs) H2
section
variable {X:Cx}{es:List Expr}{te:TE}{t:TA}
theorem DG:PA X [] tNil:=λ _ _ _ _ H Q I h=>Calls.spliced_nil ⟨[],H,I,.nil,h⟩
theorem Bp (ha:PE X e te) (hr:PA X es t) (hs:z09 (e::es) X.env=(false,eval e X.env)::z09 es X.env:=by rfl):PA X (e::es) (V6 te t):=by
 intro pos π s σ H Q I h;rw[hs];show z02 _ _ (spliced ((false,eval e X.env)::z0B pos (z09 es X.env))) _ _ s;refine Calls.spliced_cons (thn (ha π s σ H _ I h) λ u s1 ⟨x,H1,I1,r1,q1⟩=>?_);exact thn (hr pos π s1 σ H1 _ I1 q1) λ us s2 ⟨xs,H2,I2,r2,q2⟩=>⟨x::xs,H2,I2,.cons r1 r2,q2⟩
def tTup (t:TA):TE:=λ σ H Q=>t σ H λ xs H1=>xs.length<=sizeLine/\∀ p,H1 p=none->Q (.ref p) (upd H1 p (.tup xs))
def tLst (t:TA):TE:=λ σ H Q=>t σ H λ xs H1=>xs.length<=sizeLine/\∀ p,H1 p=none->Q (.ref p) (upd H1 p (.lst xs))
theorem Xo {x1} (h:PA X es t):PE X (.Tuple es x1 pos) (tTup t):=by
 intro π s σ H Q I hq;refine wpAny_Tuple_spliced (thn (h pos π s σ H _ I hq) λ us s1 ⟨xs,H1,I1,r,z,q⟩=>⟨by rw[<-r.length];exact z,?_⟩);have hf:H1 s1.heap.objs.size=none:=I1.hok.fresh (z06 _);refine⟨.ref s1.heap.objs.size,upd H1 s1.heap.objs.size (.tup xs),I1.laid (t':=s1.toks) (λ b u e=>z0e _ e) (z06 _) ?_,rfl,q _ hf⟩;exact⟨z,us,r,⟨_,z0l _ rfl,rfl,_,rfl⟩⟩
theorem dw (h:PA X es t):PE X (.List es pos) (tLst t):=by
 intro π s σ H Q I hq;refine wpAny_List_spliced (thn (h pos π s σ H _ I hq) λ us s1 ⟨xs,H1,I1,r,z,q⟩=>⟨by rw[<-r.length];exact z,?_⟩);have hf:H1 s1.heap.objs.size=none:=I1.hok.fresh (z06 _);refine⟨.ref s1.heap.objs.size,upd H1 s1.heap.objs.size (.lst xs),I1.laid (t':=s1.toks) (λ b u e=>z0e _ e) (z06 _) ?_,rfl,q _ hf⟩;exact⟨z,us,0,r,z0l _ rfl⟩
end
abbrev Sp:=List V->Hp->VK->XK->Prop
abbrev CXT:=List Env->Hp->z03->XK->z00->z03->Prop
structure Env0 (P:z0s) (w:z0k) (K:z08) (mg:Str->Option z00) (base:Heap) (A:z0a) (outer:List Env) (s:z03) (H:Hp):Prop where
 frames:A.frames=some outer
 mod:Mod K mg base
 bs:∀ b o,base.get? b=some o->s.heap.get? b=some o/\H b=none
 bsz:base.objs.size<=s.heap.objs.size
 funs:s.heap.FunFrames base outer
 frf:∀ b∈frs outer,H b=none
 hok:HOk P w H s.heap
 bare:z2j s.gens
def CE (outer:List Env) (P:z0s) (w:z0k) (H:Hp) (s:z03) (Q:VK) (u:z00) (s':z03):Prop:=
 ∃ v H',s'.os=s.os/\z2j s'.gens/\Un (frs outer) [] H H' s.heap s'.heap/\HOk P w H' s'.heap/\RelV v u/\Q v H'
def CR (CX:CXT) (outer:List Env) (P:z0s) (w:z0k) (H:Hp) (s:z03) (Q:VK) (E:XK) (r:z2u) (s':z03):Prop:=
 match r with
 | .ok (.ret u)=>CE outer P w H s Q u s'
 | .ok _=>False
 | .error e=>CX outer H s E e s'
structure FnOk (P:z0s) (w:z0k) (K:z08) (mg:Str->Option z00) (base:Heap) (CX:CXT) (k:Nat) (f:Addr) (fd:z2l) (ps:List Str) (sp:Sp):Prop where
 len:∀ vs H Q E,sp vs H Q E->vs.length=ps.length
 run:∀ (A:z0a) (outer:List Env) (s:z03) (H:Hp) (args:Args) (us:List z00) (vs:List V) (Q:VK) (E:XK),Room k A->Env0 P w K mg base A outer s H->z4g s fd args (ps.zip us)->Vals vs us->sp vs H Q E ->
  z0Z (z04 P w) A (.call (.ref f) args) (CR CX outer P w H s Q E) s
theorem FnOk.mono {P:z0s}{w:z0k}{K:z08}{mg:Str->Option z00}{base:Heap}{CX:CXT}{j k:Nat}{f:Addr}{fd:z2l}{ps:List Str}{sp:Sp}(F:FnOk P w K mg base CX j f fd ps sp) (h:j<=k) :
  FnOk P w K mg base CX k f fd ps sp:=⟨F.len,λ A outer s H args us vs Q E hr=>F.run A outer s H args us vs Q E (hr.mono h)⟩
theorem FnOk.imp {K:z08}{base:Heap}{CX:CXT}{k:Nat}{f:Addr}{sp sp':Sp}(F:FnOk P w K mg base CX k f fd ps sp)
  (h:∀ vs H Q E,sp' vs H Q E->sp vs H Q E):FnOk P w K mg base CX k f fd ps sp':=
 ⟨λ vs H Q E q=>F.len vs H Q E (h _ _ _ _ q),λ A outer s H args us vs Q E hr he hb hv hs=>F.run A outer s H args us vs Q E hr he hb hv (h _ _ _ _ hs)⟩
theorem Env0.make {K:z08}{base:Heap}{A:z0a}{outer:List Env}{H:Hp}(e:Env0 P w K mg base A outer s H) (C:Addr) (us:List z00) (kw:List (Str×z00)) :
  Env0 P w K mg base (A.under (.builtin "type.__call__" ⟨.ref C::us,kw⟩)) outer s H:=⟨by first | exact e.frames | (simpa [z6k,Code.envs,z6l,pushEnvs] using e.frames),e.mod,e.bs,e.bsz,e.funs,e.frf,e.hok,e.bare⟩
section
variable {X:Cx}{σ:St}{H:Hp}{s':z03}
theorem Inv.env0 (I:Inv X π σ H s):Env0 X.prog X.w X.K X.mg X.base X.A X.stack s H:=
 ⟨I.ok.frames,I.ok.mod,I.bs,z0A I.ok.bsz I.sz,I.stack,I.stkFree,I.hok,I.bare⟩
theorem Inv.after {Q:VK}(I:Inv X π σ H s) (h:CE X.stack X.prog X.w H s Q u s'):EP X π σ Q u s':=by
 obtain⟨v,H',os,bare,un,hok,r,q⟩:=h;obtain⟨hh,g,d,t,os'⟩:=s';obtain rfl:os'=s.os:=os;exact⟨v,H',I.call (h':=hh) (g':=g) (d':=d) (t':=t) (ch:=[]) un hok bare (λ b z=>absurd z (by simp)),r,q⟩
end
def xF (sp:Sp) (dvs:List V) (E:XK) (t:TA):TE:=λ σ H Q=>t σ H λ vs H1=>sp (vs++dvs) H1 Q E
def rF (C:Addr) (m:Str) (sp:Sp) (dvs:List V) (E:XK) (ta:TE) (t:TA):TE:=λ σ H Q=>ta σ H λ x H1=>∃ a dx fs,x=.ref a/\H1 a=some (.ins C dx fs)/\fs.lookup m=none ∧
 t σ H1 λ vs H2=>sp (x::(vs++dvs)) H2 Q E
def xG (C:Addr) (sp:Sp) (dvs:List V) (E:XK) (t:TA):TE:=λ σ H Q=>t σ H λ vs H1=>∀ x dx,H1 x=none->H1 dx=none->dx≠x ->
 sp (.ref x::(vs++dvs)) (upd (upd H1 dx (.own x)) x (.ins C dx [])) (λ v H2=>v=.non/\Q (.ref x) H2) E
def Binds (K:z08) (fd:z2l) (ps:List Str) (ds:List z00):Prop:=
 ∀ (s:z03) (us:List z00),K.In s.heap->(us++ds).length=ps.length->z4g s fd ⟨us,[]⟩ (ps.zip (us++ds))
theorem Binds.all {K:z08}(h:∀ us:List z00,us.length=ps.length->z4h fd ⟨us,[]⟩=pure (ps.zip us)):Binds K fd ps []:=λ s us _ hl=>by
 rw[z1g] at hl ⊢;exact .of_eq (h us hl)
def Mw (CX:CXT) (X:Cx) (E:XK):Prop:=∀ (π:zP) (σ:St) (H:Hp) (s:z03) (e:z00) (s':z03),Inv X π σ H s->CX X.stack H s E e s'->X.xe e s'
section
variable {X:Cx}{CX:CXT}{k:Nat}{f:Addr}{sp:Sp}{dvs:List V}{ds:List z00}{E:XK}{p:Pos}{o:Expr}{es:List Expr}{ta:TE}{t:TA}
theorem Xp {σ:St}{H:Hp}{Q:VK}{vs:List V}(F:FnOk X.prog X.w X.K X.mg X.base CX k f fd ps sp) (hr:Room k X.A) (hb:Binds X.K fd ps ds) (hd:Vals dvs ds) (hx:Mw CX X E)
  (I:Inv X π σ H s) (r:Vals vs us) (h:sp (vs++dvs) H Q E):z02 .(0) X.A (call (.ref f) us) (EP X π σ Q) X.xe s:=by
 have r2:Vals (vs++dvs) (us++ds):=r.append hd;have hl:(us++ds).length=ps.length:=by rw[<-r2.length];exact F.len _ _ _ _ h
 refine z58 (z2K (F.run X.A X.stack s H ⟨us,[]⟩ (us++ds) (vs++dvs) Q E hr I.env0 (hb s us I.kIn hl) r2 h) λ r s' hq=>?_);cases r with
 | error e=>exact hx π σ H s e s' I hq
 | ok fl=>
  cases fl with
  | ret u=>exact I.after hq
  | next=>exact z1n hq
  | brk=>exact z1n hq
  | cont=>exact z1n hq
theorem mq (F:FnOk X.prog X.w X.K X.mg X.base CX k f fd ps sp) (hr:Room k X.A) (hg:Gl X x) (hm:X.mg x=some (.ref f)) (hk:z1L X.K (.ref f)=true) (hb:Binds X.K fd ps ds) (hd:Vals dvs ds) (hx:Mw CX X E)
  (ha:PA X (e::es) t) (hdb:.(3)=false:=by decide) (he:z09 (e::es) X.env=(false,eval e X.env)::z09 es X.env:=by rfl) (hpl:.(37).any (·.1)=false:=by rfl) :
  PE X (.Call (.Name x p) (e::es) [] pos) (xF sp dvs E t):=by
 intro π s σ H Q I h;refine z3N (Uj I hg hm ?_ hdb);refine z59 (h₀:=X.base) I.ok.mod.kin hk (thn (ha pos π s σ H _ I h) λ us s1 ⟨vs,H1,I1,r,q⟩=>⟨I1.kIn,?_⟩) he hpl;exact Xp F hr hb hd hx I1 r q
theorem Y5 {pl:Sem Bool}(he:PE X o ta) (c:Cls X.K C) (hm:Meth X.K C m f) (F:FnOk X.prog X.w X.K X.mg X.base CX k f fd ps sp) (hr:Room k X.A) (hb:Binds X.K fd ps ds) (hd:Vals dvs ds) (hx:Mw CX X E) (ha:PA X (e::es) t)
  (hst:z09 (e::es) X.env=(false,eval e X.env)::z09 es X.env:=by rfl) (hpl:.(37).any (·.1)=false:=by rfl)
  (ht:eval (.Call (.Attribute o m apos) (e::es) [] pos) X.env=(do
   let ov <-eval o X.env
   z1X apos.atName
   let (f,first) <-z1v [ov] (z29 ov m pl)
   z2a pos f first (z0B pos (z09 (e::es) X.env)) (z1D pos (z1p [] X.env))):=by rfl) :
  PE X (.Call (.Attribute o m apos) (e::es) [] pos) (rF C m sp dvs E ta t):=by
 intro π s σ H Q I h;refine z57 (pl:=pl) (thn (he π s σ H _ I h) λ u s1 ⟨x,H1,I1,rx,a,dx,fs,ex,ea,l,q⟩=>?_) ht;subst ex;obtain rfl:u=z0b a:=rx;refine Jz I1 ea c hm l ?_;refine z59 (first:=[.ref a]) (h₀:=X.base) I.ok.mod.kin hm.kp (thn (ha pos π s1 σ H1 _ I1 q) λ us s2 ⟨vs,H2,I2,r,q2⟩=>⟨I2.kIn,?_⟩) hst hpl;exact Xp (us:=.ref a::us) (vs:=.ref a::vs) F hr hb hd hx I2 (.cons rfl r) q2
theorem d7 {pl:Sem Bool}(he:PE X o ta) (c:Cls X.K C) (hm:Meth X.K C m f) (F:FnOk X.prog X.w X.K X.mg X.base CX k f fd ps sp) (hr:Room k X.A) (hb:Binds X.K fd ps ds) (hd:Vals dvs ds) (hx:Mw CX X E)
  (ht:eval (.Call (.Attribute o m apos) [] [] pos) X.env=(do
   let ov <-eval o X.env
   z1X apos.atName
   let (f,first) <-z1v [ov] (z29 ov m pl)
   z2a pos f first (z0B pos (z09 [] X.env)) (z1D pos (z1p [] X.env))):=by rfl) :
  PE X (.Call (.Attribute o m apos) [] [] pos) (rF C m sp dvs E ta tNil):=by
 intro π s σ H Q I h;refine z57 (pl:=pl) (thn (he π s σ H _ I h) λ u s1 ⟨x,H1,I1,rx,a,dx,fs,ex,ea,l,q⟩=>?_) ht;subst ex;obtain rfl:u=z0b a:=rx;refine Jz I1 ea c hm l ?_;exact PySem.W.callWith_K0 (first:=[.ref a]) I1.kIn hm.kp (Xp (us:=[.ref a]) (vs:=[.ref a]) F hr hb hd hx I1 (.cons rfl .nil) q)
structure Mk (K:z08) (C f:Addr):Prop where
 makes:z6g K C=true
 init:z18 K (.ref C) "__init__"=some (some (.ref f))
 fn:z3K K (.ref f)=true
 kp:z1L K (.ref C)=true
theorem d8 {σ:St}{H:Hp}{Q:VK}{vs:List V}(M:Mk X.K C f) (F:FnOk X.prog X.w X.K X.mg X.base CX k f fd ps sp) (hr:Room (k+1) X.A) (hb:Binds X.K fd ps ds) (hd:Vals dvs ds)
  (hx:Mw CX X E) (I:Inv X π σ H s) (r:Vals vs us)
  (h:∀ x dx,H x=none->H dx=none->dx≠x->sp (.ref x::(vs++dvs)) (upd (upd H dx (.own x)) x (.ins C dx [])) (λ v H2=>v=.non/\Q (.ref x) H2) E) :
  z02 .(0) X.A (call (.ref C) us) (EP X π σ Q) X.xe s:=by
 have hq:=h .(7) s.heap.objs.size (I.hok.fresh (z1O _)) (I.hok.fresh (z06 _)) (z0j (z4f _));have I2:=Inv.made (C:=C) I;have r2:Vals (V.ref .(7)::(vs++dvs)) (z0b .(7)::(us++ds)):=.cons rfl (r.append hd);have hl:(z0b .(7)::us++ds).length=ps.length:=by
  have e:=r2.length;rw[F.len _ _ _ _ hq] at e;exact e.symm
 refine z58 (dj (f:=f) I.kIn M.makes M.init (beq_iff_eq.mp M.fn) (z2K (F.run _ X.stack _ _ ⟨z0b .(7)::us,[]⟩ (z0b .(7)::(us++ds)) _ _ E (hr.make C us [])
  (I2.env0.make C us []) (hb _ (z0b .(7)::us) I2.kIn hl) r2 hq) λ r s' hq'=>?_))
 cases r with
 | error e=>exact hx π σ _ _ e s' I2 hq'
 | ok fl=>
  cases fl with
  | ret u=>
   obtain⟨v,H',I3,rv,ev,q3⟩:=I2.after hq';subst ev;exact⟨rv,⟨V.ref .(7),H',I3,rfl,q3⟩⟩
  | next=>exact z1n hq'
  | brk=>exact z1n hq'
  | cont=>exact z1n hq'
theorem my (M:Mk X.K C f) (F:FnOk X.prog X.w X.K X.mg X.base CX k f fd ps sp) (hr:Room (k+1) X.A) (hg:Gl X x) (hm:X.mg x=some (.ref C)) (hb:Binds X.K fd ps ds) (hd:Vals dvs ds) (hx:Mw CX X E)
  (ha:PA X (e::es) t) (hdb:.(3)=false:=by decide) (he:z09 (e::es) X.env=(false,eval e X.env)::z09 es X.env:=by rfl) (hpl:.(37).any (·.1)=false:=by rfl) :
  PE X (.Call (.Name x p) (e::es) [] pos) (xG C sp dvs E t):=by
 intro π s σ H Q I h;refine z3N (Uj I hg hm ?_ hdb);refine z59 (h₀:=X.base) I.ok.mod.kin M.kp (thn (ha pos π s σ H _ I h) λ us s1 ⟨vs,H1,I1,r,q⟩=>⟨I1.kIn,?_⟩) he hpl;exact d8 M F hr hb hd hx I1 r q
end
def PK (X:Cx) (kws:List z3O) (t:TA):Prop:=
 ∀ (pos:Pos) (π:zP) (s:z03) (σ:St) (H:Hp) (Q:List V->Hp->Prop),Inv X π σ H s->t σ H Q->z02 .(0) X.A (evalAll ((z1D pos (z1p kws X.env)).map (·.2))) (AP X π σ Q) X.xe s
section
variable {X:Cx}{CX:CXT}{k:Nat}{f:Addr}{ks:List Str}{sp:Sp}{E:XK}{p kpos:Pos}{o:Expr}{es:List Expr}{kws:List z3O}{te ta:TE}{t tk:TA}{nm:Option Str}
theorem d9:PK X [] tNil:=λ _ _ _ _ H Q I h=>wpAny_evalAll_nil ⟨[],H,I,.nil,h⟩
theorem Y6 (ha:PE X e te) (hr:PK X kws t):PK X (⟨nm,e,kpos⟩::kws) (V6 te t):=by
 intro pos π s σ H Q I h;show z02 _ _ (evalAll ((do let v <-eval e X.env;z1X pos;pure v)::(z1D pos (z1p kws X.env)).map (·.2))) _ _ s;refine wpAny_evalAll_cons (z01 (thn (ha π s σ H _ I h) λ u s1 ⟨x,H1,I1,r1,q1⟩=>z01 (z6m (z05 ?_))));exact thn (hr pos π s1 σ H1 _ I1 q1) λ us s2 ⟨xs,H2,I2,r2,q2⟩=>⟨x::xs,H2,I2,.cons r1 r2,q2⟩
variable {g:List z00->List z00->List z00}{gV:List V->List V->List V}
end
structure FnScope (N P:List Str) (sc:z26):Prop where
 kind:sc.kind=.function
 co:sc.isCoroutine=false
 gen:sc.isGenerator=false
 nd:N.Nodup
 pre:N.take P.length=P
 par:∀ x∈P,sc.names.lookup x=some .local ∨sc.names.lookup x=some .cell
 nofree:∀ y∈sc.names,y.2≠.free
theorem Tj {kindOf:Str->Option z2b}{x:Str}:∀ {binds:List (Str×z00)}{m:Str->Option z00},(∀ v,(x,v)∉binds)->z2L kindOf binds m x=m x
 | [],_,_=>rfl
 | (n,v)::r,m,h=>by
  unfold z2L;rw[Tj λ w hw=>h w (z0y _ hw)];split
  ·have:x≠n:=by rintro rfl;exact h v z0O
   simp[this]
  ·rfl
theorem Tn {kindOf:Str->Option z2b}{x:Str}:∀ {binds:List (Str×z00)}{m:Str->Option z00},(∀ v,(x,v)∉binds)->z2M kindOf binds m x=m x
 | [],_,_=>rfl
 | (n,v)::r,m,h=>by
  unfold z2M;rw[Tn λ w hw=>h w (z0y _ hw)];split
  ·rfl
  ·have:x≠n:=by rintro rfl;exact h v z0O
   simp[this]
theorem Tp {kindOf:Str->Option z2b}{x:Str}{v:z00}:∀ {P:List Str}{vs:List z00}{i:Nat}{m:Str->Option z00},P.Nodup->P[i]?=some x->vs[i]?=some v->kindOf x=some .local ->
  z2L kindOf (P.zip vs) m x=some v
 | [],_,_,_,_,h,_,_=>by simp at h
 | _::_,[],_,_,_,_,h,_=>by simp at h
 | p::P,w::vs,0,m,nd,h1,h2,hk=>by
  simp at h1 h2;subst h1;subst h2;show z2L kindOf ((p,w)::P.zip vs) m p=_;unfold z2L;rw[Tj λ v hv=>(z2m.mp nd).1 (z6n hv).1,if_pos hk];simp
 | p::P,w::vs,i+1,m,nd,h1,h2,hk=>by
  show z2L kindOf ((p,w)::P.zip vs) m x=_;unfold z2L;exact Tp (i:=i) (z2m.mp nd).2 (by simpa using h1) (by simpa using h2) hk
theorem Tq {kindOf:Str->Option z2b}{x:Str}{v:z00}:∀ {P:List Str}{vs:List z00}{i:Nat}{m:Str->Option z00},P.Nodup->P[i]?=some x->vs[i]?=some v->kindOf x≠some .local ->
  z2M kindOf (P.zip vs) m x=some v
 | [],_,_,_,_,h,_,_=>by simp at h
 | _::_,[],_,_,_,_,h,_=>by simp at h
 | p::P,w::vs,0,m,nd,h1,h2,hk=>by
  simp at h1 h2;subst h1;subst h2;show z2M kindOf ((p,w)::P.zip vs) m p=_;unfold z2M;rw[Tn λ v hv=>(z2m.mp nd).1 (z6n hv).1,if_neg hk];simp
 | p::P,w::vs,i+1,m,nd,h1,h2,hk=>by
  show z2M kindOf ((p,w)::P.zip vs) m x=_;unfold z2M;exact Tq (i:=i) (z2m.mp nd).2 (by simpa using h1) (by simpa using h2) hk
def start (N:List Str) (vs:List V):St:=vs.map some++z4i (N.length-vs.length) none
def cxOf (CX:CXT) (P:z0s) (w:z0k) (K:z08) (mg:Str->Option z00) (base:Heap) (N:List Str) (qual:Str) (scope:z26) (f:Addr) (cd:z00) (A:z0a) (outer:List Env) (s:z03) (H:Hp) (E:XK):Cx where
 prog:=P
 w:=w
 K:=K
 mg:=mg
 base:=base
 A:=A.deeper (z1E qual scope s.heap.objs.size f cd)
 N:=N
 s₀:=s
 H₀:=H
 env:=z1E qual scope s.heap.objs.size f cd
 outer:=outer
 stack:=z1E qual scope s.heap.objs.size f cd::outer
 ex:=[]
 calm:=true
 fn:=λ _=>true
 pn:=[]
 xe:=λ e s'=>z02 (z04 P w) (A.deeper (z1E qual scope s.heap.objs.size f cd)) (leaving (z1E qual scope s.heap.objs.size f cd) e) (λ _ s''=>CX outer H s E e s'') (λ e' s''=>CX outer H s E e' s'') s'
theorem V7 (h:sc.names.lookup x=some .cell):∃ c,(cellsFrom n sc.names []).lookup x=some c:=by
 have q:=z8a sc.names n [] (.inl h);exact z6o.mp q
theorem bN {CX:CXT}{K:z08}{base:Heap}{f:Addr}{cd:z00}{A:z0a}{outer:List Env}{s1:z03}{H:Hp}{E:XK}{vs:List V}(S:FnScope N ps scope) (hd:A.handled=none) (e0:Env0 P w K mg base A outer s H) (hl:vs.length=ps.length) (r:Vals vs us)
  (x:InCallC s s.heap.objs.size (z2L (z1E qual scope s.heap.objs.size f cd).kindOf (ps.zip us) λ _=>none) (cellsFrom .(7) scope.names []) (z2M (z1E qual scope s.heap.objs.size f cd).kindOf (ps.zip us) λ _=>none) s1) :
  Inv (cxOf CX P w K mg base N qual scope f cd A outer s H E) [] (start N vs) H s1:=by
 have hpl:ps.length<=N.length:=by have:=congrArg z0P S.pre;rw[z1i] at this;omega
 obtain⟨h1,tk,rfl,hk⟩:=x.done;have noA:∀ b:Addr,b∉(cxOf CX P w K mg base N qual scope f cd A outer s H E).ex:=λ b z=>absurd (show b∈([]:List Addr) from z) (by simp);refine⟨⟨e0.mod,S.kind,rfl,rfl,z06 _,λ y z c h1 h2=>?_,λ y hy=>?_,λ y c _ h=>?_,λ _=>hd,Around.frames_deeper e0.frames,.inr ⟨rfl,rfl⟩,λ b z=>absurd z (noA b),e0.bs,e0.bsz,λ b _ _=>noA b,λ b z=>absurd z (noA b),e0.funs,e0.frf⟩,
  rfl,e0.bare,Un.kept hk,⟨_,x.toInCall.ns,λ i y v h1 h2 h3=>?_⟩,λ y c h=>⟨_,x.cell y c h⟩,e0.hok.fresh (z06 _),λ y c h=>?_,λ p hp=>absurd (show p∈([]:zP) from hp) (by simp),e0.hok.kept hk,?_⟩
 ·exact name_of_addr x.apart (z4j h1) (z4j h2)
 ·have hy:scope.names.lookup y=some .cell ∨scope.names.lookup y=some .free :=hy
  rcases hy with hy | hy
  ·exact V7 hy
  ·exact absurd rfl (S.nofree _ (z4j hy))
 ·exact z3E (x.above y c (z4j h))
 ·have hi:i<vs.length:=by
   unfold start at h2
   by_cases hi:i<vs.length
   ·exact hi
   ·rw[z1Y (by simpa using hi)] at h2;rw[z6p] at h2;split at h2<;>cases h2
  have ha:vs[i]?=some v:=by
   unfold start at h2;rw[z2c (by simpa using hi),z0q] at h2;cases e:vs[i]? with
   | none=>rw[e] at h2;cases h2
   | some a=>rw[e] at h2;cases h2;rfl
  obtain⟨u,hu,rv⟩:=r.get ha;have hp:ps[i]?=some y:=by
   rw[<-S.pre,z6q (by omega)];exact h1
  have ndP:ps.Nodup:=by rw[<-S.pre];exact S.nd.sublist (z6r _ _)
  refine⟨u,rv,?_⟩
  rcases S.par y (z3d hp) with k | k
  ·exact .inl ⟨k,Tp ndP hp hu k⟩
  ·obtain⟨c,e⟩:=V7 (n:=s.heap.objs.size+1) k;refine .inr ⟨.inl k,c,e,?_⟩;have q:=x.cell y c e;rw[Tq ndP hp hu (by show scope.names.lookup y≠_;rw[k];decide)] at q;exact q
 ·exact e0.hok.fresh (z3E (x.above y c (z4j h)))
 ·unfold start;show _=N.length;rw[z0L,z07,z4k];omega
theorem rG {CX:CXT}{K:z08}{base:Heap}{k:Nat}{f:Addr}{name:Str}{params:Arguments}{dV kV:z00}{sp:Sp}(lk:K.lookup f=some ⟨oc,od,.func (z1y name qual params body scope dV kV doc pm an cdv ct),osl⟩) (hcd:z2N K cdv qual=true) (S:FnScope N ps scope)
  (len:∀ vs H Q E,sp vs H Q E->vs.length=ps.length)
  (hbody:∀ (A:z0a) (outer:List Env) (s:z03) (H:Hp) (vs:List V) (Q:VK) (E:XK),Room k (A.deeper (z1E qual scope s.heap.objs.size f cdv))->sp vs H Q E ->
   ∃ t,PSs (cxOf CX P w K mg base N qual scope f cdv A outer s H E) body t/\t { nx:=λ _ H'=>Q .non H',rt:=Q } (start N vs) H) :
  FnOk P w K mg base CX (k+1) f (z1y name qual params body scope dV kV doc pm an cdv ct) ps sp:=by
 refine⟨len,λ A outer s H args us vs Q E hr e0 hb r hsp=>?_⟩;have hl:=len _ _ _ _ hsp;have KX:K.In s.heap:=e0.mod.kin.keeps λ b o e=>(e0.bs b o e).1;have lim:s.heap.NoLimit:=e0.mod.nolimit.keeps λ b o e=>(e0.bs b o e).1;have hkind:∀ y∈ps.zip us,scope.names.lookup y.1=some .local ∨(scope.names.lookup y.1=some .cell /\((cellsFrom .(7) scope.names []).lookup y.1).isSome=true):=λ ⟨n,v⟩ hy=>by
  rcases S.par n (z6n hy).1 with q | q
  ·exact .inl q
  ·exact .inr ⟨q,z8a _ _ _ (.inl q)⟩
 refine codeAny_call_function hr.depth (KX _ _ lk) rfl S.co S.gen rfl (PySem.W.codeRec_of KX hcd) (hb _ _ _ _ ?_);refine wpAny_newFunctionEnv_cells S.kind hkind λ env he s1 x=>?_;subst he;refine⟨lim.keeps x.toInCall.keep,codeAny_func ?_⟩;obtain⟨t,ht,hq⟩:=hbody A outer s H vs Q E (hr.deeper _) hsp;have I:Inv (cxOf CX P w K mg base N qual scope f cdv A outer s H E) [] (start N vs) H s1:=bN S hr.hd e0 hl r x;refine z1s (ht [] s1 (start N vs) H _ I hq) (λ fl s' hs=>?_) λ e s' hs=>hs;have fin:∀ {σ':St}{H':Hp}{v:V}{u:z00},Inv (cxOf CX P w K mg base N qual scope f cdv A outer s H E) [] σ' H' s'->RelV v u->Q v H'->CE outer P w H s Q u s':=
  λ {σ' H' v u} J rv q=>⟨v,H',J.os,J.bare,J.base,J.hok,rv,q⟩
 cases fl with
 | ret u=>
  obtain⟨v,σ',H',J,rv,q⟩:=hs;exact fin J rv q
 | next=>
  obtain⟨σ',H',J,q⟩:=hs;exact fin (v:=V.non) (u:=z15) J rfl q
 | brk=>
  obtain⟨_,_,_,q⟩:=hs;exact z1n q
 | cont=>
  obtain⟨_,_,_,q⟩:=hs;exact z1n q
end L2
variable {xs ys:List L2.V}{H H' H1 F2 F1 He:L2.Hp}{v y:L2.V}{X:L2.Cx}{σ:L2.St}{tc:L2.TT}{te:L2.TE}{CX:L2.CXT}{r:List L2.V->L2.Hp->L2.VK->Prop}{kvs:List (List L2.Key×L2.V)}{ks:List (List L2.Key)}{F:List (List L2.Key)->Int}
namespace L2
open PySem PySem.Spec PyProof.Rows
section
variable {p:Pos}{es:List Expr}{t:TA}{id T:String}
def tCB (r:List V->Hp->VK->Prop) (t:TA):TE:=λ σ H Q=>t σ H λ vs H1=>r vs H1 Q
theorem Ku (hc:Dd X (.builtin id) r) (hg:Gl X x) (hm:X.mg x=none) (hv:z0x x=some (.builtin id)) (ha:PA X (e::es) t) (hn:x≠"__name__":=by decide) (hdb:.(3)=false:=by decide)
  (he:z09 (e::es) X.env=(false,eval e X.env)::z09 es X.env:=by rfl) (hpl:.(37).any (·.1)=false:=by rfl):PE X (.Call (.Name x p) (e::es) [] pos) (tCB r t):=by
 intro π s σ H Q I h;refine z3N (Kr I hg hm hv ?_ hn hdb);exact PyProof.Rows.callWith_builtin1 (thn (ha pos π s σ H _ I h) λ us s1 ⟨vs,H1,I1,r1,q1⟩=>hc π s1 σ H1 vs us Q I1 r1 q1) he hpl
theorem Gp (hc:Dd X (.type T) r) (hg:Gl X x) (hm:X.mg x=none) (hv:z0x x=some (.type T)) (ha:PA X (e::es) t) (hn:x≠"__name__":=by decide) (hdb:.(3)=false:=by decide)
  (he:z09 (e::es) X.env=(false,eval e X.env)::z09 es X.env:=by rfl) (hpl:.(37).any (·.1)=false:=by rfl):PE X (.Call (.Name x p) (e::es) [] pos) (tCB r t):=by
 intro π s σ H Q I h;refine z3N (Kr I hg hm hv ?_ hn hdb);exact z54 (thn (ha pos π s σ H _ I h) λ us s1 ⟨vs,H1,I1,r1,q1⟩=>hc π s1 σ H1 vs us Q I1 r1 q1) he hpl
end
end L2
namespace HT
open PySem PyProof.Rows
section
open PySem.SeqAt
open PySem.AutoSeq1 (wpAny_loadPart')
open PySem.MeetsSeq PySem.MeetsSeq2 PySem.MeetsSeq3
end
section
variable {A:z0a}
theorem mz {t:Addr}{ws:List z00}(ht:IsTup s.heap t vs.toArray) (hb:IsTup s.heap b ws.toArray) (hv:vs≠[])
  (h1:ws=[]->Q (.ref t) s) (h2:ws≠[]->Q .(6) { s with heap:=s.heap.push { cls:=.type "tuple",data:=.seq (vs++ws).toArray } })
  (hsz:vs.length+ws.length<=sizeLine):z02 (z04 prog w) A (z1t .Add (.ref t) (.ref b)) Q E s:=by
 obtain⟨⟨cls,dd,data,sl⟩,ho,hc,n,hd⟩:=id ht;obtain⟨⟨cls2,dd2,data2,sl2⟩,ho2,hc2,n2,hd2⟩:=id hb;simp only at hc hd hc2 hd2;subst hc hd hc2 hd2;have e:vs.toArray++ws.toArray=(vs++ws).toArray:=by simp
 by_cases hw:ws=[]
 ·exact z5a ⟨_,ho,rfl⟩ ⟨_,ho2,rfl⟩ z6s z6t z6u z6v (z6w _ _)
   (tuple_addW1 t b vs.toArray ws.toArray n n2 dd dd2 sl sl2 (by simpa using hv) (by simp[hw])) ⟨ho,ho2,h1 hw⟩
 ·refine z5a ⟨_,ho,rfl⟩ ⟨_,ho2,rfl⟩ z6s z6t z6u z6v (z6w _ _)
   (tuple_addW2 t b vs.toArray ws.toArray n n2 dd dd2 sl sl2 (by simpa using hv) (by simpa using hw) (by rw[z0t,z0t];exact hsz)) ⟨ho,ho2,?_⟩
  rw[e];exact h2 hw
def sIx (n d:Nat):Option Int->Nat
 | none=>d
 | some v=>if v<0 then (v+(n:Int)).toNat else min v.toNat n
theorem m5 (n d k:Nat):sIx n d (some (k:Int))=min k n:=by
 show (if (k:Int)<0 then ((k:Int)+(n:Int)).toNat else min (k:Int).toNat n)=min k n;rw[if_neg (by omega),z1a]
theorem uc (n d:Nat) (hd:d<=n) (o:Option Int):sIx n d o<=n:=by
 cases o with
 | none=>exact hd
 | some v=>
  show (if v<0 then (v+(n:Int)).toNat else min v.toNat n)<=n
  by_cases hv:v<0
  ·rw[if_pos hv];omega
  ·rw[if_neg hv];exact Nat.min_le_right _ _
theorem Y7 (v:Int) (n d:Nat):(if v<0 then max (v+(n:Int)) 0 else min v (n:Int))=((sIx n d (some v):Nat):Int):=by
 show (if v<0 then max (v+(n:Int)) 0 else min v (n:Int))=(((if v<0 then (v+(n:Int)).toNat else min v.toNat n):Nat):Int)
 by_cases hv:v<0
 ·simp only[if_pos hv];omega
 ·simp only[if_neg hv];omega
theorem Xq (lo hi:Option Int) (n:Nat):z6x lo hi 1 (n:Int)=(((sIx n 0 lo:Nat):Int),((sIx n n hi:Nat):Int)):=by
 have h1:¬ ((1:Int)<0):=by omega
 unfold z6x;simp only[h1,if_false];refine z3e ?_ ?_
 ·cases lo with
  | none=>rfl
  | some v=>exact Y7 v n 0
 ·cases hi with
  | none=>rfl
  | some v=>exact Y7 v n n
theorem Xr (i j:Nat):z5b (i:Int) (j:Int) 1=j-i:=by
 unfold z5b;have h1:(1:Int) > 0:=by omega
 simp only[h1,if_true,z8b];split<;>omega
theorem RV {v:z00}{o:Option Int}{Q:Option Int->z03->Prop}(p:z2O v o) (h:Q o s):z02 (z04 prog w) A (Builtin.Slice.slicePartIndex v) Q E s:=by
 cases p with
 | none=>exact slicePart_none h
 | int i t=>exact slicePart_int h
theorem PB {sl:Addr}{vl vu:z00}{lo hi:Option Int}{Q:Int×Int×Nat->z03->Prop}(hs:s.heap.IsSliceOf sl vl vu .none) (pl:z2O vl lo) (pu:z2O vu hi)
  (h:Q (((sIx n 0 lo:Nat):Int),1,sIx n n hi-sIx n 0 lo) s):z02 (z04 prog w) A (z8c (.ref sl) (pure (n:Int))) Q E s:=by
 obtain⟨os,hos,hcs,hds⟩:=id hs;unfold z8c Builtin.Slice.sliceFields;refine z01 (z01 (z1P hos hds (x:=vl) rfl (z01 (z1P hos hds (x:=vu) rfl (z01 (z1P hos hds (x:=.none) rfl (z05 ?_)))))));refine z01 (slicePart_none ?_);show z02 _ _ (if ((1:Int)==0)=true then _ else _) _ _ s;rw[if_neg (by decide)];refine z01 (RV pl (z01 (RV pu (z01 (z05 ?_)))));show z02 _ _ (match z6x lo hi 1 (n:Int) with | (lo,hi)=>pure (lo,(1:Int),z5b lo hi 1)) _ _ s;rw[Xq lo hi n];show z02 _ _ (pure (((sIx n 0 lo:Nat):Int),(1:Int),z5b ((sIx n 0 lo:Nat):Int) ((sIx n n hi:Nat):Int) 1)) _ _ s;rw[Xr];exact z05 h
theorem d_ (xs:Array z00) (i k:Nat):((z0d k).filterMap λ (m:Nat)=>xs[((i:Int)+(m:Int)*1).toNat]?).toArray=((xs.toList.drop i).take k).toArray:=by
 have e:(λ (m:Nat)=>xs[((i:Int)+(m:Int)*1).toNat]?)=λ m=>xs[i+m]?:=by
  funext m;have:((i:Int)+(m:Int)*1).toNat=i+m:=by omega
  rw[this]
 rw[e];have:=pick_run xs i k;rw[z6y] at this;have e2:((λ x=>xs[x]?) ∘ λ x=>i+x)=λ m=>xs[i+m]?:=rfl;rw[e2] at this;rw[this]
theorem Ni {t sl:Addr}{items:Array z00}{vl vu:z00}{lo hi:Option Int}(ht:IsTup s.heap t items) (hs:s.heap.IsSliceOf sl vl vu .none) (pl:z2O vl lo) (pu:z2O vu hi)
  (hw:¬ (sIx items.size 0 lo=0/\sIx items.size items.size hi=items.size))
  (h:Q .(6) { s with heap:=s.heap.push { cls:=.type "tuple",data:=.seq ((items.toList.drop (sIx items.size 0 lo)).take (sIx items.size items.size hi-sIx items.size 0 lo)).toArray } })
  (hsz:items.size<=sizeLine):z02 (z04 prog w) A (z2w (.ref t) (.ref sl)) Q E s:=by
 have htake:sizeOk (.seq ((items.toList.drop (sIx items.size 0 lo)).take (sIx items.size items.size hi-sIx items.size 0 lo)).toArray):=by
  show ((items.toList.drop (sIx items.size 0 lo)).take (sIx items.size items.size hi-sIx items.size 0 lo)).toArray.size<=sizeLine;rw[z0t,z1i,z2P,z0Y];omega
 have hj:sIx items.size items.size hi<=items.size:=uc _ _ (z06 _) hi;obtain⟨os,hos,hcs,hds⟩:=id hs;have hTs:s.TypeIs (.ref sl) "slice":=⟨os,hos,hcs⟩;unfold z2w
 try with_reducible refine wpAny_holding ?_
 first | refine z01 (z05 ?_) | skip
 refine z01 (wpAny_sequenceKey ht.typeIs (by decide) ?_);refine z01 (z2x (name:=z0E "__getitem__") ht.typeIs z6z
  (z1k z6z ht.typeIs entry_tuple_getitem ?_ (args_tuple_getitem _ _)))
 show z02 _ _ (z7N (.ref t) >>= _) _ _ s;refine z01 (tupleItemsOf_ ht ?_);refine z01 (z4l hTs ?_);rw[if_pos (by decide)];refine z01 (PB hs pl pu ?_);have hno:¬ ((((sIx items.size 0 lo:Nat):Int)==0&&(1:Int)==1&&(sIx items.size items.size hi-sIx items.size 0 lo)==items.size)=true):=by
  intro q;rw[z0Q,z0Q] at q;have q1:((sIx items.size 0 lo:Nat):Int)=0:=eq_of_beq q.1.1;have q2:sIx items.size items.size hi-sIx items.size 0 lo=items.size:=eq_of_beq q.2;exact hw ⟨by omega,by omega⟩
 show z02 _ _ (if (((sIx items.size 0 lo:Nat):Int)==0&&(1:Int)==1&&(sIx items.size items.size hi-sIx items.size 0 lo)==items.size)=true then _ else _) _ _ s;rw[if_neg hno,d_]
 first
  | exact z01 (m:=z5c _) (z1Q (z05 ⟨_,rfl,z05 h⟩) htake)
  | exact z01 (m:=z5c _) (z1Q (z01 (z05 (z05 ⟨_,rfl,z05 h⟩))) htake)
  | exact z01 (z01 (m:=z5c _) (z1Q (z05 (z05 ⟨_,rfl,z05 h⟩)) htake))
  | exact z01 (z01 (m:=z5c _) (z1Q (z05 ⟨_,rfl,z05 h⟩) htake))
end
end HT
namespace L2
open PySem PySem.Spec PyProof.Rows
abbrev TO:=St->Hp->(Option Int->Hp->Prop)->Prop
def PO (X:Cx) (e:Option Expr) (t:TO):Prop:=
 ∀ (π:zP) (s:z03) (σ:St) (H:Hp) (Q:Option Int->Hp->Prop),Inv X π σ H s->t σ H Q ->
  z02 .(0) X.A (evalPart e X.env) (λ u s'=>∃ o H',Inv X π σ H' s'/\z2O u o/\Q o H') X.xe s
def m6:TO:=λ _ H Q=>Q none H
def xH (t:TE):TO:=λ σ H Q=>t σ H λ x H1=>∃ i,x=.int i/\Q (some i) H1
section
variable {lo hi:Option Expr}{tl th:TO}
theorem m8:PO X none m6:=by
 intro π s σ H Q I h;rw[evalPart_none];exact z05 ⟨none,H,I,.none,h⟩
theorem m9 (h:PE X e te):PO X (some e) (xH te):=by
 intro π s σ H Q I hw;rw[evalPart_some];refine thn (h π s σ H _ I hw) λ u s1 ⟨x,H1,I1,r1,q1⟩=>?_;obtain⟨i,rfl,q⟩:=q1;obtain⟨t,rfl⟩:=r1;exact⟨some i,H1,I1,.int i t,q⟩
def SlR (X:Cx) (r:V->Option Int->Option Int->Hp->VK->Prop):Prop:=
 ∀ (π:zP) (s:z03) (σ:St) (H:Hp) (x:V) (v vl vu:z00) (lo hi:Option Int) (sl:Addr) (Q:VK),Inv X π σ H s->RelV x v->s.heap.IsSliceOf sl vl vu .none->z2O vl lo->z2O vu hi->r x lo hi H Q ->
  ∃ T id,z6A (.type T) "__getitem__"=pure (some (.builtin id))/\s.TypeIs v T/\z02 .(0) X.A (z2w v (.ref sl)) (EP X π σ Q) X.xe s
theorem SlR.or {r r':V->Option Int->Option Int->Hp->VK->Prop}(h:SlR X r) (h':SlR X r'):SlR X (λ x lo hi H Q=>r x lo hi H Q∨r' x lo hi H Q):=by
 intro π s σ H x v vl vu lo hi sl Q I rx hs pl pu q
 rcases q with q | q
 ·exact h π s σ H x v vl vu lo hi sl Q I rx hs pl pu q
 ·exact h' π s σ H x v vl vu lo hi sl Q I rx hs pl pu q
def tSl (r:V->Option Int->Option Int->Hp->VK->Prop) (te:TE) (tl th:TO):TE:=λ σ H Q=>te σ H λ x H1=>tl σ H1 λ l H2=>th σ H2 λ u H3=>r x l u H3 Q
theorem eE {r:V->Option Int->Option Int->Hp->VK->Prop}(hr:SlR X r) (he:PE X e te) (hl:PO X lo tl) (hu:PO X hi th):PE X (.Subscript e (.Slice lo hi none p2) pos) (tSl r te tl th):=by
 intro π s σ H Q I h;refine z6B (thn (he π s σ H _ I h) λ v s1 ⟨x,H1,I1,r1,q1⟩=>?_);refine wpAny_Slice (thn (hl π s1 σ H1 _ I1 q1) λ vl s2 ⟨l,H2,I2,pl,q2⟩=>thn (hu π s2 σ H2 _ I2 q2) λ vu s3 ⟨u,H3,I3,pu,q3⟩=>?_);rw[evalPart_none];refine z05 ?_;have I4:Inv X π σ H3 { s3 with heap:=s3.heap.push { cls:=.type "slice",data:=.fields #[vl,vu,.none] } }:=I3.kept (t':=s3.toks) λ b ob q=>z0e _ q;obtain⟨T,id,hT,ht,hg⟩:=hr π { s3 with heap:=s3.heap.push { cls:=.type "slice",data:=.fields #[vl,vu,.none] } } σ H3 x v vl vu l u s3.heap.objs.size Q I4 r1 (Heap.IsSliceOf.new ..) pl pu q3;show z02 .(0) X.A (z5d e (.Slice lo hi none p2) v (.ref s3.heap.objs.size)) (EP X π σ Q) X.xe { s3 with heap:=s3.heap.push { cls:=.type "slice",data:=.fields #[vl,vu,.none] } };exact tail_any (ops:=[.ref s3.heap.objs.size,v]) ht hT hg (by with_unfolding_all rfl)
def cutV (xs:List V) (lo hi:Option Int):List V:=(xs.drop (HT.sIx xs.length 0 lo)).take (HT.sIx xs.length xs.length hi-HT.sIx xs.length 0 lo)
theorem Qc (xs:List V) (lo hi:Option Int):(cutV xs lo hi).length<=xs.length:=by
 unfold cutV;rw[z1i,z2P];omega
def rSlT (K:z08):V->Option Int->Option Int->Hp->VK->Prop:=λ x lo hi H Q=>∃ a xs,x=.ref a/\SqT K H a xs ∧
 ¬ (HT.sIx xs.length 0 lo=0/\HT.sIx xs.length xs.length hi=xs.length)/\∀ p,H p=none->Q (.ref p) (upd H p (.tup (cutV xs lo hi)))
theorem ud:SlR X (rSlT X.K):=by
 intro π s σ H x v vl vu lo hi sl Q I rx hs pl pu h;obtain⟨a,xs,rfl,hx,hw,q⟩:=h;cases rx;obtain⟨its,r,ht,hz⟩:=I.tuple hx;have hlen:its.toArray.size=xs.length:=by rw[z0t];exact r.length.symm
 refine⟨"tuple",_,z6z.lookup,ht.typeIs,?_⟩;refine HT.Ni ht hs pl pu (by rw[hlen];exact hw) ?_ (by rw[hlen];exact hz);rw[hlen];refine⟨.ref s.heap.objs.size,_,I.laid (t':=s.toks) (o:=.tup (cutV xs lo hi)) (λ b ob q=>z0e _ q) (z06 _) ?_,rfl,q _ (I.hok.fresh (z06 _))⟩;exact⟨z0A (Qc xs lo hi) hz,_,(r.drop (HT.sIx xs.length 0 lo)).take (HT.sIx xs.length xs.length hi-HT.sIx xs.length 0 lo),z6C _ _⟩
theorem Vals.nil_iff (r:Vals xs us):us=[]↔xs=[]:=by
 cases r with
 | nil=>simp
 | cons _ _=>simp
end
def ixN (n:Nat) (i:Int):Option Nat:=if 0<=i then (if i<n then some i.toNat else none) else if -(n:Int)<=i then some (i+n).toNat else none
def atI {α:Type}(xs:List α) (i:Int):Option α:=(ixN xs.length i).bind λ j=>xs[j]?
theorem m_ {i:Int}(h:ixN n i=some j):seqIndex? i n=some j/\j<n/\-(n:Int)<=i/\i<n:=by
 unfold ixN at h
 by_cases h0:0<=i
 ·rw[if_pos h0] at h
  by_cases h1:i<n
  ·rw[if_pos h1] at h;have e:i.toNat=j:=z0w h;exact⟨by rw[seqIndex_of h0 h1,e],by omega,by omega,h1⟩
  ·rw[if_neg h1] at h;cases h
 ·rw[if_neg h0] at h
  by_cases h1 : -(n:Int)<=i
  ·rw[if_pos h1] at h;have e:(i+n).toNat=j:=z0w h;exact⟨by rw[seqIndex_neg (by omega) h1,e],by omega,h1,by omega⟩
  ·rw[if_neg h1] at h;cases h
theorem Uo {α:Type}{xs:List α}{i:Int}{v:α}(h:atI xs i=some v):∃ j,seqIndex? i xs.length=some j/\xs[j]?=some v/\j<xs.length/\-(xs.length:Int)<=i/\i<xs.length:=by
 unfold atI at h;cases e:ixN xs.length i with
 | none=>rw[e] at h;cases h
 | some j=>
  rw[e] at h;obtain⟨h1,h2,h3,h4⟩:=m_ e;exact⟨j,h1,h,h2,h3,h4⟩
def Nj (b:Expr):Prop:=∀ o i,z4m b false o i=operate [o,i] (z2w o i)
def IxR (X:Cx) (r:R2):Prop:=
 ∀ (value slice:Expr) (π:zP) (s:z03) (σ:St) (H:Hp) (x y:V) (v u:z00) (Q:VK),Inv X π σ H s->RelV x v->RelV y u->r x y H Q ->
  z4m slice false v u=operate [v,u] (z2w v u)->z02 .(0) X.A (z5d value slice v u) (EP X π σ Q) X.xe s
def MtR (X:Cx) (id:String) (r:V->List V->Hp->VK->Prop):Prop:=
 ∀ (π:zP) (s:z03) (σ:St) (H:Hp) (x:V) (xs:List V) (v:z00) (us:List z00) (Q:VK),Inv X π σ H s->RelV x v->Vals xs us->r x xs H Q ->
  z02 .(0) X.A (call (.builtin id) (v::us)) (EP X π σ Q) X.xe s
section
variable {a b:Expr}{ta tb:TE}
theorem IxR.or {r r':R2}(h:IxR X r) (h':IxR X r'):IxR X (λ x y H Q=>r x y H Q∨r' x y H Q):=by
 intro value slice π s σ H x y v u Q I rx ry q hs
 rcases q with q | q
 ·exact h value slice π s σ H x y v u Q I rx ry q hs
 ·exact h' value slice π s σ H x y v u Q I rx ry q hs
theorem rH {r:R2}(hr:IxR X r) (ha:PE X a ta) (hb:PE X b tb) (hs:Nj b):PE X (.Subscript a b pos) (tOp r ta tb):=by
 intro π s σ H Q I h;exact z6B (binT ha hb I h λ v u s2 x y H2 I2 rx ry q=>hr a b π s2 σ H2 x y v u Q I2 rx ry q (hs _ _))
def rIxL (K:z08):R2:=λ x y H Q=>∃ p xs i v,x=.ref p/\y=.int i/\SqL K H p xs/\atI xs i=some v/\Q v H
def rIxT (K:z08):R2:=λ x y H Q=>∃ p xs i v,x=.ref p/\y=.int i/\SqT K H p xs/\atI xs i=some v/\Q v H
def rIxS:R2:=λ x y H Q=>∃ z i c,x=.str z/\y=.int i/\z.length<=sizeLine/\atI z.cps.toList i=some c/\Q (.str ⟨#[c]⟩) H
theorem nC:IxR X (rIxL X.K):=by
 intro value slice π s σ H x y v u Q I rx ry h hs;obtain⟨p,xs,i,z,rfl,rfl,hq,he,q⟩:=h;cases rx;obtain⟨t,rfl⟩:=ry;obtain⟨its,r,pl,hz⟩:=I.list hq;obtain⟨j,h1,h2,h3,h4,h5⟩:=Uo he;obtain⟨w,ew,rw'⟩:=r.get h2;have hl:=r.length;have hn:=RT;have fin:EP X π σ Q w s:=⟨z,H,I,rw',q⟩
 by_cases h0:0<=i
 ·have hj:i.toNat=j:=by
   rw[seqIndex_of h0 h5] at h1;exact z0w h1
  exact item_listR pl.isList h0 (by omega) (by rw[hj];simpa using ew) fin hs
 ·have hj:(i+(its.toArray.size:Int)).toNat=j:=by
   rw[seqIndex_neg (by omega) h4] at h1;rw[z0t,<-hl];exact z0w h1
  exact z8d (x:=w) pl.isList.typeIs z8e.lookup
   (wpAny_getItem_list_neg (Q:=λ r s'=>r=w/\EP X π σ Q r s') pl.isList (by omega) (by rw[z0t]<;>omega) (by omega) (by rw[hj];simpa using ew) ⟨rfl,fin⟩) hs
theorem ue:IxR X (rIxT X.K):=by
 intro value slice π s σ H x y v u Q I rx ry h hs;obtain⟨p,xs,i,z,rfl,rfl,hq,he,q⟩:=h;cases rx;obtain⟨t,rfl⟩:=ry;obtain⟨its,r,pl,hz⟩:=I.tuple hq;obtain⟨j,h1,h2,h3,h4,h5⟩:=Uo he;obtain⟨w,ew,rw'⟩:=r.get h2;have hl:=r.length;have hn:=RT;have fin:EP X π σ Q w s:=⟨z,H,I,rw',q⟩;exact z8d (x:=w) pl.typeIs slot_tuple_getitem.lookup
  (getItem_tuple (j:=j) (Q:=λ r s'=>r=w/\EP X π σ Q r s') pl (by omega) (by omega) (by rw[z0t,<-hl];exact h1) (by simpa using ew) ⟨rfl,fin⟩) hs
theorem PJ:IxR X rIxS:=by
 intro value slice π s σ H x y v u Q I rx ry h hs;obtain⟨z,i,c,rfl,rfl,hz,he,q⟩:=h;obtain⟨t,rfl⟩:=rx;obtain⟨t',rfl⟩:=ry;obtain⟨j,h1,h2,h3,h4,h5⟩:=Uo he;have hl:z.cps.toList.length=z.length:=by simp[z6D]
 rw[hl] at h1 h4 h5;have hn:=RT;exact tail_any (z6E s z t) slot_str_getitem.lookup (getItem_str (c:=c) (by
  have e1:decide (i < -(2^63:Int))=false:=decide_eq_false (by omega);have e2:decide (i≥2^63)=false:=decide_eq_false (by omega);rw[e1,e2,Bool.or_false]) (by rw[h1];simpa using h2) ⟨.str ⟨#[c]⟩,H,I.tok _,⟨_,rfl⟩,q⟩) hs
def rIx (K:z08):R2:=λ x y H Q=>rIxL K x y H Q∨rIxT K x y H Q∨rIxS x y H Q
theorem eF:IxR X (rIx X.K):=nC.or (ue.or PJ)
theorem Uq (lo hi:Option Int) (n:Nat):(z3f lo hi none n).1=((HT.sIx n 0 lo:Nat):Int)/\(z3f lo hi none n).2.1=((HT.sIx n n hi:Nat):Int)/\(z3f lo hi none n).2.2=1:=by
 refine⟨?_,?_,rfl⟩
 ·cases lo with
  | none=>simp[z3f,HT.sIx]
  | some i=>
   simp only[z3f,HT.sIx,z8f,show (1:Int) > 0 by decide,if_true]
   by_cases h:i<0
   ·simp only[h,if_true]<;>omega
   ·simp only[h,if_false]<;>omega
 ·cases hi with
  | none=>simp[z3f,HT.sIx]
  | some i=>
   simp only[z3f,HT.sIx,z8f,show (1:Int) > 0 by decide,if_true]
   by_cases h:i<0
   ·simp only[h,if_true]<;>omega
   ·simp only[h,if_false]<;>omega
theorem TV (its:List z00) (lo hi:Option Int):slicePick its.toArray lo hi none=((its.drop (HT.sIx its.length 0 lo)).take (HT.sIx its.length its.length hi-HT.sIx its.length 0 lo)).toArray:=by
 obtain⟨h1,h2,h3⟩:=Uq lo hi its.toArray.size;unfold slicePick;rw[h1,h2,h3];simp only[sliceRange_one,pick_run,z0t]<;>rfl
def rSlL (K:z08):V->Option Int->Option Int->Hp->VK->Prop:=λ x lo hi H Q=>∃ a xs,x=.ref a/\SqL K H a xs/\∀ p,H p=none->Q (.ref p) (upd H p (.lst (cutV xs lo hi)))
theorem nD:SlR X (rSlL X.K):=by
 intro π s σ H x v vl vu lo hi sl Q I rx hs pl pu h;obtain⟨a,xs,rfl,hx,q⟩:=h;cases rx;obtain⟨its,r,ht,hz⟩:=I.list hx;have hlen:=r.length;refine⟨"list",_,z8e.lookup,ht.isList.typeIs,?_⟩;refine wpAny_getItem_list_slice ht.isList hs pl pu .none (by simp) ?_ (by rw[z0t]<;>omega);rw[TV,<-hlen];refine⟨.ref s.heap.objs.size,_,I.laid (t':=s.toks) (o:=.lst (cutV xs lo hi)) (λ b ob q=>z0e _ q) (z06 _) ?_,rfl,q _ (I.hok.fresh (z06 _))⟩;exact⟨z0A (Qc xs lo hi) hz,_,0,(r.drop (HT.sIx xs.length 0 lo)).take (HT.sIx xs.length xs.length hi-HT.sIx xs.length 0 lo),z0l _ rfl⟩
def KQ:V->Bool
 | .non=>true
 | .bl _=>true
 | .int _=>true
 | .str _=>true
 | _=>false
def eqV:V->V->Bool
 | .non,.non=>true
 | .bl a,.bl b=>a==b
 | .bl a,.int b=>(if a then 1 else 0)==b
 | .int a,.bl b=>a==(if b then 1 else 0)
 | .int a,.int b=>a==b
 | .str a,.str b=>a==b
 | _,_=>false
theorem eG {A:z0a}{x:V}{v:z00}(ry:RelV y u) (rx:RelV x v) (fy:KQ y=true) (fx:KQ x=true):z2n A s u v (eqV y x):=by
 cases y with
 | non=>
  cases ry;cases x with
  | non=>cases rx;exact z6F _
  | bl b=>cases rx;exact SeqAt.EqAt.none_bool b
  | int b=>obtain⟨t,rfl⟩:=rx;exact SeqAt.EqAt.none_int b t
  | str b=>obtain⟨t,rfl⟩:=rx;exact SeqAt.EqAt.none_str b t
  | _=>exact absurd (show false=true from fx) z0D
 | bl a=>
  cases ry;cases x with
  | non=>cases rx;exact SeqAt.EqAt.bool_none a
  | bl b=>cases rx;exact SeqAt.EqAt.bool_bool a b
  | int b=>obtain⟨t,rfl⟩:=rx;exact SeqAt.EqAt.bool_int a b t
  | str b=>obtain⟨t,rfl⟩:=rx;exact SeqAt.EqAt.bool_str a b t
  | _=>exact absurd (show false=true from fx) z0D
 | int a=>
  obtain⟨t',rfl⟩:=ry;cases x with
  | non=>cases rx;exact SeqAt.EqAt.int_none a t'
  | bl b=>cases rx;exact SeqAt.EqAt.int_bool a t' b
  | int b=>obtain⟨t,rfl⟩:=rx;exact SeqAt.EqAt.int_int a t' b t
  | str b=>obtain⟨t,rfl⟩:=rx;exact z7U a t' b t
  | _=>exact absurd (show false=true from fx) z0D
 | str a=>
  obtain⟨t',rfl⟩:=ry;cases x with
  | non=>cases rx;exact SeqAt.EqAt.str_none a t'
  | bl b=>cases rx;exact SeqAt.EqAt.str_bool a t' b
  | int b=>obtain⟨t,rfl⟩:=rx;exact z7V a t' b t
  | str b=>obtain⟨t,rfl⟩:=rx;exact SeqAt.EqAt.str_str a t' b t
  | _=>exact absurd (show false=true from fx) z0D
 | _=>exact absurd (show false=true from fy) z0D
def eqU (x:V) (u:z00):Bool:=match u with
 | .none=>eqV .non x
 | .bool b=>eqV (.bl b) x
 | .int i _=>eqV (.int i) x
 | .str z _=>eqV (.str z) x
 | _=>false
theorem eO {x:V}(r:RelV y u) (f:KQ y=true):eqU x u=eqV y x:=by
 cases y with
 | non=>cases r;rfl
 | bl b=>cases r;rfl
 | int i=>obtain⟨t,rfl⟩:=r;rfl
 | str z=>obtain⟨t,rfl⟩:=r;rfl
 | _=>exact absurd (show false=true from f) z0D
theorem Nk {x:V}:∀ {xs:List V}{us:List z00},Vals xs us->xs.all KQ=true->us.any (eqU x)=xs.any λ y=>eqV y x
 | _,_,.nil,_=>rfl
 | y::xs,u::us,.cons r t,f=>by
  rw[z4n,z0Q] at f;rw[z3g,z3g,eO r f.1,Nk t f.2]
theorem Kv {A:z0a}{s:z03}{x:V}{v:z00}(rx:RelV x v) (fx:KQ x=true):∀ {xs:List V}{us:List z00},Vals xs us->xs.all KQ=true->∀ u∈us,z2n A s u v (eqU x u)
 | _,_,.nil,_=>λ u hu=>by cases hu
 | y::xs,u::us,.cons r t,f=>λ u' hu=>by
  rw[z4n,z0Q] at f
  rcases z0i.mp hu with rfl | hu
  ·rw[eO r f.1];exact eG r rx f.1 fx
  ·exact Kv rx fx t f.2 u' hu
def inV (x:V) (xs:List V):Bool:=xs.any λ y=>eqV y x
def rIn (K:z08) (neg:Bool):R2:=λ x y H Q=>∃ p xs,y=.ref p/\(SqL K H p xs∨SqT K H p xs)/\KQ x=true/\xs.all KQ=true/\Q (.bl (if neg then !inV x xs else inV x xs)) H
theorem bO:OpR X (z0C .In) (rIn X.K false):=by
 intro π s σ H x y v u Q I rx ry h;obtain⟨p,xs,rfl,hq,fx,fs,q⟩:=h;cases ry
 rcases hq with hq | hq
 ·obtain⟨its,r,pl,hz⟩:=I.list hq;refine z8g (eqU x) pl.isList (λ w hw=>Kv rx fx r fs w (by simpa using hw)) ⟨.bl _,H,I,rfl,?_⟩;rw[show its.toArray.any (eqU x)=its.any (eqU x) by simp,Nk r fs];exact q
 ·obtain⟨its,r,pl,hz⟩:=I.tuple hq;refine SeqAt.in_tupleAt (eqU x) pl (λ w hw=>Kv rx fx r fs w (by simpa using hw)) ⟨.bl _,H,I,rfl,?_⟩;rw[show its.toArray.any (eqU x)=its.any (eqU x) by simp,Nk r fs];exact q
theorem Ur:OpR X (z0C .NotIn) (rIn X.K true):=by
 intro π s σ H x y v u Q I rx ry h;obtain⟨p,xs,rfl,hq,fx,fs,q⟩:=h;cases ry
 rcases hq with hq | hq
 ·obtain⟨its,r,pl,hz⟩:=I.list hq;refine z8h (eqU x) pl.isList (λ w hw=>Kv rx fx r fs w (by simpa using hw)) ⟨.bl _,H,I,rfl,?_⟩;rw[show its.toArray.any (eqU x)=its.any (eqU x) by simp,Nk r fs];exact q
 ·obtain⟨its,r,pl,hz⟩:=I.tuple hq;refine SeqAt.notIn_tupleAt (eqU x) pl (λ w hw=>Kv rx fx r fs w (by simpa using hw)) ⟨.bl _,H,I,rfl,?_⟩;rw[show its.toArray.any (eqU x)=its.any (eqU x) by simp,Nk r fs];exact q
theorem Dd.or {f:z00}{r':List V->Hp->VK->Prop}(h:Dd X f r) (h':Dd X f r'):Dd X f (λ xs H Q=>r xs H Q∨r' xs H Q):=by
 intro π s σ H xs us Q I rs q
 rcases q with q | q
 ·exact h π s σ H xs us Q I rs q
 ·exact h' π s σ H xs us Q I rs q
theorem Ht:Dd X (.type "list") (λ xs H Q=>∃ p ys,xs=[.ref p]/\(SqL X.K H p ys∨SqT X.K H p ys)/\∀ l,H l=none->Q (.ref l) (upd H l (.lst ys))):=by
  intro π s σ H xs us Q I r h;obtain⟨p,ys,rfl,hq,q⟩:=h;obtain⟨u,rfl,rx⟩:=vals1 r;cases rx;have fin:∀ (its:List z00),Vals ys its->ys.length<=sizeLine->∀ (h':Heap) (c':Nat),(∀ b o',s.heap.get? b=some o'->h'.get? b=some o') ->
      h'.get? s.heap.objs.size=some { cls:=.type "list",dict:=none,data:=.seq its.toArray c',slots:=#[] }->EP X π σ Q .(6) { s with heap:=h' }:=λ its r' hz h' c' kp e=>
    ⟨.ref s.heap.objs.size,_,I.laid (t':=s.toks) kp (z06 _) (show BV X.prog X.w _ h' _ (.lst ys) from⟨hz,its,c',r',e⟩),rfl,q _ (I.hok.fresh (z06 _))⟩
  rcases hq with hq | hq
  · obtain⟨its,r',pl,hz⟩:=I.list hq
    have hlen:=r'.length;obtain⟨o,ho,hc,n,hd⟩:=pl.isList;exact call_list_seq p (.inl rfl) ho hc hd (λ h' c' kp e=>fin its r' hz h' c' kp e) (by simp only[z0t]<;>omega)
  · obtain⟨its,r',pl,hz⟩:=I.tuple hq
    have hlen:=r'.length;obtain⟨o,ho,hc,n,hd⟩:=pl;exact call_list_seq p (.inr rfl) ho hc hd (λ h' c' kp e=>fin its r' hz h' c' kp e) (by simp only[z0t]<;>omega)
theorem Mh:Dd X (.type "tuple") (λ xs H Q=>∃ p ys,xs=[.ref p]/\((SqL X.K H p ys/\∀ l,H l=none->Q (.ref l) (upd H l (.tup ys)))∨(SqT X.K H p ys/\Q (.ref p) H))):=by
 intro π s σ H xs us Q I r h;obtain⟨p,ys,rfl,h⟩:=h;obtain⟨u,rfl,rx⟩:=vals1 r;cases rx
 rcases h with ⟨hq,q⟩ | ⟨hq,q⟩
 ·obtain⟨its,r',pl,hz⟩:=I.list hq;have hlen:=r'.length;refine call_tuple_list pl.isList (λ h' kp=>?_) (by simp only[z0t]<;>omega);have I1:Inv X π σ H { s with heap:=h' }:=I.kept (t':=s.toks) kp;have I2:Inv X π σ (upd H h'.objs.size (.tup ys)) { s with heap:=h'.push { cls:=.type "tuple",data:=.seq its.toArray } }:=
   I1.laid (t':=s.toks) (λ b o e=>z0e _ e) (z06 _) (show BV X.prog X.w _ _ _ (.tup ys) from⟨hz,its,r',z6C _ _⟩)
  exact⟨.ref h'.objs.size,_,I2,rfl,q _ (I1.hok.fresh (z06 _))⟩
 ·obtain⟨its,r',pl,hz⟩:=I.tuple hq;exact call_tuple_same pl ⟨.ref p,H,I,rfl,q⟩
def tyV (K:z08) (T:String) (x:V) (H:Hp):Prop:=match x with
  | .str _=>T="str"
  | .int _=>T="int"
  | .ref p=>(T="list"/\∃ xs,SqL K H p xs)∨(T="tuple"/\∃ o,K.lookup p=some o/\o.cls=.type "tuple"/\o.dict=none) ∨
      (T="dict"/\((∃ kvs,H p=some (.dK kvs))∨∃ kvs,H p=some (.dT kvs)))∨(T="set"/\∃ S n,H p=some (.set S n))
  | _=>False
theorem uf {T:String}{x:V}{v:z00}(I:Inv X π σ H s) (r:RelV x v) (ty:tyV X.K T x H) :
  s.TypeIs v T/\∀ a,v=.ref a->∃ ob,s.heap.get? a=some ob/\ob.dict=none:=by
 cases x with
 | str z=>
  obtain⟨t,rfl⟩:=r;cases (show T="str" from ty);exact⟨z6E s z t,λ _ e=>nomatch e⟩
 | int i=>
  obtain⟨t,rfl⟩:=r;cases (show T="int" from ty);exact⟨typeIs_int s i t,λ _ e=>nomatch e⟩
 | ref p=>
  cases r
  rcases ty with ⟨rfl,xs,hq⟩ | ⟨rfl,o,hk,hc,hd⟩ | ⟨rfl,hk⟩ | ⟨rfl,S,n,hk⟩
  ·obtain⟨its,_,pl,_⟩:=I.list hq;refine⟨pl.isList.typeIs,λ a e=>?_⟩;cases e;obtain⟨o,n,e,c,hd,_⟩:=pl;exact⟨o,e,hd⟩
  ·refine⟨⟨o,I.kIn p o hk,hc⟩,λ a e=>?_⟩;cases e;exact⟨o,I.kIn _ o hk,hd⟩
  ·have z:∃ o,s.heap.get? p=some o/\o.ExactDict:=by
    rcases hk with ⟨kvs,hk⟩ | ⟨kvs,hk⟩
    ·obtain⟨_,_,_,_,o,_,_,e,ex,_⟩:=I.hok p _ hk;exact⟨o,e,ex⟩
    ·obtain⟨_,_,_,_,o,_,_,e,ex,_⟩:=I.hok p _ hk;exact⟨o,e,ex⟩
   obtain⟨o,e,ex⟩:=z;refine⟨⟨o,e,ex.1⟩,λ a e2=>?_⟩;cases e2;exact⟨o,e,ex.2.1⟩
  ·obtain⟨o,_,_,_,e,ex,_⟩:=I.hok p _ hk;refine⟨⟨o,e,ex.1⟩,λ a e2=>?_⟩;cases e2;exact⟨o,e,ex.2.1⟩
 | _=>exact z1n ty
def tBM (K:z08) (T:String) (r:V->List V->Hp->VK->Prop) (to:TE) (t:TA):TE:=λ σ H Q=>to σ H λ x H1=>tyV K T x H1/\t σ H1 λ xs H2=>r x xs H2 Q
variable {o:Expr}{es:List Expr}{to:TE}{t:TA}{name:Str}{cpos:Pos}{T id:String}{r:V->List V->Hp->VK->Prop}
theorem xJ (pa:PlainAttrs T) (slot:Slot T name id) (hty:typeOf (.builtin id)=pure (.type "method_descriptor")) (hm:MtR X id r) (ho:PE X o to) (ha:PA X (e::es) t)
  (hbase:z1x o name X.env (eval o X.env)=eval o X.env:=by rfl)
  (hfew:((z0B cpos (z09 (e::es) X.env)).all (λ x=>!x.1)&&(z1D cpos (z1p [] X.env)).all (λ x=>x.1.isSome)
   && decide ((e::es).length+([]:List z3O).length+(if ([]:List z3O).isEmpty then 0 else 1)<30))=true:=by rfl)
  (hline:(apos.endLine==cpos.line)=true:=by rfl) (hs:z09 (e::es) X.env=(false,eval e X.env)::z09 es X.env:=by rfl) (hplain:(z0B cpos (z09 es X.env)).any (·.1)=false:=by rfl) :
  PE X (.Call (.Attribute o name apos) (e::es) [] cpos) (tBM X.K T r to t):=by
 intro π s σ H Q I h;refine wpAny_Call_method_late hbase hfew hline rfl (thn (ho π s σ H _ I h) λ v s1 ⟨x,H1,I1,r1,ty,q1⟩=>?_);obtain⟨h1,h2⟩:=uf I1 r1 ty;refine⟨T,id,pa,slot,hty,h1,h2,?_⟩;have hA:=ha cpos π s1 σ H1 _ I1 q1;rw[hs] at hA ⊢;refine Calls.callWith_builtin (by show (false||(z0B cpos (z09 es X.env)).any (·.1))=false;rw[hplain]<;>rfl) (Calls.evalArgs_plain ?_);exact thn hA λ us s2 ⟨vs,H2,I2,r2,q2⟩=>hm π s2 σ H2 x vs v us Q I2 r1 r2 q2
end
def MtM (X:Cx) (id:String) (r:V->List V->Hp->VK->Prop):Prop:=
 ∀ (π:zP) (s:z03) (σ:St) (H:Hp) (x:V) (xs:List V) (v:z00) (us:List z00) (Q:VK),Inv X π σ H s->RelV x v->Vals xs us->r x xs H Q ->
  z02 .(0) X.A (call (.builtin id) (v::us)) (EP X π σ Q) X.xe s
theorem Vals.one:∀ {x:V}{us:List z00},Vals [x] us->∃ u,us=[u]/\RelV x u
 | _,_,.cons r .nil=>⟨_,rfl,r⟩
section
variable {l:Addr}{zs:List V}
theorem Inv.lset {its':List z00}{f:Array z00->Array z00}(I:Inv X π σ H s) (hH:H l=some (.lst xs))
  (e:s.heap.get? l=some { cls:=.type "list",data:=.seq its.toArray n }) (hf:f its.toArray=its'.toArray) (hv:Vals ys its') (hz:ys.length<=sizeLine) :
  Inv X π σ (upd H l (.lst ys)) { s with heap:=s.heap.update l (z1Z f),toks:=t' }:=by
 have q:=PySem.IsL.update e f;rw[hf] at q;refine I.write (x:=l) (e:=l) (by rw[hH];exact trivial) (.inl rfl) (λ b' u hb hu=>(z0_ s.heap (z1Z f) (z0n hb)).trans hu) ⟨_,q⟩ ?_;exact⟨hz,its',_,hv,q⟩
theorem Inv.lnew (I:Inv X π σ H s) (hv:Vals ys its) (hz:ys.length<=sizeLine) :
  Inv X π σ (upd H s.heap.objs.size (.lst ys)) { s with heap:=s.heap.push { cls:=.type "list",data:=.seq its.toArray },toks:=t' }:=
 I.laid (λ _ _ q=>z0e _ q) (z06 _) ⟨hz,its,0,hv,z0l _ rfl⟩
theorem Inv.fresh (I:Inv X π σ H s):H s.heap.objs.size=none:=I.hok.fresh (z06 _)
theorem Inv.lstM (I:Inv X π σ H s) (hH:H l=some (.lst xs)):xs.length<=sizeLine/\∃ (its:List z00) (n:Nat),Vals xs its/\xs.length=its.length/\s.heap.get? l=some { cls:=.type "list",data:=.seq its.toArray n }:=by
 obtain⟨z,its,n,r,e⟩:=I.hok l _ hH;exact⟨z,its,n,r,r.length,e⟩
end
section
def nF:V->List V->Hp->VK->Prop:=λ x vs H Q=>∃ l xs y,x=.ref l/\vs=[y]/\H l=some (.lst xs)/\xs.length<sizeLine/\Q .non (upd H l (.lst (xs++[y])))
theorem Tr:MtM X "list.append" nF:=by
 intro π s σ H x vs v us Q I rx rv h;obtain⟨l,xs,y,rfl,rfl,hH,hz,q⟩:=h;cases rx;obtain⟨u,rfl,ru⟩:=rv.one;obtain⟨z,its,n,r,hl,e⟩:=I.lstM hH;refine call_meets F.slot_list_append ⟨_,e,rfl⟩ F.entry_list_append (F.args_list_append_2 _ _) (PySem.list_append l its.toArray n u (by rw[z0t];omega)) ⟨e,?_⟩;refine⟨.non,_,I.lset (its':=its++[u]) hH e (by simp) (r.append (.cons ru .nil)) ?_,rfl,q⟩;rw[z0L,z4o];omega
end
section
variable {A:z0a}
end
section
end
section
variable {κ:Type} [DecidableEq κ]
def valV (kvs:List (κ×V)) (k:κ):Option V:=(kvs.find? λ kv=>decide (kv.1=k)).map (·.2)
def putK (kvs:List (κ×V)) (k:κ) (v:V):List (κ×V):=
 if (kvs.any λ kv=>decide (kv.1=k))=true then kvs.map (λ kv=>if kv.1=k then (kv.1,v) else kv) else kvs++[(k,v)]
theorem Nm {p:κ×V}{r:List (κ×V)}{k:κ}(e:p.1=k):valV (p::r) k=some p.2:=by simp[valV,z3h,e]
theorem Np {p:κ×V}{r:List (κ×V)}{k:κ}(e:¬ p.1=k):valV (p::r) k=valV r k:=by simp[valV,z3h,e]
theorem RW (k:κ):∀ kvs:List (κ×V),(kvs.any λ kv=>decide (kv.1=k))=(valV kvs k).isSome
 | []=>rfl
 | p::r=>by
  rw[z3g]
  by_cases e:p.1=k
  ·simp only[Nm e,decide_eq_true e,Bool.true_or,Option.isSome_some]
  ·rw[Np e,decide_eq_false e,z8i];exact RW k r
theorem Qd (kvs:List (κ×V)) (k:κ) (v:V):(putK kvs k v).length<=kvs.length+1:=by
 unfold putK;split
 ·rw[z07];omega
 ·rw[z0L,z0u,z2y];omega
theorem RelO.isSome_eq {o:Option V}{u:Option z00}(r:RelO o u):o.isSome=u.isSome:=by
 cases o with
 | none=>cases u with
  | none=>rfl
  | some _=>exact (show False from r).elim
 | some _=>cases u with
  | none=>exact (show False from r).elim
  | some _=>rfl
theorem KV.val {kvs:List (κ×V)}{vs:List (κ×z00)}(r:KV kvs vs) (k:κ):RelO (valV kvs k) (z3i vs k):=by
 unfold KV at r
 induction r with
 | nil=>exact z1M
 | @cons p q ps qs h t ih=>
  obtain⟨h1,h2⟩:=h
  by_cases e:p.1=k
  ·have e':q.1=k:=h1.symm.trans e;have b:z3i (q::qs) k=some q.2:=by simp[z3i,z3h,e']
   rw[Nm e,b];exact h2
  ·have e':¬ q.1=k:=λ z=>e (h1.trans z);have b:z3i (q::qs) k=z3i qs k:=by simp[z3i,z3h,e']
   rw[Np e,b];exact ih
theorem KV.any {kvs:List (κ×V)}{vs:List (κ×z00)}(r:KV kvs vs) (k:κ):(kvs.any λ kv=>decide (kv.1=k))=vs.any λ kv=>decide (kv.1=k):=by
 unfold KV at r
 induction r with
 | nil=>rfl
 | cons h t ih=>rw[z3g,z3g,ih,h.1]
theorem KV.repl {kvs:List (κ×V)}{vs:List (κ×z00)}(r:KV kvs vs) (k:κ) {y:V}{u:z00}(ry:RelV y u) :
  KV (kvs.map λ kv=>if kv.1=k then (kv.1,y) else kv) (vs.map λ kv=>if kv.1=k then (kv.1,u) else kv):=by
 unfold KV at r ⊢
 induction r with
 | nil=>exact .nil
 | @cons p q ps qs h t ih=>
  rw[z0c,z0c];refine .cons ?_ ih;obtain⟨h1,h2⟩:=h
  by_cases e:p.1=k
  ·rw[if_pos e,if_pos (h1.symm.trans e)];exact⟨h1,ry⟩
  ·rw[if_neg e,if_neg (λ z=>e (h1.trans z))];exact⟨h1,h2⟩
theorem KV.put {kvs:List (κ×V)}{vs:List (κ×z00)}(r:KV kvs vs) (k:κ) {y:V}{u:z00}(ry:RelV y u):KV (putK kvs k y) (stored vs k u):=by
 unfold putK stored;rw[r.any k]
 by_cases e:(vs.any λ kv=>decide (kv.1=k))=true
 ·rw[if_pos e,if_pos e];exact r.repl k ry
 ·rw[if_neg e,if_neg e];exact z8j r ⟨rfl,ry⟩
theorem KV.length {kvs:List (κ×V)}{vs:List (κ×z00)}(r:KV kvs vs):kvs.length=vs.length:=z4Z r
end
theorem V8 {k:Key}(r:RelV (kV k) u):(Aq P w).is k u=true:=by
 cases k with
 | inl i=>obtain⟨t,e⟩:=(show ∃ t,u=z37 i t from r);subst e;exact Vy P w i t
 | inr x=>obtain⟨t,e⟩:=(show ∃ t,u=z3D x t from r);subst e;exact Vz P w x t
theorem PL {P:z0s}{w:z0k}:∀ {ks:List Key}{us:List z00},Vals (ks.map kV) us->ItemsAre (Aq P w) ks us
 | [],_,r=>by rw[z1b] at r;cases r;exact .nil
 | k::ks,_,r=>by
  rw[z0c] at r;cases r with
  | cons h t=>exact .cons (V8 h) (PL t)
abbrev KT (H:Hp):List (List Key×V)->List (List Key×Addr×z00)->Prop:=z2i λ p q=>p.1=q.1/\H q.2.1=some (.tup (p.1.map kV))/\RelV p.2 q.2.2
theorem KT.val {xs:List (List Key×Addr×z00)}(r:KT H kvs xs) (k:List Key):RelO (valV kvs k) ((z0I xs k).map (·.2)):=by
 induction r with
 | nil=>exact z1M
 | @cons p q ps qs h t ih=>
  obtain⟨h1,_,h2⟩:=h
  by_cases e:p.1=k
  ·have e':q.1=k:=h1.symm.trans e;have b:z0I (q::qs) k=some q.2:=by simp[z0I,z3h,e']
   rw[Nm e,b];exact h2
  ·have e':¬ q.1=k:=λ z=>e (h1.trans z);have b:z0I (q::qs) k=z0I qs k:=by simp[z0I,z3h,e']
   rw[Np e,b];exact ih
theorem KT.repl {xs:List (List Key×Addr×z00)}(r:KT H kvs xs) (k:List Key) {y:V}{u:z00}(ry:RelV y u) :
  KT H (kvs.map λ kv=>if kv.1=k then (kv.1,y) else kv) (xs.map (putAt k u)):=by
 induction r with
 | nil=>exact .nil
 | @cons p q ps qs h t ih=>
  rw[z0c,z0c];refine .cons ?_ ih;obtain⟨h1,h2,h3⟩:=h;unfold putAt
  by_cases e:p.1=k
  ·rw[if_pos e,if_pos (h1.symm.trans e)];exact⟨h1,h2,ry⟩
  ·rw[if_neg e,if_neg (λ z=>e (h1.trans z))];exact⟨h1,h2,h3⟩
theorem KT.put {xs:List (List Key×Addr×z00)}(r:KT H kvs xs) (k:List Key) {b:Addr}{y:V}{u:z00}(hb:H b=some (.tup (k.map kV))) (ry:RelV y u) :
  KT H (putK kvs k y) (z4p xs k b u):=by
 have e:(kvs.any λ kv=>decide (kv.1=k))=(z0I xs k).isSome:=by
  rw[RW,(r.val k).isSome_eq,z4q]
 unfold putK z4p;rw[e]
 by_cases q:(z0I xs k).isSome=true
 ·rw[if_pos q,if_pos q];exact r.repl k ry
 ·rw[if_neg q,if_neg q];exact z8j r ⟨rfl,hb,ry⟩
theorem KT.keeps {xs:List (List Key×Addr×z00)}(r:KT H kvs xs) (ht:∀ b ys,H b=some (.tup ys)->H' b=some (.tup ys)):KT H' kvs xs:=
 Paired.mapP r λ _ _ z=>⟨z.1,ht _ _ z.2.1,z.2.2⟩
section
theorem eQ {u:HO}(ok:HOk P w H h) (e:Rd H a u):BV P w H h a u:=e.ok ok
theorem Nq {kvs:List (Key×V)}(ok:HOk P w H h) (e:Rd H a (.dK kvs)):kvs.length<=sizeLine/\(a==z16)=false/\∃ vs,KV kvs vs/\h.DictOf (Aq P w) a vs:=
 show BV P w H h a (.dK kvs) from eQ ok e
theorem rJ {kvs:List (Key×V)}(ok:HOk P w H h) (e:H a=some (.dK kvs)):kvs.length<=sizeLine/\(a==z16)=false/\∃ vs,KV kvs vs/\h.DictOf (Aq P w) a vs:=Nq ok (.inl e)
theorem RX {ks:List Key}(ok:HOk P w H h) (e:H a=some (.tup (ks.map kV))):(z3a (Aq P w)).is h ks a:=by
 obtain⟨_,its,r,o,h1,h2,n,h3⟩:=(show BV P w H h a (.tup (ks.map kV)) from ok a _ e);exact⟨o,its.toArray,n,h1,h2,h3,by simpa using PL r⟩
theorem V9 (ok:HOk P w H h) (e:Rd H a (.dT kvs)):kvs.length<=sizeLine/\(a==z16)=false ∧
  ∃ xs,KT H kvs xs/\h.DictOfH (z3a (Aq P w)) a xs:=by
 obtain⟨z,y,xs,r,o,es,ep,h1,h2,h3,h4,h5⟩:=(show BV P w H h a (.dT kvs) from eQ ok e);refine⟨z,y,xs,r,o,es,ep,h1,h2,h3,h4,λ x hx=>?_,h5⟩;have all:∀ {l:List (List Key×V)}{m:List (List Key×Addr×z00)},KT H l m->∀ x∈m,(z3a (Aq P w)).is h x.1 x.2.1:=by
  intro l m q
  induction q with
  | nil=>intro x hx;exact nomatch hx
  | @cons p q ps qs hq t ih=>
   intro x hx
   rcases z0i.mp hx with e | hx
   ·subst e;exact RX ok (by rw[<-hq.1];exact hq.2.1)
   ·exact ih x hx
 exact all r x hx
theorem xK (ok:HOk P w H h) (e:H a=some (.dT kvs)):kvs.length<=sizeLine/\(a==z16)=false ∧
  ∃ xs,KT H kvs xs/\h.DictOfH (z3a (Aq P w)) a xs:=V9 ok (.inl e)
end
def DGet (H:Hp) (a:Addr) (y:V) (r:Option V):Prop:=
 (∃ kvs k,Rd H a (.dK kvs)/\y=kV k/\r=valV kvs k)∨∃ kvs k b,Rd H a (.dT kvs)/\y=.ref b/\H b=some (.tup (k.map kV))/\r=valV kvs k
def DPut (H:Hp) (a:Addr) (y v:V) (H':Hp):Prop:=
 (∃ kvs k,H a=some (.dK kvs)/\y=kV k/\kvs.length<sizeLine/\H'=upd H a (.dK (putK kvs k v))) ∨
 ∃ kvs k b,H a=some (.dT kvs)/\y=.ref b/\H b=some (.tup (k.map kV))/\kvs.length<sizeLine/\H'=upd H a (.dT (putK kvs k v))
theorem DPut.k {H:Hp}{a:Addr}{kvs:List (Key×V)}{k:Key}{v:V}(e:H a=some (.dK kvs)) (hl:kvs.length<sizeLine):DPut H a (kV k) v (upd H a (.dK (putK kvs k v))):=.inl ⟨kvs,k,e,rfl,hl,rfl⟩
theorem DPut.t {k:List Key}(e:H a=some (.dT kvs)) (eb:H b=some (.tup (k.map kV))) (hl:kvs.length<sizeLine) :
  DPut H a (.ref b) v (upd H a (.dT (putK kvs k v))):=.inr ⟨kvs,k,b,e,rfl,eb,hl,rfl⟩
section
variable {r:z00}{o:Option V}{A:z0a}
theorem Inv.big (I:Inv X π σ H s):z16<s.heap.objs.size:=by
 have h:z0T<s.heap.objs.size:=(I.mod.glob.keeps I.bk).lt;exact z8k (by decide) h
theorem bQ (hu:A.units+1<z0h) (I:Inv X π σ H s) (g:DGet H a y (some v)) (ry:RelV y u) (h:∀ w' s',Inv X π σ H s'->RelV v w'->Q w' s') :
  z02 .(0) A (z2w (.ref a) u) Q E s:=by
 rcases g with ⟨kvs,k,e,ey,l⟩ | ⟨kvs,k,b,e,ey,eb,l⟩
 ·subst ey;obtain⟨z,hd,vs,rel,dd⟩:=Nq I.hok e;obtain⟨w',hw,rw'⟩:=RelO.some_of (v:=v) (o:=z3i vs k) (by rw[l];exact rel.val k);exact wpAny_getItem_of (V8 ry) dd.mapOf hw (h w' _ (I.tok _) rw')
 ·subst ey;cases (show u=z0b b from ry);obtain⟨z,hd,xs,rel,dd⟩:=V9 I.hok e;obtain⟨w',hw,rw'⟩:=RelO.some_of (v:=v) (o:=(z0I xs k).map (·.2)) (by rw[l];exact rel.val k);obtain⟨p,hp,hp2⟩:=z1U.mp hw;refine z8l (z5e hu) (RX I.hok eb) dd hp ?_;rw[hp2];exact h w' _ (I.tok _) rw'
theorem d_in (hu:A.units+1<z0h) (I:Inv X π σ H s) (g:DGet H a y o) (ry:RelV y u) (h:∀ s',Inv X π σ H s'->Q (.bool o.isSome) s') :
  z02 .(0) A (z0C .In u (.ref a)) Q E s:=by
 rcases g with ⟨kvs,k,e,ey,l⟩ | ⟨kvs,k,b,e,ey,eb,l⟩
 ·subst ey;obtain⟨z,hd,vs,rel,dd⟩:=Nq I.hok e;refine wpAny_in_of (V8 ry) hd dd.mapOf ?_;rw[<-(rel.val k).isSome_eq,<-l];exact h _ (I.tok _)
 ·subst ey;cases (show u=z0b b from ry);obtain⟨z,hd,xs,rel,dd⟩:=V9 I.hok e;refine wpAny_in_heap (z5e hu) (RX I.hok eb) hd dd ?_;have q:=(rel.val k).isSome_eq;rw[z4q] at q;rw[<-q,<-l];exact h _ (I.tok _)
theorem nG (hu:A.units+1<z0h) (I:Inv X π σ H s) (g:DGet H a y o) (ry:RelV y u) (h:∀ s',Inv X π σ H s'->Q (.bool (!o.isSome)) s') :
  z02 .(0) A (z0C .NotIn u (.ref a)) Q E s:=by
 rcases g with ⟨kvs,k,e,ey,l⟩ | ⟨kvs,k,b,e,ey,eb,l⟩
 ·subst ey;obtain⟨z,hd,vs,rel,dd⟩:=Nq I.hok e;refine wpAny_notIn_of (V8 ry) hd dd.mapOf ?_;rw[<-(rel.val k).isSome_eq,<-l];exact h _ (I.tok _)
 ·subst ey;cases (show u=z0b b from ry);obtain⟨z,hd,xs,rel,dd⟩:=V9 I.hok e;refine wpAny_notIn_heap (z5e hu) (RX I.hok eb) hd dd ?_;have q:=(rel.val k).isSome_eq;rw[z4q] at q;rw[<-q,<-l];exact h _ (I.tok _)
theorem Qy {ob:HO}(I:Inv X π σ H s) (mu:Mut (H a)) (hs:z14 a s.heap h') (he:∃ q,h'.get? a=some q) (new:BV X.prog X.w (upd H a ob) h' a ob) :
  Inv X π σ (upd H a ob) { s with heap:=h',toks:=t' }:=
 I.write (x:=a) (e:=a) mu (.inl rfl) (λ b q hb z=>(hs.2 b hb).trans z) he new
theorem eU {kvs:List (Key×V)}{vs:List (Key×z00)}(z:kvs.length<=sizeLine) (hd:(a==z16)=false) (rel:KV kvs vs) (dd:h'.DictOf (Aq P w) a vs) :
  BV P w H' h' a (.dK kvs):=⟨z,hd,vs,rel,dd⟩
theorem bR {Q:Unit->z03->Prop}(hu:A.units+1<z0h) (I:Inv X π σ H s) (g:DPut H a y v H') (ry:RelV y u) (rv:RelV v r) (h:∀ s',Inv X π σ H' s'->Q () s') :
  z02 .(0) A (setItem (.ref a) u r) Q E s:=by
 rcases g with ⟨kvs,k,e,ey,l,eH⟩ | ⟨kvs,k,b,e,ey,eb,l,eH⟩
 ·subst ey eH;obtain⟨z,hd,vs,rel,dd⟩:=rJ I.hok e;have hz:vs.length<=sizeLine:=by rw[<-rel.length];exact z
  have hl:(putK kvs k v).length<=sizeLine:=by have:=Qd kvs k v;omega
  refine wpAny_setItem_pairs (hsz:=hz) (V8 ry) dd λ h' dd' hs=>h _ ?_;have he:∃ q,h'.get? a=some q:=let ⟨q,_,_,hq,_⟩:=dd';⟨q,hq⟩;exact Qy I (by rw[e];exact z1M) hs he (eU hl hd (rel.put k rv) dd')
 ·subst ey eH;cases (show u=z0b b from ry);obtain⟨z,hd,xs,rel,dd⟩:=xK I.hok e;have hz:xs.length<=sizeLine:=by rw[<-z4Z rel];exact z
  have hl:(putK kvs k v).length<=sizeLine:=by have:=Qd kvs k v;omega
  refine z8m (hsz:=hz) (z5e hu) (RX I.hok eb) dd λ h' dd' hs=>h _ ?_;obtain⟨q,es,ep,hq,h2,h3,h4,_,h5⟩:=dd';refine Qy I (by rw[e];exact z1M) hs ⟨q,hq⟩ ⟨hl,hd,_,(rel.put k eb rv).keeps λ c ys ec=>?_,q,es,ep,hq,h2,h3,h4,h5⟩;rw[Ak (q_ ec e (λ z=>nomatch z))];exact ec
end
section
variable {kvs:List (Key×V)}{k:Key}{A:z0a}
theorem xM (I:Inv X π σ H s) (e:Rd H a (.dK kvs)) (h:∀ t s',Inv X π σ H s'->Q (.int kvs.length t) s'):z02 .(0) A (call (.builtin "len") [.ref a]) Q E s:=by
 obtain⟨z,hd,vs,rel,dd⟩:=Nq I.hok e;refine call_len_dict hd dd (by rw[<-rel.length];rw[z1u] at z;omega) ?_;rw[<-rel.length];exact h _ _ (I.tok _)
end
def NoSl (i:Expr):Prop:=∀ ov iv,z4m i false ov iv=operate [ov,iv] (z2w ov iv)
theorem Y8 {A:z0a}{value slice:Expr}{T id:String}(hl:z6A (.type T) "__getitem__"=pure (some (.builtin id))) (hs:NoSl slice)
  (h:z02 (z04 prog w) A (eval value env) (λ o s₁=>z02 (z04 prog w) A (eval slice env) (λ i s₂=>s₂.TypeIs o T/\z02 (z04 prog w) A (z2w o i) Q E s₂) E s₁) E s) :
  z02 (z04 prog w) A (eval (.Subscript value slice pos) env) Q E s:=by
 refine z6B (z1s h (λ o s₁ h₁=>z1s h₁ (λ i s₂ h₂=>?_) λ _ _ x=>x) λ _ _ x=>x);obtain⟨hT,h₂⟩:=h₂;unfold z5d;refine z01 ?_;rw[z8n hT.not_modules];refine z01 (z2r hT hl ?_);have fin:z02 (z04 prog w) A (z4m slice false o i) (λ r s₃=>z02 (z04 prog w) A (letTemporaryGo value o r >>= λ _=>pure r) Q E s₃) E s₂:=by
  rw[hs o i];exact wpAny_operating (z1s h₂ (λ r s₃ h₃=>z01 (z8o (z05 h₃))) λ _ _ x=>x)
 first
  | exact z05 (z01 fin)
  | exact z01 (z05 (z01 fin))
  | exact z01 fin
theorem V_ {o:Option V}(I:Inv X π σ H s) (g:DGet H a y o):s.TypeIs (.ref a) "dict":=by
 rcases g with ⟨kvs,k,e,_,_⟩ | ⟨kvs,k,b,e,_,_,_⟩
 ·obtain⟨_,_,vs,_,dd⟩:=Nq I.hok e;exact dd.typeIs
 ·obtain⟨_,_,xs,_,dd⟩:=V9 I.hok e;exact dd.typeIs
def xN (td ty tv:TE):TS:=λ D σ H=>tv σ H λ v H1=>td σ H1 λ x H2=>ty σ H2 λ y H3=>∃ a H4,x=.ref a/\DPut H3 a y v H4/\D.nx σ H4
section
variable {o i value:Expr}{tpos:Pos}{td ty tv:TE}
theorem Us (hu:X.A.units+1<z0h) (ho:PE X o td) (hi:PE X i ty) (hv:PE X value tv) (hs:z1o value (some (.Subscript o i pos')) pos.line X.env=pure false) :
  PS X (.Assign [.Subscript o i pos'] value pos) (xN td ty tv):=by
 intro π s σ H D I h;refine z5f (thn (hv π s σ H _ I h) λ r s1 ⟨v,H1,I1,rv,q1⟩=>thn (ho π s1 σ H1 _ I1 q1) λ u s2 ⟨x,H2,I2,rx,q2⟩=>thn (hi π s2 σ H2 _ I2 q2) λ iv s3 ⟨y,H3,I3,ry,a,H4,ex,g,q3⟩=>?_) hs;subst ex;obtain rfl:u=z0b a:=rx;exact bR hu I3 g ry rv λ s4 I4=>⟨σ,H4,I4,q3⟩
end
theorem WD (h:Heap) (hb:z16<h.objs.size):BV P w H (h.push { cls:=.type "dict",data:=.dict #[] }) h.objs.size (.dK []):=
 ⟨z19 _,beq_eq_false_iff_ne.mpr (z0n (z0j hb)),[],.nil,Heap.DictOf.new h⟩
theorem eX (h:Heap) (hb:z16<h.objs.size):BV P w H (h.push { cls:=.type "dict",data:=.dict #[] }) h.objs.size (.dT []):=
 ⟨z19 _,beq_eq_false_iff_ne.mpr (z0n (z0j hb)),[],.nil,_,#[],0,z0l _ rfl,⟨rfl,rfl,rfl⟩,rfl,rfl,List.nodup_nil⟩
def ug:TE:=λ _ H Q=>∀ p,H p=none->Q (.ref p) (upd H p (.dK []))
def uh:TE:=λ _ H Q=>∀ p,H p=none->Q (.ref p) (upd H p (.dT []))
section
theorem eY:PE X (.Dict [] [] pos) ug:=λ π s σ H Q I h=>
 z6G ⟨.ref s.heap.objs.size,_,I.laid (a:=s.heap.objs.size) (o:=.dK []) (t':=s.toks) (λ _ _ q=>z0e _ q) (z06 _) (WD s.heap I.big),rfl,h _ (I.hok.fresh (z06 _))⟩
theorem eZ:PE X (.Dict [] [] pos) uh:=λ π s σ H Q I h=>
 z6G ⟨.ref s.heap.objs.size,_,I.laid (a:=s.heap.objs.size) (o:=.dT []) (t':=s.toks) (λ _ _ q=>z0e _ q) (z06 _) (eX s.heap I.big),rfl,h _ (I.hok.fresh (z06 _))⟩
end
section
variable {d:V}{r:z00}{o:Option V}{A:z0a}
end
section
variable {o f:Expr}{cpos:Pos}{td ty tx:TE}
end
section
variable {kvs:List (Key×V)}{A:z0a}
theorem e_ (I:Inv X π σ H s) (e:Rd H a (.dK kvs)) (h:∀ p s',H p=none->Inv X π σ (upd H p (.dK kvs)) s'->Q (.ref p) s'):z02 .(0) A (call (.type "dict") [.ref a]) Q E s:=by
 obtain⟨z,hd,vs,rel,dd⟩:=Nq I.hok e;refine kt_call_dict hd dd (by rw[<-rel.length];exact z) λ h' dd' hs=>?_;refine h _ _ (I.hok.fresh (z06 _)) (I.laid (a:=s.heap.objs.size) (o:=.dK kvs) (t':=s.toks) (λ b q hq=>?_) (z06 _) (eU z (beq_eq_false_iff_ne.mpr (z0n (z0j I.big))) rel dd'));exact (hs.2 b (z0j (z0g hq))).trans (z0e _ hq)
end
section
variable {A:z0a}
end
end L2
namespace Att
open PySem PySem.W PySem.Calls PyProof.Rows
theorem Qq {P:Params}:∀ (ns:List Int) (vs:List z00),WellAll P h vs (ns.map z3P)->z4r vs ns:=by
 intro ns
 induction ns with
 | nil=>
  intro vs w;rw[z1b] at w;cases w;exact .nil
 | cons n ns ih=>
  intro vs w;rw[z0c] at w;cases w with
  | cons a b=>
   cases a;exact .cons _ _ (ih _ b)
theorem bT {l:OpenLaw}(hn:l.most=some n) {P:Params}{h:Heap}{args:List WData}{vals:List z00}
  (hpre:l.row.toRowW.claim.pre args=true) (hwl:WellAll P h vals args) :
  ∃ a vs ns,vals=[z0b a]/\args=[WData.list (ns.map z3P)]/\h.get? a=some { cls:=.type "list",data:=.seq vs.toArray }/\z4r vs ns/\ns.length<=n:=by
 have hsh:WShape.hasAll [] args [.list .int]=true:=(pre_splitW hpre).1;have hc:l.pre.holds [] { args:=args }=true:=(pre_splitW hpre).2;obtain⟨d,r,rfl,h1,h2⟩:=hasAllW_cons hsh;obtain rfl:=hasAllW_nil h2;obtain⟨xs,rfl,h3⟩:=hasW_list h1;obtain⟨ns,rfl⟩:=items_int h3;have hlen:ns.length<=n:=by
  unfold OpenLaw.pre at hc;have h4:(WTm.not (.lt (.lit .(1)) (.len (.arg 0)))).holds [] { args:=[.list (ns.map .int)] }=true:=by
   have h4:=(holds_andW hc).1;rw[hn] at h4;exact h4
  have h5:=condW_of h4 (w_not (w_lt w_lit (w_len_list (w_arg rfl))));rw[z07] at h5;refine Nat.le_of_not_lt λ q=>?_;have q':(n:Int)<((ns.length:Nat):Int):=by omega
  first
   | (rw[decide_eq_true q'] at h5;exact absurd h5 (by decide))
   | (simp at h5;omega)
 cases hwl with
 | cons w1 w2=>
  cases w2;cases w1 with
  | list ho hall=>exact⟨_,_,ns,rfl,rfl,ho,Qq ns _ hall,hlen⟩
theorem bU (l:OpenLaw) (args:List WData):l.row.toRowW.claim.post args (.bool true) args=true:=
 postW_of (r:=l.row.toRowW) (X:=(true==true))
  (show z8p [] (.bool true) .bool=true by first | rfl | decide | simp[z8p,WShape.arms,WShape.armsAll])
  (show (WTm.eq .res (.lit (.bool true))).value [] { args:=args,res:=some (.bool true),after:=args }=some (.bool (true==true)) from w_eq_bool (w_res rfl) w_lit) rfl
section
variable {A:z0a}{K:Frag}
end
end Att
namespace L2
open PySem PySem.Spec PyProof.Rows
theorem Tt:∀ {vs:List z00}{ns:List Int},z4r vs ns->Vals (ns.map V.int) vs
 | _,_,.nil=>.nil
 | _,_,.cons n t h=>.cons ⟨t,rfl⟩ (Tt h)
def Only (H:Hp):Prop:=∀ b,H b=none∨∃ o xs,H b=some (.frz o (.lst xs))
theorem fB {K:z08}{mb:Str->Option z00}{k:Nat}{fa:Addr}{sp:Sp}{s₁:z03}{ns:List Int}(KX:K.In s₁.heap) (hns:s₁.heap.Ns z0T mg) (hb:s₁.heap.Ns z64 mb) (hbb:∀ x:Str,x≠"__name__"->mb x=z0x x) (hlim:s₁.heap.NoLimit) (hg:s₁.gens=#[])
    (ha:s₁.heap.get? a=some { cls:=.type "list",data:=.seq vs.toArray }) (hi:z4r vs ns) (hl:ns.length<=sizeLine) (hr:Room k z3j)
    (F:∀ base:Heap,K.In base->base.Ns z0T mg->FnOk P w K mg base CX k fa fd [x] sp) (hbind:∀ (s:z03) (u:z00),z4g s fd ⟨[u],[]⟩ [(x,u)])
    (hsp:∀ H:Hp,Only H->SqL K H a (ns.map V.int)->sp [.ref a] H (λ v _=>v=.bl true) λ _ _ _=>False)
    (hCX:∀ H e s',CX [] H s₁ (λ _ _ _=>False) e s'->False) :
    z0Z (z04 P w) z3j (.call (.ref fa) ⟨[.ref a],[]⟩) (λ r s'=>r=.ok (.ret (.bool true))/\OldK s₁.heap s'.heap/\s'.os=s₁.os/\z2j s'.gens) s₁:=by
  have rv:=Tt hi;have lenV:=hi.length;have core:∀ H:Hp,Only H->SqL K H a (ns.map V.int)->HOk P w H s₁.heap->(∀ b,H b≠none->b=a)->(H a≠none->K.lookup a=none) ->
      z0Z (z04 P w) z3j (.call (.ref fa) ⟨[.ref a],[]⟩) (λ r s'=>r=.ok (.ret (.bool true))/\OldK s₁.heap s'.heap/\s'.os=s₁.os/\z2j s'.gens) s₁:=by
    intro H hO hS hok hA hK;have base_of:∀ {b:Addr}{o:Obj},s₁.heap.get? b=some o->H b=none->(hidT s₁.heap H).get? b=some o:=λ e n=>dH e n;have noA:∀ {b:Addr}{o:Obj}{es:Array z2z}{ep:Nat},s₁.heap.get? b=some o->o.data=.dict es ep->H b=none:=λ {b o es ep} e d=>by
      cases q:H b with
      | none=>rfl
      | some u=>
        have e':b=a:=hA b (by rw[q];simp);subst e';rw[ha] at e;cases e;have d':Data.seq vs.toArray _=Data.dict es ep:=d;cases d'
    have nsK:∀ {b:Addr}{m:Str->Option z00},s₁.heap.Ns b m->(hidT s₁.heap H).Ns b m:=λ {b m} ⟨o,es,ep,e,d,r⟩=>⟨o,es,ep,base_of e (noA e d),d,r⟩;have hKb:K.In (hidT s₁.heap H):=λ b o e=>base_of (KX b o e) (by
      cases q:H b with
      | none=>rfl
      | some u=>
        have e':b=a:=hA b (by rw[q];simp);subst e';rw[hK (by rw[q];simp)] at e;cases e)
    have hM:Mod K mg (hidT s₁.heap H):=⟨hKb,nsK hns,⟨mb,nsK hb,hbb⟩,let ⟨mc,h1,h2⟩:=hlim;⟨mc,nsK h1,h2⟩⟩;have e0:Env0 P w K mg (hidT s₁.heap H) z3j [] s₁ H:=⟨rfl,hM,λ b o e=>mR e,z6h (bD _ _),trivial,λ b hb=>absurd (show b∈([]:List Addr) from hb) (by simp),hok,.of_eq hg⟩;refine z2K ((F _ hKb (nsK hns)).run z3j [] s₁ H ⟨[.ref a],[]⟩ [.ref a] [.ref a] _ _ hr e0 (hbind s₁ (.ref a)) (.cons rfl .nil) (hsp H hO hS)) λ r s' h=>?_;cases r with
    | error e=>exact (hCX H e s' h).elim
    | ok fl=>
      cases fl with
      | next=>exact z1n h
      | brk=>exact z1n h
      | cont=>exact z1n h
      | ret u=>
        obtain⟨v,H',os,bare,un,hok',r',q⟩:=h;have q':v=.bl true:=q;subst q';obtain rfl:u=z39 true:=r';refine⟨rfl,OldK.of_keep λ b o e=>?_,os,bare⟩;cases q:H b with
        | none=>exact un.keep b o e q (by intro z;exact absurd (show b∈([]:List Addr) from z) (by simp)) (by simp)
        | some u=>
          rcases hO b with z | ⟨ob,xs,z⟩
          · rw[q] at z;cases z
          · have z2:=un.frzs b ob _ z
            obtain⟨e1,_⟩:=hok b _ z;obtain⟨e2,_⟩:=hok' b _ z2;rw[e] at e1;cases e1;exact e2
  cases hk:K.lookup a with
  | some o=>
    have e:=KX a o hk;rw[ha] at e;cases e;refine core (λ _=>none) (λ _=>.inl rfl) (.inr ⟨_,vs.toArray,_,hk,rfl,rfl,rfl,by rw[z0t,lenV];exact hl,by simpa using rv⟩) (λ b u z=>by have z':(none:Option HO)=some u:=z;cases z') (λ b z=>absurd rfl z) λ z=>absurd rfl z
  | none=>
    refine core (λ b=>if b=a then some (.frz { cls:=.type "list",data:=.seq vs.toArray } (.lst (ns.map V.int))) else none) (λ b=>?_) (.inl (.inr ⟨{ cls:=.type "list",data:=.seq vs.toArray },if_pos rfl⟩)) (λ b u z=>?_) (λ b z=>?_) λ _=>hk
    · by_cases hb:b=a
      · exact .inr ⟨_,_,if_pos hb⟩
      · exact .inl (if_neg hb)
    · by_cases hb:b=a
      · have z':=(if_pos hb).symm.trans z
        cases z';subst hb;exact⟨ha,by rw[z07];exact hl,vs,_,rv,ha⟩
      · have z':=(if_neg hb).symm.trans z
        cases z'
    · by_cases hb:b=a
      · exact hb
      · exact absurd (if_neg hb) z
abbrev KOf {K:z08}{h:Heap}(_:K.In h):z08:=K
def inClass (s:Stmt) (j:Nat):Stmt:=match s with
 | .ClassDef _ _ _ body _ _ _ _ _ _ _=>body.getD j (.Pass ⟨0,0,0,0⟩)
 | _=>.Pass ⟨0,0,0,0⟩
def El (s:Stmt):Arguments:=match s with
 | .FunctionDef _ a _ _ _ _ _ _ _ _=>a
 | _=>{ posonlyargs:=[],args:=[],vararg:=none,kwonlyargs:=[],kw_defaults:=[],kwarg:=none,defaults:=[] }
def B_ (s:Stmt):List Stmt:=match s with
 | .FunctionDef _ _ b _ _ _ _ _ _ _=>b
 | _=>[]
def Ab (s:Stmt):z26:=match s with
 | .FunctionDef _ _ _ _ _ _ sc _ _ _=>sc
 | _=>{ kind:=.function,names:=[],isGenerator:=false,isCoroutine:=false }
abbrev CX0:CXT:=λ _ _ _ _ _ _=>False
abbrev E0:XK:=λ _ _ _=>False
theorem WF:Mw CX0 X E0:=λ _ _ _ _ _ _ _ h=>h.elim
structure Fun (K:z08) (x qual:Str) (st:Stmt) (f:Addr) (fd:z2l):Prop where
 ex:∃ (oc:z00) (od:Option Addr) (kV doc pm:z00) (an:Option Addr) (cdv ct:z00) (osl:Array (Option z00)),
  fd=z1y x qual (El st) (B_ st) (Ab st) .none kV doc pm an cdv ct/\K.lookup f=some ⟨oc,od,.func fd,osl⟩/\z2N K cdv qual=true
 kp:z1L K (.ref f)=true
section
variable {K:z08}{base:Heap}
theorem Fun.ok {f:Addr}{k:Nat}{sp:Sp}(F:Fun K x qual st f fd) (S:FnScope N ps (Ab st)) (len:∀ vs H Q E,sp vs H Q E->vs.length=ps.length)
  (hbody:∀ (cdv:z00) (A:z0a) (outer:List Env) (s:z03) (H:Hp) (vs:List V) (Q:VK) (E:XK),Room k (A.deeper (z1E qual (Ab st) s.heap.objs.size f cdv))->sp vs H Q E ->
   ∃ t,PSs (cxOf CX0 P w K mg base N qual (Ab st) f cdv A outer s H E).nox (B_ st) t/\t { nx:=λ _ H'=>Q .non H',rt:=Q } (start N vs) H):FnOk P w K mg base CX0 (k+1) f fd ps sp:=by
 obtain⟨oc,od,kV,doc,pm,an,cdv,ct,osl,rfl,lk,hcd⟩:=F.ex;refine rG lk hcd S len λ A outer s H vs Q E hr hsp=>?_;obtain⟨t,h,q⟩:=hbody cdv A outer s H vs Q E hr hsp;exact⟨t,h.nox,q⟩
theorem Fun.binds {f:Addr}(F:Fun K x qual st f fd)
  (h:∀ (kV doc pm:z00) (an:Option Addr) (cdv ct:z00) (us:List z00),us.length=ps.length->z4h (z1y x qual (El st) (B_ st) (Ab st) .none kV doc pm an cdv ct) ⟨us,[]⟩=pure (ps.zip us)):Binds K fd ps []:=by
 obtain⟨oc,od,kV,doc,pm,an,cdv,ct,osl,rfl,lk,hcd⟩:=F.ex;exact .all (h kV doc pm an cdv ct)
theorem RZ {f:Addr}{kV:z00}(l:K.lookup f=some ⟨oc,od,.func (z1y x qual (El st) (B_ st) (Ab st) .none kV doc pm an cdv ct),osl⟩)
  (c:z2N K cdv qual=true) (k:z1L K (.ref f)=true):Fun K x qual st f (z1y x qual (El st) (B_ st) (Ab st) .none kV doc pm an cdv ct):=⟨⟨oc,od,kV,doc,pm,an,cdv,ct,osl,rfl,l,c⟩,k⟩
end
theorem Hr {A:z0a}{k:Nat}(hr:Room k A):A.units+1<z0h:=z2Q (Nat.add_le_add_left (by decide:1<=64) _) hr.units
section
theorem pv (i:Nat) {x:Str}{pos:Pos}(hN:X.N[i]?=some x:=by rfl) (hv:Vis X.env.scope x:=by first | exact z0J rfl | exact z0v (z0J rfl) | exact z0v (z0v rfl)) (hd:.(3)=false:=by decide)
  (hcd:.(27)=false:=by decide):PE X (.Name x pos) (tVar i):=Xd hN hv hd hcd
end
theorem iteF {A B:Prop}(h:B):if false=true then A else B:=by
 rw[if_neg z0D];exact h
theorem iteT {A B:Prop}(h:A):if true=true then A else B:=by
 rw[if_pos rfl];exact h
def Same (H H':Hp):Prop:=∀ b o,H b=some o->H' b=some o
theorem Same.refl (H:Hp):Same H H:=λ _ _ h=>h
theorem Same.trans {H2:Hp}(a:Same H H1) (b:Same H1 H2):Same H H2:=λ c o h=>b c o (a c o h)
theorem Same.free (e:Same H H') {l:Addr}(h:H' l=z8q):H l=z8q:=by
 cases q:H l with
 | none=>rfl
 | some o=>
  rw[e l o q] at h;cases h
theorem Same.seq {K:z08}(e:Same H H') (h:SqL K H a xs):SqL K H' a xs:=by
 rcases h with (h | ⟨o,h⟩) | h
 ·exact .inl (.inl (e _ _ h))
 ·exact .inl (.inr ⟨o,e _ _ h⟩)
 ·exact .inr h
section
variable {κ:Type} [DecidableEq κ]
end
def clOf (cells:List (Str×Addr)):List (Str×z2b)->List (Str×Addr)->List (Str×Addr)
 | [],cs=>cs
 | y::r,cs=>if y.2==.free then clOf cells r ((y.1,(cells.lookup y.1).getD 0)::cs) else clOf cells r cs
theorem Ra {cells:List (Str×Addr)}{x:Str}{c:Addr}:∀ {names:List (Str×z2b)}{cs:List (Str×Addr)},(∀ y∈names,y.2=.free ->∃ c,cells.lookup y.1=some c) ->
  (clOf cells names cs).lookup x=some c->cs.lookup x=some c∨cells.lookup x=some c
 | [],_,_,h=>.inl h
 | y::r,cs,hf,h=>by
  unfold clOf at h;split at h
  ·rename_i hk;have hk':y.2=.free :=by simpa using hk
   obtain⟨c',hc⟩:=hf y z0O hk'
   rcases Ra (λ z hz=>hf z (z0y _ hz)) h with q | q
   ·rw[z0r] at q;split at q
    ·rename_i e;have e':x=y.1:=by simpa using e
     rw[hc] at q;subst e';right;rw[hc];simpa using q
    ·exact .inl q
   ·exact .inr q
  ·exact Ra (λ z hz=>hf z (z0y _ hz)) h
theorem PP {cells:List (Str×Addr)}{x:Str}:∀ {names:List (Str×z2b)}{cs:List (Str×Addr)},(∃ c,cs.lookup x=some c)->∃ c,(clOf cells names cs).lookup x=some c
 | [],_,h=>h
 | y::r,cs,h=>by
  unfold clOf;split
  ·apply PP;rw[z0r];split
   ·exact⟨_,rfl⟩
   ·exact h
  ·exact PP h
theorem Kw {cells:List (Str×Addr)}{x:Str}:∀ {names:List (Str×z2b)}{cs:List (Str×Addr)},(x,z3Q)∈names->∃ c,(clOf cells names cs).lookup x=some c
 | [],_,h=>by cases h
 | y::r,cs,h=>by
  unfold clOf
  rcases z0i.mp h with e | h
  ·subst e;rw[if_pos (by rfl)];apply PP;rw[z0r];simp
  ·split
   ·exact Kw h
   ·exact Kw h
theorem Y9 {env:Env}:∀ (names:List (Str×z2b)) (cs:List (Str×Addr)),(∀ y∈names,y.2=.free ->∃ c,env.cells.lookup y.1=some c) ->
  (forIn names cs (λ x r=>match x with
   | (name,kind)=>if (kind==z3Q)=true then do let a <-cellOf env name;pure (z3R ((name,a)::r)) else pure (z3R r)):Sem (List (Str×Addr)))=pure (clOf env.cells names cs)
 | [],_,_=>rfl
 | (n,k)::r,cs,hf=>by
  have ih:=λ cs=>Y9 r cs (λ z hz=>hf z (z0y _ hz));rw[List.forIn_cons]
  by_cases hk:(k==z3Q)=true
  ·obtain⟨c,hc⟩:=hf (n,k) z0O (by simpa using hk);have hc':env.cells.lookup n=some c:=hc;have e:cellOf env n=pure c:=by unfold cellOf;rw[hc']
   simp only[hk,if_true,e];show (forIn r ((n,c)::cs) _:Sem _)=_;rw[ih]
   conv=>rhs;unfold clOf
   simp only[hk,if_true,hc',Option.getD_some]
  ·simp only[hk,if_false];show (forIn r cs _:Sem _)=_;rw[ih]
   conv=>rhs;unfold clOf
   simp only[hk,if_false];rfl
theorem TX (hf:∀ y∈scope.names,y.2=.free ->∃ c,env.cells.lookup y.1=some c):closureFor scope env=pure (clOf env.cells scope.names []):=by
 have h:=Y9 (env:=env) scope.names [] hf;unfold closureFor;show ((forIn scope.names [] _:Sem _) >>= λ r=>pure r)=_;exact (congrArg (λ m=>m >>= λ r=>pure r) h)
theorem Fy {env:Env}{x:Str}{k:z2b}:∀ {names:List (Str×z2b)},(names.map λ (n,k)=>if (k==z3Q&&env.scope.kind==.function&&env.kindOf n==some .cell) then (n,NameKind.cell) else (n,k)).lookup x=some k ->
  ∃ k',(x,k')∈names/\(k'=k∨(k'=.free /\k=.cell))
 | [],h=>by simp at h
 | (n,k0)::r,h=>by
  rw[z0c] at h;have ih:=@Fy env x k r
  by_cases hc:(k0==z3Q&&env.scope.kind==.function&&env.kindOf n==some .cell)=true
  ·simp only[hc,if_true] at h;rw[z0r] at h;split at h
   ·rename_i e;have e':x=n:=by simpa using e
    subst e';have hk0:k0=.free :=by
     rw[z0Q,z0Q] at hc;simpa using hc.1.1
    cases h;exact⟨k0,z0O,.inr ⟨hk0,rfl⟩⟩
   ·obtain⟨k',h1,h2⟩:=ih h;exact⟨k',z0y _ h1,h2⟩
  ·simp only[hc,if_false] at h;rw[z0r] at h;split at h
   ·rename_i e;have e':x=n:=by simpa using e
    subst e';cases h;exact⟨k0,z0O,.inl rfl⟩
   ·obtain⟨k',h1,h2⟩:=ih h;exact⟨k',z0y _ h1,h2⟩
def DK (ts N:List Str):List Str:=N.map λ y=>if y∈ts then z3L else y
abbrev Ez (t:Str) (N:List Str):List Str:=DK [t] N
abbrev Cg (X:Cx) (scope:z26) (N2:List Str) (s2:z03) (H2:Hp) (fp:List Addr):Cx:=
 { X with N:=N2,s₀:=s2,H₀:=H2,env:=compEnvC scope (clOf X.env.cells scope.names []) (s2.heap.objs.size+1) X.env,outer:=X.stack,ex:=fp,fn:=λ _=>false,pn:=[],xe:=λ _ _=>False }
structure CompOkL (X:Cx) (scope:z26) (ts:List Str):Prop where
 nocell:∀ y∈scope.names,y.2≠.cell
 kind:scope.kind=.function
 names:∀ y∈scope.names,y.2=.local ->scope.names.lookup y.1=some .local
 tl:∀ t∈ts,scope.names.lookup t=some .local
 loc:∀ y∈scope.names,y.2=.local ->y.1∈ts∨y.1∉X.N
 fre:∀ y∈scope.names,y.2=.free ->X.env.kindOf y.1=some .cell ∨X.env.kindOf y.1=some .free
 emp:∀ y∈scope.names,y.1≠z3L
 nd:(DK ts X.N++ts).Nodup
section
variable {t:Str}{ts:List Str}
theorem CompOkL.cells (c:CompOkL X scope ts) (ok:X.Ok):∀ y∈scope.names,y.2=.free ->∃ c,X.env.cells.lookup y.1=some c:=λ y hy hf=>ok.has y.1 (c.fre y hy hf)
theorem CompOkL.sub (c:CompOkL X scope ts) (ok:X.Ok) {x:Str}{a:Addr}(h:(clOf X.env.cells scope.names []).lookup x=some a):X.env.cells.lookup x=some a:=by
 rcases Ra (c.cells ok) h with q | q
 ·simp at q
 ·exact q
theorem CompOkL.inv {h1:Heap}{tk:Nat}(c:CompOkL X scope ts) (I:Inv X π σ H s) (hf:∀ b∈fp,FpOk X π H b) (ho:∀ b∈fp,∃ o,s.heap.get? b=some o)
  (hns:h1.Ns .(7) (λ _=>none)) (kp:∀ b o,s.heap.get? b=some o->h1.get? b=some o) (hacc:h1.get? s.heap.objs.size=some { cls:=.type "list",data:=.seq #[] }) :
  Inv (Cg X scope (DK ts X.N++ts) s H fp) [] (σ++z4i ts.length none) (upd H s.heap.objs.size (.lst [])) { s with heap:=h1,toks:=tk }:=by
 have lt_of:∀ b o,s.heap.get? b=some o->b<s.heap.objs.size:=λ b o e=>z0g e;have ok':(Cg X scope (DK ts X.N++ts) s H fp).Ok:=by
  refine⟨I.ok.mod,c.kind,I.ok.glob,I.ok.blt,z1O _,λ x y a h1 h2=>I.ok.inj x y a (c.sub I.ok h1) (c.sub I.ok h2),λ x hx=>?_,λ x a h _=>absurd (show false=true from h) z0D,I.ok.hd,I.ok.frames,.inl rfl,λ b hb=>⟨?_,λ x a h=>?_⟩,I.bs,z0A I.ok.bsz I.sz,λ b o e hb=>?_,λ b hb hs=>?_,I.stack,I.stkFree⟩
  ·have hx':(z2A scope X.env).names.lookup x=some .cell ∨(z2A scope X.env).names.lookup x=some .free :=hx;have go:∀ k,(z2A scope X.env).names.lookup x=some k->(k=.cell ∨k=.free)->(x,z3Q)∈scope.names:=λ k hk hkk=>by
    obtain⟨k',m,e⟩:=Fy hk
    rcases e with e | ⟨e,_⟩
    ·subst e
     rcases hkk with z | z
     ·exact absurd z (c.nocell _ m)
     ·rw[<-z];exact m
    ·rw[<-e];exact m
   rcases hx' with h | h
   ·exact Kw (go _ h (.inl rfl))
   ·exact Kw (go _ h (.inr rfl))
  ·obtain⟨o,e⟩:=ho b hb;exact z0j (z2o (lt_of b o e))
  ·exact (hf b hb).2.2.2.2.1 x a (c.sub I.ok h)
  ·rcases (hf b hb).2.2.2.1 with z | z
   ·exact I.ok.noex b o e z
   ·exact absurd (z0X (z0g e) (z0A I.ok.bsz z)) (z1l _)
  ·rcases z0i.mp (I.stkSub b hs) with z | z
   ·exact (hf b hb).2.1 z
   ·exact (hf b hb).2.2.1 z
 have fr:H s.heap.objs.size=none:=I.hok.fresh (z06 _);have new:BV X.prog X.w (upd H s.heap.objs.size (.lst [])) h1 s.heap.objs.size (.lst []):=⟨z19 _,[],0,.nil,hacc⟩;refine⟨ok',rfl,I.bare,Un.laid kp (z06 _) fr,⟨_,hns,λ i x v e1 e2 e3=>?_⟩,λ x a h=>?_,?_,λ x a h=>?_,λ p hp=>absurd (show p∈([]:zP) from hp) (by simp),I.hok.laid kp (z06 _) new,?_⟩
 ·have e1':(DK ts X.N++ts)[i]?=some x:=e1;have hil:i<σ.length:=by
   by_cases z:i<σ.length
   ·exact z
   ·rw[z1Y (by omega),z6p] at e2;split at e2<;>cases e2
  have e2':σ[i]?=some (some v):=by rw[z2c hil] at e2;exact e2
  have hN:i<X.N.length:=by rw[<-I.len];exact hil
  have e1'':(DK ts X.N)[i]?=some x:=by rw[z2c (by unfold DK;rw[z07];exact hN)] at e1';exact e1'
  unfold DK at e1'';rw[z0q] at e1'';have e3':(z2A scope X.env).names.lookup x=some .local ∨(z2A scope X.env).names.lookup x=some .cell ∨(z2A scope X.env).names.lookup x=some .free :=e3;have hin:∃ k',(x,k')∈scope.names/\(k'=.local ∨k'=.free)/\(k'=.free ->(z2A scope X.env).names.lookup x=some .cell ∨(z2A scope X.env).names.lookup x=some .free):=by
   rcases e3' with z | z | z
   ·obtain⟨k',m,e⟩:=Fy z
    rcases e with e | ⟨_,e⟩
    ·exact⟨k',m,.inl e,λ q=>by rw[q] at e;cases e⟩
    ·cases e
   ·obtain⟨k',m,e⟩:=Fy z
    rcases e with e | ⟨e,_⟩
    ·exact absurd e (c.nocell _ m)
    ·exact⟨k',m,.inr e,λ _=>.inl z⟩
   ·obtain⟨k',m,e⟩:=Fy z
    rcases e with e | ⟨e,q⟩
    ·exact⟨k',m,.inr e,λ _=>.inr z⟩
    ·cases q
  cases ey:X.N[i]? with
  | none=>rw[ey] at e1'';cases e1''
  | some y=>
   rw[ey] at e1'';have e1z:(if y∈ts then z3L else y)=x:=z0w e1'';obtain⟨k',m,hk',hfr⟩:=hin
   by_cases hyt:y∈ts
   ·rw[if_pos hyt] at e1z;exact absurd e1z.symm (c.emp _ m)
   ·rw[if_neg hyt] at e1z;subst e1z
    rcases hk' with hk' | hk'
    ·rcases c.loc _ m hk' with z | z
     ·exact absurd z hyt
     ·exact absurd (z3d ey) z
    ·have hkk:=c.fre _ m hk';have hkk':X.env.kindOf y=some .cell ∨X.env.kindOf y=some .free :=hkk;obtain⟨mm,hn,hl⟩:=I.loc;have hv:Vis X.env.scope y:=by
      rcases hkk' with z | z
      ·exact .inr (.inl z)
      ·exact .inr (.inr z)
     obtain⟨u,r,l⟩:=hl i y v ey e2' hv;refine⟨u,r,.inr ⟨hfr hk',?_⟩⟩
     rcases l with ⟨kl,_⟩ | ⟨_,a,ea,hc⟩
     ·rcases hkk' with z | z
      ·rw[kl] at z;cases z
      ·rw[kl] at z;cases z
     ·rw[hk'] at m;obtain⟨a',ha'⟩:=Kw (cells:=X.env.cells) (cs:=[]) m;refine⟨a',ha',?_⟩;have:=c.sub I.ok ha';rw[ea] at this;cases this;obtain⟨o,e,d⟩:=hc;exact⟨o,kp _ _ e,d⟩
 ·obtain⟨v,o,e,d⟩:=I.cell x a (c.sub I.ok h);exact⟨v,o,kp _ _ e,d⟩
 ·show upd H s.heap.objs.size (.lst []) .(7)=none;rw[Ak (z6H _)];exact I.hok.fresh (z1O _)
 ·have ha:=c.sub I.ok h;obtain⟨v,o,e,d⟩:=I.cell x a ha;rw[Ak (z0j (lt_of _ _ e))];exact I.freeC x a ha
 ·show (σ++z4i ts.length none).length=(DK ts X.N++ts).length;unfold DK;rw[z0L,z0L,z07,I.len,z4k]
def fC (n:Nat) (wi:TI) (g:TG) (tc:TT) (te:TE):TE:=λ σ H Q=>wi σ H λ J H1=>∀ p,H1 p=none->∃ W:Nat->Nat->List V->Hp->Prop,(∃ m,W 0 m [] (upd H1 p (.lst []))) ∧
 ∀ i m ys H,W i m ys H->(J.stop i H/\Q (.ref p) H)∨(J.go i H/\∀ x H',J.yld i H x H'->∀ os:List (Option V),os.length=n->g x (σ++os) H' λ σ2 H1=>(∃ o2,σ2=σ++o2/\o2.length=n)/\tc σ2 H1 λ b H2=>
  if b=true then te σ2 H2 λ y H3=>H3 p=some (.lst ys)/\ys.length<sizeLine/\∃ m',m'<m/\W (i+1) m' (ys++[y]) (upd H3 p (.lst (ys++[y]))) else ∃ m',m'<m/\W (i+1) m' ys H2)
def PTs (X:Cx) (ifs:List Expr) (tc:TT):Prop:=
 ∀ (π:zP) (s:z03) (σ:St) (H:Hp) (Q:Bool->Hp->Prop),Inv X π σ H s->tc σ H Q ->
  z02 .(0) X.A (forIn ifs true λ c r=>if r=true then do let ok <-z2G c X.env (eval c X.env);pure (z3R ok) else pure (z3R r)) (TP X π σ Q) X.xe s
theorem nH:PTs X [] (λ _ H Q=>Q true H):=λ _ _ _ H _ I h=>wpAny_tests_nil ⟨H,I,h⟩
theorem nJ (h:PT X e tc):PTs X [e] tc:=λ π s σ H Q I q=>wpAny_tests_one (h π s σ H Q I q)
variable {elt iter:Expr}{ifs:List Expr}{px:Pos}{wi:TI}{g:TG}
theorem Xu {A:z0a}{R:z2u->z03->Prop}{itv acc:z00}(J:Nat->z03->Prop) (E:z00->z03->Prop) (hE:E=notedBy (z04 prog w) A env λ e s'=>R (.error e) s')
    (go:∀ n s,J n s->z02 (z04 prog w) A (z0K itv) (λ r s1=>match r with
      | none=>R (.ok .next) s1
      | some v=>z02 (z04 prog w) A (z50 tg itv v) (λ _ s2=>z02 (z04 prog w) A (z3I tg env v) (λ _ s3=>
          z02 (z04 prog w) A (forIn ifs true λ c r=>if r=true then do let ok <-z2G c env (eval c env);pure (z3R ok) else pure (z3R r)) (λ ok s4=>
            if ok=true then z02 (z04 prog w) A (eval elt env) (λ x s5=>z02 (z04 prog w) A (call (.builtin "list.append") [acc,x]) (λ _ s6=>∃ m,m<n/\J m s6) E s5) E s4 else ∃ m,m<n/\J m s4) E s3) E s2) E s1) E s)
    (n:Nat) (j0:J n s):z0Z (z04 prog w) A (.compLoop .(44) 0 itv acc env) R s:=by
  subst hE;refine codeAny_loop rfl J (λ n s jn=>?_) n j0;show z02 _ A (Sem.onRaise (compTurn .(44) 0 itv acc env) (λ x=>do noteFrame x env;theTreesLotGoes x)) _ _ s;refine wpAny_noted ?_;rw[compTurn_list];refine z01 (z6m (z01 (thn (go n s jn) λ r s1 q1=>?_)));cases r with
  | none=>exact z05 q1
  | some v=>
    refine z01 (thn q1 λ _ s2 q2=>z01 (thn q2 λ _ s3 q3=>z01 (thn q3 λ ok s4 q4=>?_)));cases ok with
    | false=>exact z05 ⟨rfl,q4⟩
    | true=>exact z01 (z01 (thn q4 λ x s5 q5=>z01 (thn q5 λ _ s6 q6=>z05 (z05 ⟨rfl,q6⟩))))
theorem Xv {Q:VK}{tn:Nat->Heap->Prop}{J:It}{RR:z00->Addr->z2u->z03->Prop}(c:CompOkL X scope ts) (hc:X.calm=true)
    (I:Inv X π σ H s) (T:Turn X.prog X.w X.K tg J fp it tn) (st0:tn 0 s.heap) (hf:∀ b∈fp,FpOk X π H b)
    (hG:∀ s2 H2 fp,PG (Cg X scope (DK ts X.N++ts) s2 H2 fp) tg g) (hI:∀ s2 H2 fp,PTs (Cg X scope (DK ts X.N++ts) s2 H2 fp) ifs tc) (hE:∀ s2 H2 fp,PE (Cg X scope (DK ts X.N++ts) s2 H2 fp) elt te)
    (h:∀ p,H p=none->∃ W:Nat->Nat->List V->Hp->Prop,(∃ m,W 0 m [] (upd H p (.lst []))) ∧
      ∀ i m ys H,W i m ys H->(J.stop i H/\Q (.ref p) H)∨(J.go i H/\∀ x H',J.yld i H x H'->∀ os:List (Option V),os.length=ts.length->g x (σ++os) H' λ σ2 H1=>(∃ o2,σ2=σ++o2/\o2.length=ts.length)/\tc σ2 H1 λ b H2=>
        if b=true then te σ2 H2 λ y H3=>H3 p=some (.lst ys)/\ys.length<sizeLine/\∃ m',m'<m/\W (i+1) m' (ys++[y]) (upd H3 p (.lst (ys++[y]))) else ∃ m',m'<m/\W (i+1) m' ys H2))
    (hRR:∀ p C s' H' m,Inv X π σ H' s'->H' C=none->C≠X.env.locals->X.s₀.heap.objs.size<=C->(∀ x a,X.env.cells.lookup x=some a->a≠C)->(∀ q∈X.pn++π,q.1≠C)->s'.heap.Ns C m->Q (.ref p) H'->RR (.ref p) C (.ok .next) s') :
    z02 .(0) X.A (newList []) (λ acc s₃=>z02 .(0) X.A (newFunctionEnv scope X.env.globals (clOf X.env.cells scope.names []) [] X.env.qual none .none (some X.env)) (λ cenv s₄=>
      z0Z .(0) X.A (.compStart .(44) 0 (.ref it) acc { cenv with scope:=z2A scope X.env }) (RR acc cenv.locals) s₄) E s₃) E s:=by
  refine z1Q (wpAny_newFunctionEnv c.nocell (by intro y hy;simp at hy) (λ h₁ hns₁ hsb₁=>?_) c.kind);dsimp only at hns₁ hsb₁ ⊢;generalize hH2:s.heap.push { cls:=.type "list",dict:=none,data:=.seq ([]:List z00).toArray }=G2 at hns₁ hsb₁ ⊢;have hC:G2.objs.size=s.heap.objs.size+1:=by rw[<-hH2,z1w]
  rw[hC] at hns₁ hsb₁ ⊢;have kp:∀ b o,s.heap.get? b=some o->h₁.get? b=some o:=λ b o e=>hsb₁.extBut b o (z0j (z2o (z0g e))) (z0e _ (hH2▸z0e _ e));have hacc:h₁.get? s.heap.objs.size=some { cls:=.type "list",data:=.seq #[] }:=hsb₁.extBut _ _ (z0j (z4f _)) (z0e _ (hH2▸z0l _ rfl));have hob:∀ b∈fp,∃ o,s.heap.get? b=some o:=λ b hb=>let ⟨o,e,_⟩:=T.obj 0 _ st0 b hb;⟨o,e⟩;have I0:=c.inv (fp:=fp) (h1:=h₁) (tk:=s.toks+([]:List (Str×z00)).length) I hf hob (by simpa using hns₁) kp hacc;have fr:H s.heap.objs.size=none:=I.hok.fresh (z06 _);obtain⟨W,⟨m0,w0⟩,turn⟩:=h _ fr;have st1:tn 0 h₁:=T.keep 0 _ _ st0 λ b _ o e=>kp b o e;generalize hX:Cg X scope (DK ts X.N++ts) s H fp=Y at I0;have hcY:Y.calm=true:=by rw[<-hX];exact hc
  have stat:∀ {H':Hp},(∀ b∈fp,H' b=none)->∀ b∈fp,FpOk Y [] H' b:=λ {H'} hn b hb=>by
    obtain⟨o,e⟩:=hob b hb;refine⟨hn b hb,?_,?_,.inl ?_,λ x a e'=>?_,λ p hp=>?_⟩
    · rw[<-hX];exact z0j (z2o (z0g e))
    · intro z
      exact I0.ok.exfs b (by rw[<-hX];exact hb) z
    · rw[<-hX];exact hb
    · exact (I0.ok.exf b (by rw[<-hX];exact hb)).2 x a e'
    · rw[<-hX] at hp
      exact absurd (show p∈([]:zP) from hp) (by simp)
  have fp0:∀ b∈fp,upd H s.heap.objs.size (.lst []) b=none:=λ b hb=>by
    obtain⟨o,e⟩:=hob b hb;rw[Ak (z0j (z0g e))];exact (hf b hb).1
  have envY:Y.env=compEnvC scope (clOf X.env.cells scope.names []) .(7) X.env:=by rw[<-hX]
  have pY:Y.prog=X.prog:=by rw[<-hX]
  have wY:Y.w=X.w:=by rw[<-hX]
  have aY:Y.A=X.A:=by rw[<-hX]
  have kY:Y.K=X.K:=by rw[<-hX]
  have xY:Y.xe=λ _ _=>False:=by rw[<-hX]
  have hIY:PTs Y ifs tc:=by rw[<-hX];exact hI s H fp
  have hEY:PE Y elt te:=by rw[<-hX];exact hE s H fp
  have hGY:PG Y tg g:=by rw[<-hX];exact hG s H fp
  have loop:∀ s₃:z03,s₃={ s with heap:=h₁,toks:=s.toks+([]:List (Str×z00)).length } ->
      z0Z .(0) X.A (.compLoop .(44) 0 (.ref it) .(6) (compEnvC scope (clOf X.env.cells scope.names []) .(7) X.env)) (RR .(6) .(7)) s₃:=by
    rintro s₃ rfl;rw[<-envY];refine Xu (λ n s'=>∃ i ys os H',os.length=ts.length/\Inv Y [] (σ++os) H' s'/\tn i s'.heap/\(∀ b∈fp,H' b=none)/\W i n ys H') _ rfl ?_ m0 ⟨0,[],_,_,z4k,I0,st1,fp0,w0⟩;rintro n s3 ⟨i,ys,os,H3,hos,I3,st3,fr3,w3⟩
    rcases turn i n ys H3 w3 with ⟨stop,qn⟩ | ⟨go,step⟩
    · have d:=T.done Y pY wY kY hcY i [] s3 _ H3 (λ _ _=>False) I3 (stat fr3) st3 stop
      rw[aY] at d;refine z1s d (λ r s4 ⟨hr,I4⟩=>?_) λ _ _ z=>z.elim;subst hr;have cN:=I4.free;have cN':H3 .(7)=none:=by rw[envY] at cN;exact cN
      have un:=I4.base;obtain⟨m,hm,_⟩:=I4.loc;have hm':s4.heap.Ns .(7) m:=by rw[envY] at hm;exact hm
      have un':Un (frs X.stack) fp H H3 s.heap s4.heap:=by rw[<-hX] at un;exact un
      have os':s4.os=s.os:=by have:=I4.os;rw[<-hX] at this;exact this
      have hok':HOk X.prog X.w H3 s4.heap:=by have:=I4.hok;rw[<-hX] at this;exact this
      have bare':=I4.bare;have IX:Inv X π σ H3 s4:=I.call' os' un' hok' bare' λ b hb=>⟨(hf b hb).2.2.2.1,(hf b hb).2.1,(hf b hb).2.2.2.2.1,(hf b hb).2.2.2.2.2⟩;refine hRR _ _ _ _ m IX cN' (z2I (z2o I.lt)) (z0A I.sz (z1O _)) (λ x a e z=>?_) (λ q hq z=>?_) hm' qn
      · obtain⟨v,oc,e',_⟩:=I.cell x a e
        have q2:a<s.heap.objs.size:=z0g e';have z':a=s.heap.objs.size+1:=z;exact absurd (z'▸q2) (z1_.mpr (z1O _))
      · have q2:q.1<s.heap.objs.size:=z0g (I.pin q hq).1
        have z':q.1=s.heap.objs.size+1:=z;exact absurd (z'▸q2) (z1_.mpr (z1O _))
    · have d:=T.item Y pY wY kY hcY i [] s3 _ H3 (λ _ _=>False) I3 (stat fr3) st3 go
      rw[aY] at d;refine z1s d (λ r s4 ⟨u,hr,h4⟩=>?_) λ _ _ z=>z.elim;subst hr;refine z1s h4 (λ _ s4 ⟨x,H5,I5,r5,y5,st5,fr5⟩=>?_) λ _ _ z=>z.elim;have I5':=I5.pinned (stat fr5) (T.obj _ _ st5);have asg:=hGY _ s4 _ H5 x u _ I5' r5 (step x H5 y5 os hos);rw[aY,pY,wY,xY] at asg;refine z1s asg (λ _ s6 ⟨σ6,H6,I6,⟨o2,e6,l6⟩,q⟩=>?_) λ _ _ z=>z.elim;subst e6;have tst:=hIY _ s6 _ H6 _ I6 q;rw[aY,pY,wY,xY] at tst;refine z1s tst (λ b s7 ⟨H7,I7,q7⟩=>?_) λ _ _ z=>z.elim;have back:∀ {H8:Hp}{s8:z03},Inv Y ([]++RP fp s4.heap) (σ++o2) H8 s8->tn (i+1) s8.heap/\∀ b∈fp,H8 b=none:=λ {H8 s8} I8=>by
        refine⟨T.keep _ _ _ st5 λ b hb ob e=>(I8.pin (b,ob) (z28 _ (z28 _ (Jy hb e)))).1,λ b hb=>?_⟩;obtain⟨ob,e,d⟩:=T.obj _ _ st5 b hb;exact (I8.pin (b,ob) (z28 _ (z28 _ (Jy hb e)))).2.1
      cases b with
      | false=>
        rw[if_neg z0D] at q7 ⊢;obtain⟨m',hm,w7⟩:=q7;obtain⟨t7,f7⟩:=back I7;exact⟨m',hm,i+1,ys,o2,H7,l6,I7.unpinned,t7,f7,w7⟩
      | true=>
        rw[if_pos rfl] at q7 ⊢;have ev:=hEY _ s7 _ H7 _ I7 q7;rw[aY,pY,wY,xY] at ev;refine z1s ev (λ y s8 ⟨yv,H8,I8,r8,hp8,hz8,m',hm,w8⟩=>?_) λ _ _ z=>z.elim;have ap:=Tr (X:=Y) _ s8 _ H8 .(6) [yv] .(6) [y] (λ _ H9=>H9=upd H8 s.heap.objs.size (.lst (ys++[yv]))) I8 rfl (.cons r8 .nil) ⟨_,ys,yv,rfl,rfl,hp8,hz8,rfl⟩;rw[aY,pY,wY,xY] at ap;refine z1s ap (λ _ s9 ⟨_,H9,I9,_,e9⟩=>?_) λ _ _ z=>z.elim;subst e9;obtain⟨t9,f9⟩:=back I9;exact⟨m',hm,i+1,_,o2,_,l6,I9.unpinned,t9,f9,w8⟩
  exact codeAny_compStart_list (loop _ rfl) (T.self X.A 0 _ _ _ st1 (loop _ rfl))
theorem fD (c:CompOkL X scope ts) (hc:X.calm=true) (hi:PI X tg iter wi) (hG:∀ s2 H2 fp,PG (Cg X scope (DK ts X.N++ts) s2 H2 fp) tg g) (hI:∀ s2 H2 fp,PTs (Cg X scope (DK ts X.N++ts) s2 H2 fp) ifs tc) (hE:∀ s2 H2 fp,PE (Cg X scope (DK ts X.N++ts) s2 H2 fp) elt te)
  (hs:∀ x,z3c iter X.env x=pure x:=by intro _;rfl):PE X .(44) (fC ts.length wi g tc te):=by
 intro π s σ H Q I h;rw[eval_ListComp];refine wpAny_comprehension_free (use:=none) rfl hs (TX (c.cells I.ok)) c.kind c.names (thn (hi π s σ H _ I h) λ v s1 h1=>thn h1 λ itv s2 h2=>?_);obtain⟨it,fp,tn,J,H2,e,I2,T,st2,f2,q⟩:=h2;subst e;refine Xv (Q:=Q) c hc I2 T st2 f2 hG hI hE q λ p C s' H' m I' n1 n2 n3 n4 n5 hm q'=>?_;exact⟨m,hm,λ h' sb=>⟨.ref p,H',I'.turned (t':=s'.toks) (λ b o hb e=>(sb.2 b hb).trans e) n1 (z0n (z0n n2)) (.inr n3) n4 n5,rfl,q'⟩⟩
abbrev Rb (X:Cx) (scope:z26) (t:Str):Prop:=CompOkL X scope [t]
abbrev Xw (X:Cx) (scope:z26) (t:Str) (s2:z03) (H2:Hp) (fp:List Addr):Cx:=Cg X scope (Ez t X.N++[t]) s2 H2 fp
theorem gOne (c:Rb X scope t) (s2:z03) (H2:Hp) (fp:List Addr):PG (Xw X scope t s2 H2 fp) (.Name t px) (Hq X.N.length):=
 Qx c.nd (by show (Ez t X.N++[t])[X.N.length]?=some t;unfold Ez DK;rw[z1Y (by rw[z07];exact z06 _),z07,z3k];rfl) (.inl (z5g (c.tl t (z2d.mpr rfl)))) (.inr (z5g (c.tl t (z2d.mpr rfl))))
def rK (X:Cx) (wi:TI):TI:=λ σ H R=>∃ R0,wi σ H R0/\∀ J H1,σ.length=X.N.length->R0 J H1->R J H1
theorem nM (hi:PI X tg iter wi):PI X tg iter (rK X wi):=λ π s σ H R I ⟨R0,h0,hm⟩=>
 thn (hi π s σ H R0 I h0) λ v s1 h1=>thn h1 λ itv s2 ⟨it,fp,tn,J,H',e,I',T,st,f,r⟩=>⟨it,fp,tn,J,H',e,I',T,st,f,hm J H' I.len r⟩
end
end L2
namespace PV
open PySem L2
inductive D where
 | non | bl (b:Bool) | int (i:Int) | str (x:Str) | tup (ds:List D) | lst (ds:List D)
 | dk (kvs:List (Key×D)) | dt (kvs:List (List Key×D)) | ob (c:Str) (fs:List (Str×D)) | adr (a:Addr) | exc (c:Str) (fs:List (Str×D)) | err (c:Str) (fs:List (Str×D)) | mem (F:List (List Key)->Int)
inductive Slot where
 | un | fz (d:D) | ow (d:D)
abbrev Rho:=List Slot
abbrev FE:=Rho->Option D
abbrev FA:=Rho->Option (List D)
abbrev FT:=Rho->Option Bool
abbrev FO:=Rho->Option (Option Int)
abbrev FI:=Rho->Option (List D)
def vF (i:Nat):FE:=λ ρ=>match ρ[i]? with | some (.fz d)=>some d | _=>none
def vU (i:Nat):FE:=λ ρ=>match ρ[i]? with | some (.fz d)=>some d | some (.ow d)=>some d | _=>none
def kF (d:D):FE:=λ _=>some d
def bF (g:D->D->Option D) (fa fb:FE):FE:=λ ρ=>(fa ρ).bind λ x=>(fb ρ).bind λ y=>g x y
def uF (g:D->Option D) (fa:FE):FE:=λ ρ=>(fa ρ).bind g
def blF (f:FE):FT:=λ ρ=>match f ρ with | some (.bl b)=>some b | _=>none
def iiD (g:Int->Int->Option D):D->D->Option D:=λ x y=>match x,y with | .int i,.int j=>g i j | _,_=>none
instance (i j:Int):Decidable (CMul i j):=by unfold CMul;infer_instance
instance (i j:Int):Decidable (CDiv i j):=by unfold CDiv;infer_instance
instance (i j:Int):Decidable (CPow i j):=by unfold CPow;infer_instance
def subD:=iiD λ i j=>some (.int (i-j))
def Mi (i j:Int):Prop:=CMul i j∨(z1q i<=4194304/\z1q j<=4194304)
instance (i j:Int):Decidable (Mi i j):=by unfold Mi;infer_instance
def CShl (i j:Int):Prop:=0<=j/\j<=1000000/\z1q i<=4194304
instance (i j:Int):Decidable (CShl i j):=by unfold CShl;infer_instance
def mulD:=iiD λ i j=>if Mi i j then some (.int (i*j)) else none
def JD:=iiD λ i j=>if CDiv i j then some (.int (i/j)) else none
def modD:=iiD λ i j=>if 0<j then some (.int (i%j)) else none
def shlD:=iiD λ i j=>if CShl i j then some (.int (i*2^j.toNat)) else none
def shrD:=iiD λ i j=>if 0<=j then some (.int (i/2^j.toNat)) else none
def Y_:=iiD λ i j=>some (.int (z3J i j))
def ltD:=iiD λ i j=>some (.bl (decide (i<j)))
def leD:=iiD λ i j=>some (.bl (decide (i<=j)))
def gtD:=iiD λ i j=>some (.bl (decide (j<i)))
def geD:=iiD λ i j=>some (.bl (decide (j<=i)))
def addD:D->D->Option D:=λ x y=>match x,y with
 | .int i,.int j=>some (.int (i+j))
 | .str i,.str j=>if i.length+j.length<=sizeLine then some (.str (i++j)) else none
 | .lst i,.lst j=>if i.length+j.length<=sizeLine then some (.lst (i++j)) else none
 | _,_=>none
def andF (fa fb:FE):FE:=λ ρ=>match fa ρ with | some (.bl true)=>fb ρ | some (.bl false)=>some (.bl false) | _=>none
def notF (fa:FE):FE:=λ ρ=>match fa ρ with | some (.bl b)=>some (.bl (!b)) | _=>none
def andT (fa fb:FT):FT:=λ ρ=>match fa ρ with | some true=>fb ρ | some false=>some false | none=>none
def orT (fa fb:FT):FT:=λ ρ=>match fa ρ with | some true=>some true | some false=>fb ρ | none=>none
def notT (fa:FT):FT:=λ ρ=>(fa ρ).map (!·)
def truD:D->Option Bool
 | .non=>some false
 | .bl b=>some b
 | .int i=>some (i != 0)
 | .str y=>if y.length<=sizeLine then some ((y.length:Int) != 0) else none
 | .lst ds=>some (!ds.isEmpty)
 | .tup ds=>some (!ds.isEmpty)
 | _=>none
def trF (f:FE):FT:=λ ρ=>(f ρ).bind truD
def ifF (t:FT) (fa fb:FE):FE:=λ ρ=>match t ρ with | some true=>fa ρ | some false=>fb ρ | none=>none
def nilA:FA:=λ _=>some []
def Aa (fa:FE) (fs:FA):FA:=λ ρ=>(fa ρ).bind λ d=>(fs ρ).map (d::·)
def tupF (fs:FA):FE:=λ ρ=>(fs ρ).bind λ ds=>if ds.length<=sizeLine then some (.tup ds) else none
def lstF (fs:FA):FE:=λ ρ=>(fs ρ).bind λ ds=>if ds.length<=sizeLine then some (.lst ds) else none
def ixD:D->D->Option D:=λ x y=>match x,y with
 | .lst ds,.int i=>atI ds i
 | .tup ds,.int i=>atI ds i
 | .str z,.int i=>if z.length<=sizeLine then (atI z.cps.toList i).map λ c=>.str ⟨#[c]⟩ else none
 | _,_=>none
def noO:FO:=λ _=>some none
def someO (f:FE):FO:=λ ρ=>match f ρ with | some (.int i)=>some (some i) | _=>none
def cutD {α:Type}(ds:List α) (lo hi:Option Int):List α:=(ds.drop (HT.sIx ds.length 0 lo)).take (HT.sIx ds.length ds.length hi-HT.sIx ds.length 0 lo)
def cutS (z:Str) (lo hi:Option Int):Str:=⟨(cutD z.cps.toList lo hi).toArray⟩
def slD (x:D) (lo hi:Option Int):Option D:=match x with
 | .lst ds=>some (.lst (cutD ds lo hi))
 | .tup ds=>if HT.sIx ds.length 0 lo=0/\HT.sIx ds.length ds.length hi=ds.length then none else some (.tup (cutD ds lo hi))
 | .str z=>if z.length<=sizeLine then some (.str (cutS z lo hi)) else none
 | _=>none
def slF (f:FE) (l h:FO):FE:=λ ρ=>(f ρ).bind λ x=>(l ρ).bind λ lo=>(h ρ).bind λ hi=>slD x lo hi
def flV:D->Option V
 | .non=>some .non
 | .bl b=>some (.bl b)
 | .int i=>some (.int i)
 | .str x=>some (.str x)
 | _=>none
def flVs:List D->Option (List V)
 | []=>some []
 | d::r=>(flV d).bind λ v=>(flVs r).map (v::·)
def inD (neg:Bool):D->D->Option D:=λ x y=>match x,y with
 | .str i,.str j=>some (.bl (if neg then !(!(z2J j i 0 j.length 1).isEmpty) else !(z2J j i 0 j.length 1).isEmpty))
 | x,.lst ds=>(flV x).bind λ v=>(flVs ds).map λ vs=>.bl (if neg then !inV v vs else inV v vs)
 | x,.tup ds=>(flV x).bind λ v=>(flVs ds).map λ vs=>.bl (if neg then !inV v vs else inV v vs)
 | _,_=>none
def allO (f:D->D->Option Bool):List D->List D->Option Bool
 | [],[]=>some true
 | x::xs,y::ys=>match f x y,allO f xs ys with | some a,some b=>some (a&&b) | _,_=>none
 | _,_=>none
def flD (x y:D):Option Bool:=(flV x).bind λ u=>(flV y).map λ v=>eqV u v
def eqS (f:D->D->Option Bool):D->D->Option Bool
 | .lst xs,.lst ys=>if xs.length=ys.length then allO f xs ys else some false
 | .tup xs,.tup ys=>if xs.length=ys.length then allO f xs ys else none
 | x,y=>flD x y
def eqK:Nat->D->D->Option Bool
 | 0=>flD
 | n+1=>eqS (eqK n)
def eqvD (x y:D):Option Bool:=match x,y with
 | .int i,.int j=>some (decide (i=j))
 | .str i,.str j=>some (decide (i=j))
 | .bl i,.bl j=>some (decide (i=j))
 | .lst xs,.lst ys=>if xs.length=ys.length then allO (eqK 180) xs ys else some false
 | .tup xs,.tup ys=>if xs.length=ys.length then allO (eqK 180) xs ys else none
 | _,_=>none
def eqD (neg:Bool) (x y:D):Option D:=(eqvD x y).map λ b=>.bl (if neg then !b else b)
def lenD:D->Option D
 | .str y=>if y.length<=sizeLine then some (.int y.length) else none
 | .lst ds=>some (.int ds.length)
 | .tup ds=>some (.int ds.length)
 | _=>none
def maxD:=iiD λ i j=>some (.int (if j > i then j else i))
def minD:=iiD λ i j=>some (.int (if j<i then j else i))
def fG:D->Option D
 | .lst ds=>some (.lst ds)
 | .tup ds=>some (.lst ds)
 | _=>none
def negD:D->Option D
 | .int i=>some (.int (-i))
 | _=>none
def seqI (f:FE):FI:=λ ρ=>match f ρ with | some (.lst ds)=>some ds | some (.tup ds)=>some ds | _=>none
def rngD (n:Nat):List D:=(z0d n).map λ (i:Nat)=>.int i
def rngI (f:FE):FI:=λ ρ=>match f ρ with | some (.int j)=>if -(2^62)<=j/\j<2^62 then some (rngD j.toNat) else none | _=>none
inductive Out where
 | nx (ρ:Rho) | rt (d:D) (ρ:Rho) | bk (ρ:Rho) | ct (ρ:Rho)
abbrev FS:=Rho->Option Out
def nxF:FS:=λ ρ=>some (.nx ρ)
def seqF (g gs:FS):FS:=λ ρ=>match g ρ with | some (.nx ρ')=>gs ρ' | o=>o
def ifS (t:FT) (g gs:FS):FS:=λ ρ=>match t ρ with | some true=>g ρ | some false=>gs ρ | none=>none
def setF (i:Nat) (f:FE):FS:=λ ρ=>(f ρ).map λ d=>.nx (ρ.set i (.fz d))
def retF (f:FE):FS:=λ ρ=>(f ρ).map λ d=>.rt d ρ
def Fw (f:FE):FS:=λ ρ=>(f ρ).map λ _=>.nx ρ
def badF:FS:=λ _=>none
def forF (b:D->FS):List D->FS
 | [],ρ=>some (.nx ρ)
 | d::r,ρ=>match b d ρ with
  | some (.nx ρ')=>forF b r ρ'
  | some (.ct ρ')=>forF b r ρ'
  | some (.bk ρ')=>some (.nx ρ')
  | some (.rt e ρ')=>some (.rt e ρ')
  | none=>none
abbrev FG:=D->Rho->Option Rho
def Bv (i:Nat):FG:=λ d ρ=>some (ρ.set i (.fz d))
def tgB (tg:FG) (b:FS):D->FS:=λ d ρ=>(tg d ρ).bind b
def forS (src:FI) (tg:FG) (b:FS):FS:=λ ρ=>(src ρ).bind λ ds=>forF (tgB tg b) ds ρ
def Gq (c:FT) (b:FS):Nat->FS
 | 0,_=>none
 | n+1,ρ=>match c ρ with
  | some false=>some (.nx ρ)
  | some true=>(match b ρ with
   | some (.nx ρ')=>Gq c b n ρ'
   | some (.ct ρ')=>Gq c b n ρ'
   | some (.bk ρ')=>some (.nx ρ')
   | some (.rt e ρ')=>some (.rt e ρ')
   | none=>none)
  | none=>none
def Am (g:List D->Option D) (fs:FA):FE:=λ ρ=>(fs ρ).bind g
def Ew (n:Nat) (ds:List D):Rho:=ds.map .fz++z4i (n-ds.length) .un
def runF (n np:Nat) (b:FS) (ds:List D):Option D:=if ds.length=np then (match b (Ew n ds) with | some (.rt d _)=>some d | some (.nx _)=>some .non | _=>none) else none
def Jh (ρ:Rho) (ga:FT) (fe:FE):List D->Option (List D)
 | []=>some []
 | d::r=>match ga (ρ++[.fz d]) with
  | some true=>(fe (ρ++[.fz d])).bind λ y=>(Jh ρ ga fe r).map (y::·)
  | some false=>Jh ρ ga fe r
  | none=>none
def Bb (src:FI) (ga:FT) (fe:FE):FE:=λ ρ=>(src ρ).bind λ ds=>if ds.length<=sizeLine then (Jh ρ ga fe ds).map .lst else none
def allT:FT:=λ _=>some true
def mxN (val:Nat->Int):Nat->Int
 | 0=>val 0
 | k+1=>if val (k+1) > mxN val k then val (k+1) else mxN val k
def Ji:List D->Option (List Int)
 | []=>some []
 | .int i::r=>(Ji r).map (i::·)
 | _::_=>none
def Tv (x y:D):Option D:=match x with
 | .lst ds=>(Ji ds).map λ ns=>if ns=[] then y else .int (mxN (λ i=>ns.getD i 0) (ns.length-1))
 | _=>none
def Mj:List D->Option (List Str)
 | []=>some []
 | .str i::r=>(Mj r).map (i::·)
 | _::_=>none
def tyD:D->Option String
 | .non=>some "NoneType"
 | .bl _=>some "bool"
 | .int _=>some "int"
 | .str _=>some "str"
 | .lst _=>some "list"
 | .tup _=>some "tuple"
 | _=>none
def isiD (T:String) (x:D):Option D:=(tyD x).map λ n=>.bl (n==T||(n=="bool"&&T=="int"))
def ltS (a b:Str):Bool:=decide (a.cps.toList<b.cps.toList)
def insS (x:Str):List Str->List Str
 | []=>[x]
 | y::r=>if ltS x y then x::y::r else if x=y then y::r else y::insS x r
def Fz (xs:List Str):List Str:=xs.foldr insS []
def setW (i:Nat) (f:FE):FS:=λ ρ=>(f ρ).map λ d=>.nx (ρ.set i (.ow d))
def ownO (ρ:Rho) (i:Nat):Option D:=match ρ[i]? with | some (.ow d)=>some d | _=>none
def appL (x v:D):Option D:=match x with | .lst ds=>if ds.length<sizeLine then some (.lst (ds++[v])) else none | _=>none
def mutF (g:D->D->Option D) (i:Nat) (f:FE):FS:=λ ρ=>(f ρ).bind λ v=>(ownO ρ i).bind λ x=>(g x v).map λ y=>.nx (ρ.set i (.ow y))
def frz1 (ρ:Rho) (i:Nat):Rho:=match ρ[i]? with | some (.ow d)=>ρ.set i (.fz d) | _=>ρ
def fzS (is:List Nat) (g:FS):FS:=λ ρ=>g (is.foldl frz1 ρ)
end PV
namespace EX
open PySem PySem.Spec L2
open PyProof.Rows hiding St
def tbV:Option Addr->z00
 | none=>.none
 | some T=>.ref T
def ExcP (a C:Addr) (od tb:Option Addr):Heap->Prop:=λ h=>∃ o vs,h.get? a=some o/\o.cls=.ref C/\o.dict=od/\o.data=.fields vs/\vs.size=6/\vs[1]?=some (tbV tb)
def TbP (T:Addr) (v:z00):Heap->Prop:=λ h=>∃ o ts,h.get? T=some o/\o.data=.fields ts/\ts[3]?=some v/\o.cls=.type "traceback"
abbrev excO (a C:Addr) (od tb:Option Addr):HO:=.ext (ExcP a C od tb)
abbrev tbO (T:Addr) (v:z00):HO:=.ext (TbP T v)
section
variable {e:Addr}{tb:Option Addr}
end
end EX
namespace PV
open PySem PySem.Spec L2
open PyProof.Rows hiding St
structure Gx where
 K:z08
 cl:Str->Option Addr
 xcl:Str->Option Addr:=λ _=>none
 lent:Option Addr:=none
theorem Dl {K:z08}(e:Same H H') (h:SqT K H a xs):SqT K H' a xs:=by
 rcases h with (h | ⟨o,h⟩) | h
 ·exact .inl (.inl (e _ _ h))
 ·exact .inl (.inr ⟨o,e _ _ h⟩)
 ·exact .inr h
theorem Al (h:H p=none) (o:HO):Same H (upd H p o):=λ b u q=>by rw[Ak (Dh q h)];exact q
def FsV (fs:List (Str×V)) (gs:List (Str×D)):Prop:=fs.map (λ p=>(p.1,some p.2))=gs.map λ p=>(p.1,flV p.2)
def XdA (H:Hp) (od:Option Addr) (fs:List (Str×V)):Prop:=match od with | some dx=>H dx=some (.xd fs) | none=>fs=[]
theorem XdA.mono {fs:List (Str×V)}(h:XdA H od fs) (s:Same H H'):XdA H' od fs:=by
 cases od with
 | none=>exact h
 | some dx=>exact s _ _ h
inductive Rep (G:Gx) (H:Hp):V->D->Prop
 | non:Rep G H .non .non
 | bl (b:Bool):Rep G H (.bl b) (.bl b)
 | int (i:Int):Rep G H (.int i) (.int i)
 | str (x:Str):Rep G H (.str x) (.str x)
 | tup {a:Addr}{xs:List V}{ds:List D}:SqT G.K H a xs->xs.length=ds.length->(∀ (i:Nat) x d,xs[i]?=some x->ds[i]?=some d->Rep G H x d)->Rep G H (.ref a) (.tup ds)
 | lst {a:Addr}{xs:List V}{ds:List D}:SqL G.K H a xs->xs.length=ds.length->(∀ (i:Nat) x d,xs[i]?=some x->ds[i]?=some d->Rep G H x d)->Rep G H (.ref a) (.lst ds)
 | dk {a:Addr}{o:Obj}{kvs:List (Key×V)}{kds:List (Key×D)}:H a=some (.frz o (.dK kvs))->kvs.map (·.1)=kds.map (·.1)->(∀ (i:Nat) x d,(kvs.map (·.2))[i]?=some x->(kds.map (·.2))[i]?=some d->Rep G H x d)->Rep G H (.ref a) (.dk kds)
 | dt {a:Addr}{o:Obj}{kvs:List (List Key×V)}{kds:List (List Key×D)}:H a=some (.frz o (.dT kvs))->kvs.map (·.1)=kds.map (·.1)->(∀ (i:Nat) x d,(kvs.map (·.2))[i]?=some x->(kds.map (·.2))[i]?=some d->Rep G H x d)->Rep G H (.ref a) (.dt kds)
 | adr (a:Addr):Rep G H (.ref a) (.adr a)
 | ob {a C dx:Addr}{c:Str}{fs:List (Str×V)}{gs:List (Str×D)}:G.cl c=some C->H a=some (.ins C dx fs)->fs.map (·.1)=gs.map (·.1)->(∀ (i:Nat) x d,(fs.map (·.2))[i]?=some x->(gs.map (·.2))[i]?=some d->Rep G H x d)->Rep G H (.ref a) (.ob c gs)
 | err {a C:Addr}{od tb:Option Addr}{c:Str}{fs:List (Str×V)}{gs:List (Str×D)}:G.xcl c=some C->H a=some (EX.excO a C od tb)->XdA H od fs->FsV fs gs->Rep G H (.ref a) (.err c gs)
 | mem {a:Addr}{F:List (List Key)->Int}:H a=some (.mem F G.K)->Rep G H (.ref a) (.mem F)
def RepL (G:Gx) (H:Hp) (xs:List V) (ds:List D):Prop:=xs.length=ds.length/\∀ (i:Nat) x d,xs[i]?=some x->ds[i]?=some d->Rep G H x d
theorem Rep.mono {G:Gx}{H H':Hp}{v:V}{d:D}(r:Rep G H v d) (s:Same H H'):Rep G H' v d:=by
 induction r with
 | non=>exact .non
 | bl b=>exact .bl b
 | int i=>exact .int i
 | str x=>exact .str x
 | tup h l _ ih=>exact .tup (Dl s h) l ih
 | lst h l _ ih=>exact .lst (s.seq h) l ih
 | dk h l _ ih=>exact .dk (s _ _ h) l ih
 | dt h l _ ih=>exact .dt (s _ _ h) l ih
 | adr a=>exact .adr a
 | ob c h l _ ih=>exact .ob c (s _ _ h) l ih
 | err c h q f=>exact .err c (s _ _ h) (q.mono s) f
 | mem h=>exact .mem (s _ _ h)
theorem RepL.mono {G:Gx}{H H':Hp}{xs:List V}{ds:List D}(r:RepL G H xs ds) (s:Same H H'):RepL G H' xs ds:=⟨r.1,λ i x d a b=>(r.2 i x d a b).mono s⟩
theorem RepL.nil {G:Gx}:RepL G H [] []:=⟨rfl,λ i x d h=>by simp at h⟩
theorem RepL.cons {G:Gx}{H:Hp}{x:V}{d:D}{xs:List V}{ds:List D}(r:Rep G H x d) (rs:RepL G H xs ds):RepL G H (x::xs) (d::ds):=
 ⟨by simp[rs.1],λ i y e h1 h2=>by
  cases i with
  | zero=>simp at h1 h2;subst h1;subst h2;exact r
  | succ i=>simp at h1 h2;exact rs.2 i y e h1 h2⟩
theorem RepL.uncons {G:Gx}{d:D}{ds:List D}(r:RepL G H xs (d::ds)):∃ x ys,xs=x::ys/\Rep G H x d/\RepL G H ys ds:=by
 obtain⟨l,h⟩:=r;cases xs with
 | nil=>simp at l
 | cons x ys=>exact⟨x,ys,rfl,h 0 x d rfl rfl,by simpa using l,λ i y e h1 h2=>h (i+1) y e (by simpa using h1) (by simpa using h2)⟩
theorem RepL.nil_inv {G:Gx}(r:RepL G H xs []):xs=[]:=by
 have:=r.1;cases xs with
 | nil=>rfl
 | cons x ys=>simp at this
theorem RepL.append {G:Gx}{ds es:List D}(a:RepL G H xs ds) (b:RepL G H ys es):RepL G H (xs++ys) (ds++es):=by
 refine⟨by rw[z0L,z0L,a.1,b.1],λ i x d h1 h2=>?_⟩
 by_cases hi:i<xs.length
 ·rw[z2c hi] at h1;rw[z2c (by rw[<-a.1];exact hi)] at h2;exact a.2 i x d h1 h2
 ·rw[z1Y (z1_.mp hi)] at h1;rw[z1Y (by rw[<-a.1];exact z1_.mp hi),<-a.1] at h2;exact b.2 _ x d h1 h2
theorem RepL.drop {G:Gx}{ds:List D}(a:RepL G H xs ds) (n:Nat):RepL G H (xs.drop n) (ds.drop n):=
 ⟨by rw[z2P,z2P,a.1],λ i x d h1 h2=>by rw[z6I] at h1 h2;exact a.2 _ x d h1 h2⟩
theorem RepL.take {G:Gx}{ds:List D}(a:RepL G H xs ds) (n:Nat):RepL G H (xs.take n) (ds.take n):=
 ⟨by rw[z1i,z1i,a.1],λ i x d h1 h2=>by
  rw[List.getElem?_take] at h1 h2;split at h1
  ·rename_i hlt;rw[if_pos hlt] at h2;exact a.2 _ x d h1 h2
  ·cases h1⟩
theorem RepL.get {G:Gx}{ds:List D}(a:RepL G H xs ds) {i:Nat}{d:D}(h:ds[i]?=some d):∃ x,xs[i]?=some x/\Rep G H x d:=by
 have hi:i<ds.length:=(z1r.mp h).1;have hi':i<xs.length:=by rw[a.1];exact hi
 exact⟨xs[i],by simp[hi'],a.2 i _ d (by simp[hi']) h⟩
theorem RepL.atI {G:Gx}{H:Hp}{xs:List V}{ds:List D}(a:RepL G H xs ds) {i:Int}{d:D}(h:L2.atI ds i=some d):∃ x,L2.atI xs i=some x/\Rep G H x d:=by
 unfold L2.atI at h ⊢;rw[<-a.1] at h;cases e:ixN xs.length i with
 | none=>rw[e] at h;cases h
 | some j=>
  rw[e] at h;obtain⟨x,h1,h2⟩:=a.get (show ds[j]?=some d from h);exact⟨x,h1,h2⟩
def hid (A:List Addr) (H:Hp):Hp:=λ b=>if b∈A then none else H b
theorem A_ (s:Same H H'):Same (hid A H) (hid A H'):=λ b o h=>by
 unfold hid at h ⊢;split at h
 ·cases h
 ·rename_i hb;rw[if_neg hb];exact s b o h
theorem Ar:Same (hid A H) H:=λ b o h=>by
 unfold hid at h;split at h
 ·cases h
 ·exact h
theorem J0 (h:∀ a∈A,a∈B):Same (hid B H) (hid A H):=λ b o q=>by
 unfold hid at q ⊢;split at q
 ·cases q
 ·rename_i hb;rw[if_neg (λ z=>hb (h b z))];exact q
theorem CP (h:p∉A):hid A H p=H p:=by unfold hid;rw[if_neg h]
theorem Fq {o:HO}(h:p∈A):hid A (upd H p o)=hid A H:=by
 funext b;unfold hid
 by_cases hb:b∈A
 ·rw[if_pos hb,if_pos hb]
 ·rw[if_neg hb,if_neg hb,Ak (λ e:b=p=>hb (by rw[e];exact h))]
def Top (G:Gx) (A:List Addr) (H:Hp) (a:Addr):D->Prop
 | .lst ds=>∃ xs,H a=some (.lst xs)/\RepL G (hid A H) xs ds
 | .dk kds=>∃ kvs,H a=some (.dK kvs)/\kvs.map (·.1)=kds.map (·.1)/\RepL G (hid A H) (kvs.map (·.2)) (kds.map (·.2))
 | .dt kds=>∃ kvs,H a=some (.dT kvs)/\kvs.map (·.1)=kds.map (·.1)/\RepL G (hid A H) (kvs.map (·.2)) (kds.map (·.2))
 | .ob c gs=>∃ C dx fs,H a=some (.ins C dx fs)/\(G.cl c=some C/\fs.map (·.1)=gs.map (·.1))/\RepL G (hid A H) (fs.map (·.2)) (gs.map (·.2))
 | _=>False
theorem Top.mono {G:Gx}{A:List Addr}{H H':Hp}{a:Addr}{d:D}(t:Top G A H a d) (s:Same H H'):Top G A H' a d:=by
 cases d with
 | lst ds=>obtain⟨xs,h,r⟩:=t;exact⟨xs,s _ _ h,r.mono (A_ s)⟩
 | dk ds=>obtain⟨xs,h,k,r⟩:=t;exact⟨xs,s _ _ h,k,r.mono (A_ s)⟩
 | dt ds=>obtain⟨xs,h,k,r⟩:=t;exact⟨xs,s _ _ h,k,r.mono (A_ s)⟩
 | ob c gs=>obtain⟨C,dx,xs,h,k,r⟩:=t;exact⟨C,dx,xs,s _ _ h,k,r.mono (A_ s)⟩
 | _=>exact t.elim
structure Nt (x:Option HO):Prop where
 ne:x≠none
 tup:∀ xs,x≠some (.tup xs)
theorem Nt.mono {x y:Option HO}(h:Nt x) (k:∀ u,x=some u->y=some u):Nt y:=by
 cases x with
 | none=>exact absurd rfl h.ne
 | some u=>rw[k u rfl];exact h
theorem Nt.lst {xs:List V}:Nt (some (.lst xs)):=⟨λ z=>(nomatch z),λ _ z=>(nomatch z)⟩
theorem Nt.dK {xs:List (Key×V)}:Nt (some (.dK xs)):=⟨λ z=>(nomatch z),λ _ z=>(nomatch z)⟩
theorem Nt.dT {xs:List (List Key×V)}:Nt (some (.dT xs)):=⟨λ z=>(nomatch z),λ _ z=>(nomatch z)⟩
theorem Nt.ins {C dx:Addr}{xs:List (Str×V)}:Nt (some (.ins C dx xs)):=⟨λ z=>(nomatch z),λ _ z=>(nomatch z)⟩
structure Okp (G:Gx) (A:List Addr) (σ:St) (H:Hp) (ρ:Rho):Prop where
 len:σ.length=ρ.length
 live:∀ a∈A,Nt (H a)
 fz:∀ (i:Nat) (d:D),ρ[i]?=some (.fz d)->∃ v,σ[i]?=some (some v)/\Rep G (hid A H) v d
 ow:∀ (i:Nat) (d:D),ρ[i]?=some (.ow d)->∃ a,σ[i]?=some (some (.ref a))/\a∈A/\Top G A H a d
 inj:∀ (i j:Nat) (d e:D) (a:Addr),ρ[i]?=some (.ow d)->ρ[j]?=some (.ow e)->σ[i]?=some (some (.ref a))->σ[j]?=some (some (.ref a))->i=j
theorem Okp.mono {G:Gx}{A:List Addr}{σ:St}{H H':Hp}{ρ:Rho}(o:Okp G A σ H ρ) (s:Same H H'):Okp G A σ H' ρ:=
 ⟨o.len,λ a ha=>(o.live a ha).mono λ u e=>s _ _ e,
  λ i d h=>let ⟨v,h1,h2⟩:=o.fz i d h;⟨v,h1,h2.mono (A_ s)⟩,λ i d h=>let ⟨a,h1,h2,h3⟩:=o.ow i d h;⟨a,h1,h2,h3.mono s⟩,o.inj⟩
def RepT (G:Gx) (A:List Addr) (H:Hp) (v:V) (d:D):Prop:=Rep G (hid A H) v d∨∃ a,v=.ref a/\Top G A H a d
theorem RepT.mono {G:Gx}{A:List Addr}{H H':Hp}{v:V}{d:D}(r:RepT G A H v d) (s:Same H H'):RepT G A H' v d:=by
 rcases r with r | ⟨a,e,r⟩
 ·exact .inl (r.mono (A_ s))
 ·exact .inr ⟨a,e,r.mono s⟩
theorem RepT.lst {G:Gx}{A:List Addr}{H:Hp}{v:V}{ds:List D}(r:RepT G A H v (.lst ds)):∃ a xs,v=.ref a/\SqL G.K H a xs/\RepL G (hid A H) xs ds:=by
 rcases r with r | ⟨a,e,xs,h,r⟩
 ·cases r with
  | lst h l r=>exact⟨_,_,rfl,Ar.seq h,l,r⟩
 ·exact⟨a,xs,e,.of h,r⟩
theorem RepT.tup {G:Gx}{A:List Addr}{H:Hp}{v:V}{ds:List D}(r:RepT G A H v (.tup ds)):∃ a xs,v=.ref a/\SqT G.K H a xs/\RepL G (hid A H) xs ds:=by
 rcases r with r | ⟨a,e,r⟩
 ·cases r with
  | tup h l r=>exact⟨_,_,rfl,Dl Ar h,l,r⟩
 ·exact r.elim
theorem RepT.int {G:Gx}{i:Int}(r:RepT G A H v (.int i)):v=.int i:=by
 rcases r with r | ⟨a,e,r⟩
 ·cases r;rfl
 ·exact r.elim
theorem RepT.str {G:Gx}{i:Str}(r:RepT G A H v (.str i)):v=.str i:=by
 rcases r with r | ⟨a,e,r⟩
 ·cases r;rfl
 ·exact r.elim
theorem RepT.bl {G:Gx}{i:Bool}(r:RepT G A H v (.bl i)):v=.bl i:=by
 rcases r with r | ⟨a,e,r⟩
 ·cases r;rfl
 ·exact r.elim
theorem RepT.non {G:Gx}(r:RepT G A H v .non):v=.non:=by
 rcases r with r | ⟨a,e,r⟩
 ·cases r;rfl
 ·exact r.elim
theorem RepT.dk {G:Gx}{A:List Addr}{H:Hp}{v:V}{kds:List (Key×D)}(r:RepT G A H v (.dk kds)):∃ a kvs,v=.ref a/\Rd H a (.dK kvs)/\kvs.map (·.1)=kds.map (·.1)/\RepL G (hid A H) (kvs.map (·.2)) (kds.map (·.2)):=by
 rcases r with r | ⟨a,e,kvs,h,k,r⟩
 ·cases r with
  | dk h k r=>
   refine⟨_,_,rfl,.inr ⟨_,Ar _ _ h⟩,k,?_,r⟩;have:=congrArg z0P k;rw[z07,z07] at this ⊢;exact this
 ·exact⟨a,kvs,e,.of h,k,r⟩
theorem Tw (live:∀ a∈A,Nt (H a)) (hp:H p=none) (o:HO):hid A (upd H p o) p=some o:=by
 rw[CP (λ z=>(live p z).ne hp),Aj]
theorem De {G:Gx}{ds:List D}(live:∀ a∈A,Nt (H a)) (hp:H p=none) (r:RepL G (hid A H) xs ds):Rep G (hid A (upd H p (.lst xs))) (.ref p) (.lst ds):=
 let q:=r.mono (A_ (Al hp (.lst xs)));.lst (.of (Tw live hp _)) q.1 q.2
theorem EY {G:Gx}{ds:List D}(live:∀ a∈A,Nt (H a)) (hp:H p=none) (r:RepL G (hid A H) xs ds):Rep G (hid A (upd H p (.tup xs))) (.ref p) (.tup ds):=
 let q:=r.mono (A_ (Al hp (.tup xs)));.tup (.of (Tw live hp _)) q.1 q.2
def tF (G:Gx) (A:List Addr) (f:FE):TE:=λ σ H Q=>∃ ρ d,Okp G A σ H ρ/\f ρ=some d/\∀ v H',Same H H'->Rep G (hid A H') v d->Q v H'
def tT (G:Gx) (A:List Addr) (f:FE):TE:=λ σ H Q=>∃ ρ d,Okp G A σ H ρ/\f ρ=some d/\∀ v H',Same H H'->RepT G A H' v d->Q v H'
def PF (X:Cx) (G:Gx) (e:Expr) (f:FE):Prop:=∀ ⦃A⦄,PE X e (tF G A f)
def PU (X:Cx) (G:Gx) (e:Expr) (f:FE):Prop:=∀ ⦃A⦄,PE X e (tT G A f)
theorem Bx {t t':TE}(h:PE X e t) (w:∀ σ H Q,t' σ H Q->t σ H Q):PE X e t':=λ π s σ H Q I q=>h π s σ H Q I (w σ H Q q)
theorem PF.pu {G:Gx}{f:FE}(h:PF X G e f):PU X G e f:=λ A=>Bx (@h A) λ σ H Q ⟨ρ,d,o,e,k⟩=>⟨ρ,d,o,e,λ v H' s r=>k v H' s (.inl r)⟩
def tFA (G:Gx) (A:List Addr) (f:FA):TA:=λ σ H Q=>∃ ρ ds,Okp G A σ H ρ/\f ρ=some ds/\∀ vs H',Same H H'->RepL G (hid A H') vs ds->Q vs H'
def PFA (X:Cx) (G:Gx) (es:List Expr) (f:FA):Prop:=∀ ⦃A⦄,PA X es (tFA G A f)
theorem rM {e:List Expr}{t t':TA}(h:PA X e t) (w:∀ σ H Q,t' σ H Q->t σ H Q):PA X e t':=λ pos π s σ H Q I q=>h pos π s σ H Q I (w σ H Q q)
def tFT (G:Gx) (A:List Addr) (f:FT):TT:=λ σ H Q=>∃ ρ b,Okp G A σ H ρ/\f ρ=some b/\∀ H',Same H H'->Q b H'
def PFT (X:Cx) (G:Gx) (e:Expr) (f:FT):Prop:=∀ ⦃A⦄,PT X e (tFT G A f)
def PFW (X:Cx) (G:Gx) (e:Expr) (f:FT):Prop:=∀ ⦃A⦄,PW X e (tFT G A f)
theorem ZC {t t':TT}(h:PT X e t) (w:∀ σ H Q,t' σ H Q->t σ H Q):PT X e t':=λ π s σ H Q I q=>h π s σ H Q I (w σ H Q q)
theorem fH {t t':TT}(h:PW X e t) (w:∀ σ H Q,t' σ H Q->t σ H Q):PW X e t':=λ wh π s σ H Q I q=>h wh π s σ H Q I (w σ H Q q)
section
variable {G:Gx}{a b c:Expr}{fa fb fc:FE}
theorem ul (i:Nat) {x:Str}(h:PE X (.Name x pos) (tVar i)):PF X G (.Name x pos) (vF i):=λ A=>Bx h λ σ H Q ⟨ρ,d,o,e,k⟩=>by
 unfold vF at e;split at e
 ·rename_i d' h';cases e;obtain⟨v,h1,h2⟩:=o.fz i _ h';exact⟨v,h1,k v H .(23) h2⟩
 ·cases e
theorem um (i:Nat) {x:Str}(h:PE X (.Name x pos) (tVar i)):PU X G (.Name x pos) (vU i):=λ A=>Bx h λ σ H Q ⟨ρ,d,o,e,k⟩=>by
 unfold vU at e;split at e
 ·rename_i d' h';cases e;obtain⟨v,h1,h2⟩:=o.fz i _ h';exact⟨v,h1,k v H .(23) (.inl h2)⟩
 ·rename_i d' h';cases e;obtain⟨p,h1,_,h2⟩:=o.ow i _ h';exact⟨.ref p,h1,k _ H .(23) (.inr ⟨p,rfl,h2⟩)⟩
 ·cases e
theorem JZ {d:D}(h:PE X a (tC v)) (r:Rep G (λ _=>none) v d):PF X G a (kF d):=λ A=>Bx h λ σ H Q ⟨ρ,d',o,e,k⟩=>by
 cases e;exact k v H .(23) (r.mono λ b o z=>nomatch z)
theorem PQ {i j}:PF X G (.Constant (.int i) j pos) (kF (.int i)):=JZ uG (.int i)
theorem Jj {b j}:PF X G (.Constant (.bool b) j pos) (kF (.bl b)):=JZ wQ (.bl b)
theorem uo {j}:PF X G (.Constant .none j pos) (kF .non):=JZ uH .non
theorem uq {x j}:PF X G (.Constant (.str x) j pos) (kF (.str x)):=JZ uI (.str x)
def Dm (G:Gx) (r:R2) (g:D->D->Option D):Prop:=∀ (A:List Addr) (H:Hp) (x y:V) (dx dy d:D) (Q:VK),(∀ a∈A,Nt (H a))->RepT G A H x dx->RepT G A H y dy->g dx dy=some d->(∀ v H',Same H H'->Rep G (hid A H') v d->Q v H')->r x y H Q
theorem Qz {g:D->D->Option D}{ρ:Rho}{d:D}(h:bF g fa fb ρ=some d):∃ x y,fa ρ=some x/\fb ρ=some y/\g x y=some d:=by
 unfold bF at h;cases e1:fa ρ with
 | none=>rw[e1] at h;cases h
 | some x=>
  rw[e1] at h;cases e2:fb ρ with
  | none=>simp[e2] at h
  | some y=>simp[e2] at h;exact⟨x,y,rfl,rfl,h⟩
theorem Rc {r:R2}{g:D->D->Option D}(s:Dm G r g) {A:List Addr}{σ:St}{H:Hp}{Q:VK}(h:tF G A (bF g fa fb) σ H Q):tOp r (tT G A fa) (tT G A fb) σ H Q:=by
 obtain⟨ρ,d,o,e,k⟩:=h;obtain⟨x,y,e1,e2,e3⟩:=Qz e;exact⟨ρ,x,o,e1,λ v H1 s1 r1=>⟨ρ,y,o.mono s1,e2,λ u H2 s2 r2=>s A H2 v u x y d Q ((o.mono s1).mono s2).live (r1.mono s2) r2 e3 λ w H3 s3 r3=>k w H3 (s1.trans (s2.trans s3)) r3⟩⟩
theorem Gr {op:Operator}{r:R2}{g:D->D->Option D}(ho:OpR X (z1t op) r) (s:Dm G r g) (ha:PU X G a fa) (hb:PU X G b fb):PF X G (.BinOp a op b pos) (bF g fa fb):=
 λ A=>Bx (wg ho (@ha A) (@hb A)) λ _ _ _ h=>Rc s h
theorem Ut {op:z2H}{r:R2}{g:D->D->Option D}(ho:OpR X (z0C op) r) (s:Dm G r g) (ha:PU X G a fa) (hb:PU X G b fb) (hm:z17 op b=false):PF X G (.Compare a [op] [b] pos) (bF g fa fb):=
 λ A=>Bx (Y0 ho (@ha A) (@hb A) hm) λ _ _ _ h=>Rc s h
theorem WK {f:FE}{ρ:Rho}{b:Bool}(h:blF f ρ=some b):f ρ=some (.bl b):=by
 unfold blF at h;split at h
 ·rename_i e;cases h;exact e
 ·cases h
theorem IK {op:z2H}{r:R2}{g:D->D->Option D}(ho:OpR X (z0C op) r) (s:Dm G r g) (ha:PU X G a fa) (hb:PU X G b fb) (hm:z17 op b=false):PFT X G (.Compare a [op] [b] pos) (blF (bF g fa fb)):=
 λ A=>ZC (Y4 ho (@ha A) (@hb A) hm) λ σ H Q ⟨ρ,d,o,e,k⟩=>Rc s ⟨ρ,.bl d,o,WK e,λ v H' s' r'=>by cases r';exact⟨d,rfl,k H' s'⟩⟩
theorem Nr {g:Int->Int->Option D}{x y d:D}(h:iiD g x y=some d):∃ i j,x=.int i/\y=.int j/\g i j=some d:=by
 unfold iiD at h;split at h
 ·exact⟨_,_,rfl,rfl,h⟩
 ·cases h
theorem PX {g:Int->Int->V}{g':Int->Int->D}(e:∀ i j H,Rep G H (g i j) (g' i j)):Dm G (rI0 g) (iiD λ i j=>some (g' i j)):=by
 intro A H x y dx dy d Q lv rx ry h k;obtain⟨i,j,rfl,rfl,h⟩:=Nr h;cases h;exact⟨i,j,rx.int,ry.int,k _ H .(23) (e i j _)⟩
theorem Rf {C:Int->Int->Prop}{g:Int->Int->V}{g':Int->Int->D} [∀ i j,Decidable (C i j)] (e:∀ i j H,Rep G H (g i j) (g' i j)):Dm G (rI C g) (iiD λ i j=>if C i j then some (g' i j) else none):=by
 intro A H x y dx dy d Q lv rx ry h k;obtain⟨i,j,rfl,rfl,h'⟩:=Nr h
 by_cases hc:C i j
 ·rw[if_pos hc] at h';cases h';exact⟨i,j,rx.int,ry.int,hc,k _ H .(23) (e i j _)⟩
 ·rw[if_neg hc] at h';cases h'
theorem nO:Dm G (rI0 λ i j=>.int (i-j)) subD:=PX λ i j H=>.int _
theorem Mi.ok {i j:Int}(h:Mi i j):IntMulOk i j:=by
 rcases h with h | h
 ·exact h.ok
 ·exact IntMulOk.of_le h.1 h.2 (by decide)
theorem nP:OpR X (z1t .Mult) (rI Mi λ i j=>.int (i*j)):=opI λ _ _ _ _ _ _ _ hc q=>mul_int q hc.ok
theorem Uu:OpR X (z1t .LShift) (rI CShl λ i j=>.int (i*2^j.toNat)):=opI λ i j _ _ _ _ _ hc q=>lshift_int hc.1 (by have h1:=hc.2.1;have h2:=hc.2.2;omega) q
theorem nQ:Dm G (rI Mi λ i j=>.int (i*j)) mulD:=Rf λ i j H=>.int _
theorem fJ:Dm G (rI CDiv λ i j=>.int (i/j)) JD:=Rf λ i j H=>.int _
theorem nR:Dm G (rI (λ _ j=>0<j) λ i j=>.int (i%j)) modD:=Rf (C:=λ _ j=>0<j) λ i j H=>.int _
theorem Uv:Dm G (rI CShl λ i j=>.int (i*2^j.toNat)) shlD:=Rf λ i j H=>.int _
theorem ZD:Dm G (rI (λ _ j=>0<=j) λ i j=>.int (i/2^j.toNat)) shrD:=Rf (C:=λ _ j=>0<=j) λ i j H=>.int _
theorem WL:Dm G (rI0 λ i j=>.int (z3J i j)) Y_:=PX λ i j H=>.int _
theorem fK:Dm G (rI0 λ i j=>.bl (decide (i<j))) ltD:=PX λ i j H=>.bl _
theorem ur:Dm G (rI0 λ i j=>.bl (decide (i<=j))) leD:=PX λ i j H=>.bl _
theorem ut:Dm G (rI0 λ i j=>.bl (decide (j<i))) gtD:=PX λ i j H=>.bl _
theorem uv:Dm G (rI0 λ i j=>.bl (decide (j<=i))) geD:=PX λ i j H=>.bl _
def rN (K:z08):R2:=λ x y H Q=>∃ l b xs zs,x=.ref l/\y=.ref b/\SqL K H l xs/\SqL K H b zs/\xs.length+zs.length<=sizeLine/\∀ p,H p=none->Q (.ref p) (upd H p (.lst (xs++zs)))
theorem nU:OpR X (z1t .Add) (rN X.K):=by
 intro π s σ H x y v u Q I rx ry h;obtain⟨l,b,xs,zs,rfl,rfl,hl,hb,hz,q⟩:=h;cases rx;cases ry;obtain⟨its,r,pl,z⟩:=I.list hl;obtain⟨its2,r2,pl2,z2⟩:=I.list hb;have e1:=r.length;have e2:=r2.length;obtain⟨⟨cls,dd,data,sl⟩,ho,hc,n,hd⟩:=pl.isList;obtain⟨⟨cls2,dd2,data2,sl2⟩,ho2,hc2,n2,hd2⟩:=pl2.isList;simp only at hc hd hc2 hd2;subst hc hd hc2 hd2;refine z5a ⟨_,ho,rfl⟩ ⟨_,ho2,rfl⟩ noFill_list_add seq_list_add PySem.F.slot_list_add PySem.F.entry_list_add (PySem.F.args_list_add_2 _ _) (list_addW l b its.toArray its2.toArray n n2 dd dd2 sl sl2 (by rw[z0t,z0t];omega)) ⟨ho,ho2,?_⟩;have ea:its.toArray++its2.toArray=(its++its2).toArray:=by simp
 rw[ea];exact⟨.ref _,_,I.lnew (t':=s.toks) (r.append r2) (by rw[z0L];omega),rfl,q _ I.fresh⟩
def rAdd (K:z08):R2:=λ x y H Q=>(rI0 λ i j=>.int (i+j)) x y H Q∨((λ x y H Q=>∃ i j,x=.str i/\y=.str j/\i.length+j.length<=sizeLine/\Q (.str (i++j)) H) x y H Q∨rN K x y H Q)
theorem nY:OpR X (z1t .Add) (rAdd X.K):=uV.or (Xi.or nU)
theorem nZ:Dm G (rAdd G.K) addD:=by
 intro A H x y dx dy d Q lv rx ry h k;unfold addD at h;split at h
 ·cases h;exact .inl ⟨_,_,rx.int,ry.int,k _ H .(23) (.int _)⟩
 ·split at h
  ·rename_i hz;cases h;exact .inr (.inl ⟨_,_,rx.str,ry.str,hz,k _ H .(23) (.str _)⟩)
  ·cases h
 ·split at h
  ·rename_i hz;cases h;obtain⟨l,xs,rfl,h1,r1⟩:=rx.lst;obtain⟨m,zs,rfl,h2,r2⟩:=ry.lst;exact .inr (.inr ⟨l,m,xs,zs,rfl,rfl,h1,h2,by rw[r1.1,r2.1];exact hz,λ p hp=>k _ _ (Al hp _) (De lv hp (r1.append r2))⟩)
  ·cases h
 ·cases h
theorem Xx {op:BoolOp}(h:PF X G a fa):PF X G (.BoolOp op [a] pos) fa:=λ A=>uN (@h A)
theorem Rg {rest:List Expr}(ha:PF X G a fa) (hb:PF X G (.BoolOp .And (b::rest) pos) fb):PF X G (.BoolOp .And (a::b::rest) pos) (andF fa fb):=λ A=>Bx (uO (@ha A) (@hb A)) λ σ H Q ⟨ρ,d,o,e,k⟩=>by
 unfold andF at e;split at e
 ·rename_i e1;refine⟨ρ,_,o,e1,λ v H1 s1 r1=>?_⟩;cases r1;refine⟨true,rfl,?_⟩;rw[if_pos rfl];exact⟨ρ,d,o.mono s1,e,λ v H2 s2 r2=>k v H2 (s1.trans s2) r2⟩
 ·rename_i e1;refine⟨ρ,_,o,e1,λ v H1 s1 r1=>?_⟩;cases r1;refine⟨false,rfl,?_⟩;rw[if_neg z0D];cases e;exact k _ H1 s1 (.bl false)
 ·cases e
theorem uw (ha:PF X G a fa):PF X G (.UnaryOp .Not a pos) (notF fa):=λ A=>Bx (uP (@ha A)) λ σ H Q ⟨ρ,d,o,e,k⟩=>by
 unfold notF at e;split at e
 ·rename_i b e1;refine⟨ρ,_,o,e1,λ v H1 s1 r1=>?_⟩;cases r1;cases e;exact⟨b,rfl,k _ H1 s1 (.bl _)⟩
 ·cases e
variable {ga gb:FT}
theorem PFW.pt (h:PFW X G a ga):PFT X G a ga:=λ A=>(@h A).pt
theorem Xy (h:PFT X G a ga):PFW X G (.BoolOp .And [a] pos) ga:=λ A=>mW (@h A)
theorem Dq (h:PFT X G a ga):PFW X G (.BoolOp .Or [a] pos) ga:=λ A=>dJ (@h A)
theorem ZF {rest:List Expr}(ha:PFT X G a ga) (hb:PFW X G (.BoolOp .And (b::rest) pos) gb):PFW X G (.BoolOp .And (a::b::rest) pos) (andT ga gb):=λ A=>fH (uL (@ha A) (@hb A)) λ σ H Q ⟨ρ,d,o,e,k⟩=>by
 unfold andT at e;split at e
 ·rename_i e1;exact⟨ρ,_,o,e1,λ H1 s1=>iteT ⟨ρ,d,o.mono s1,e,λ H2 s2=>k H2 (s1.trans s2)⟩⟩
 ·rename_i e1;cases e;exact⟨ρ,_,o,e1,λ H1 s1=>iteF (k H1 s1)⟩
 ·cases e
theorem Gs {rest:List Expr}(ha:PFT X G a ga) (hb:PFW X G (.BoolOp .Or (b::rest) pos) gb):PFW X G (.BoolOp .Or (a::b::rest) pos) (orT ga gb):=λ A=>fH (rA (@ha A) (@hb A)) λ σ H Q ⟨ρ,d,o,e,k⟩=>by
 unfold orT at e;split at e
 ·rename_i e1;cases e;exact⟨ρ,_,o,e1,λ H1 s1=>iteT (k H1 s1)⟩
 ·rename_i e1;exact⟨ρ,_,o,e1,λ H1 s1=>iteF ⟨ρ,d,o.mono s1,e,λ H2 s2=>k H2 (s1.trans s2)⟩⟩
 ·cases e
theorem JF (ha:PFT X G a ga):PFT X G (.UnaryOp .Not a pos) (notT ga):=λ A=>ZC (uM (@ha A)) λ σ H Q ⟨ρ,d,o,e,k⟩=>by
 unfold notT at e;cases e1:ga ρ with
 | none=>rw[e1] at e;cases e
 | some b=>rw[e1] at e;cases e;exact⟨ρ,b,o,e1,λ H1 s1=>k H1 s1⟩
theorem Qe {α β:Type}{xs:List α}{ys:List β}(h:xs.length=ys.length):xs.isEmpty=ys.isEmpty:=by
 cases xs<;>cases ys<;>simp at h ⊢
theorem G5 (ha:PU X G a fa) (hG:G.K=X.K) (he:∀ whole,z2G a X.env whole=(do let v <-whole;z1X a.pos;z1v [v] (truthy v)):=by intro _;rfl):PFT X G a (λ ρ=>(fa ρ).bind truD):=λ A=>ZC (dg (@ha A) he) λ σ H Q ⟨ρ,b,o,e,k⟩=>by
 cases e1:fa ρ with
 | none=>simp[e1] at e
 | some d=>
  have e':truD d=some b:=by simpa [e1] using e
  refine⟨ρ,d,o,e1,λ v H1 s1 r1=>⟨b,?_,k H1 s1⟩⟩;rw[<-hG];cases d with
  | non=>rw[r1.non];exact (z0w e').symm
  | bl b'=>rw[r1.bl];exact (z0w e').symm
  | int i=>rw[r1.int];exact (z0w e').symm
  | str y=>
   rw[r1.str];simp only[truD] at e';split at e'
   ·rename_i hz;exact⟨hz,(z0w e').symm⟩
   ·cases e'
  | lst ds=>
   obtain⟨p,xs,rfl,h1,h2⟩:=r1.lst;refine .inl ⟨xs,h1,?_⟩;rw[Qe h2.1];exact (z0w e').symm
  | tup ds=>
   obtain⟨p,xs,rfl,h1,h2⟩:=r1.tup;refine .inr (.inl ⟨xs,h1,?_⟩);rw[Qe h2.1];exact (z0w e').symm
  | _=>cases e'
theorem fL (ht:PFT X G c ga) (ha:PF X G a fa) (hb:PF X G b fb):PF X G (.IfExp c a b pos) (ifF ga fa fb):=λ A=>Bx (dM (@ht A) (@ha A) (@hb A)) λ σ H Q ⟨ρ,d,o,e,k⟩=>by
 unfold ifF at e;split at e
 ·rename_i e1;exact⟨ρ,_,o,e1,λ H1 s1=>iteT ⟨ρ,d,o.mono s1,e,λ v H2 s2 r2=>k v H2 (s1.trans s2) r2⟩⟩
 ·rename_i e1;exact⟨ρ,_,o,e1,λ H1 s1=>iteF ⟨ρ,d,o.mono s1,e,λ v H2 s2 r2=>k v H2 (s1.trans s2) r2⟩⟩
 ·cases e
variable {es:List Expr}{fs:FA}
theorem Ad:PFA X G [] nilA:=λ A=>rM DG λ σ H Q ⟨ρ,ds,o,e,k⟩=>by cases e;exact k [] H .(23) RepL.nil
theorem Af (ha:PF X G a fa) (hr:PFA X G es fs) (hs:z09 (a::es) X.env=.(8)::z09 es X.env:=by rfl):PFA X G (a::es) (Aa fa fs):=λ A=>rM (Bp (@ha A) (@hr A) hs) λ σ H Q ⟨ρ,ds,o,e,k⟩=>by
 unfold Aa at e;cases e1:fa ρ with
 | none=>simp[e1] at e
 | some d=>
  cases e2:fs ρ with
  | none=>simp[e1,e2] at e
  | some ds'=>
   simp[e1,e2] at e;subst e;exact⟨ρ,d,o,e1,λ v H1 s1 r1=>⟨ρ,ds',o.mono s1,e2,λ vs H2 s2 r2=>k _ H2 (s1.trans s2) (.cons (r1.mono (A_ s2)) r2)⟩⟩
theorem Gu {x1} (h:PFA X G es fs):PF X G (.Tuple es x1 pos) (tupF fs):=λ A=>Bx (Xo (@h A)) λ σ H Q ⟨ρ,d,o,e,k⟩=>by
 unfold tupF at e;cases e1:fs ρ with
 | none=>simp[e1] at e
 | some ds=>
  rw[e1] at e;have e':(if ds.length<=sizeLine then some (D.tup ds) else none)=some d:=e;split at e'
  ·rename_i hz;cases e';exact⟨ρ,ds,o,e1,λ vs H1 s1 r1=>⟨by rw[r1.1];exact hz,λ p hp=>k _ _ (s1.trans (Al hp _)) (EY (o.mono s1).live hp r1)⟩⟩
  ·cases e'
theorem Du (h:PFA X G es fs):PF X G (.List es pos) (lstF fs):=λ A=>Bx (dw (@h A)) λ σ H Q ⟨ρ,d,o,e,k⟩=>by
 unfold lstF at e;cases e1:fs ρ with
 | none=>simp[e1] at e
 | some ds=>
  rw[e1] at e;have e':(if ds.length<=sizeLine then some (D.lst ds) else none)=some d:=e;split at e'
  ·rename_i hz;cases e';exact⟨ρ,ds,o,e1,λ vs H1 s1 r1=>⟨by rw[r1.1];exact hz,λ p hp=>k _ _ (s1.trans (Al hp _)) (De (o.mono s1).live hp r1)⟩⟩
  ·cases e'
theorem fO:Dm G (rIx G.K) ixD:=by
 intro A H x y dx dy d Q lv rx ry h k;unfold ixD at h;split at h
 ·obtain⟨p,xs,rfl,h1,r1⟩:=rx.lst;obtain⟨v,h2,r2⟩:=r1.atI h;exact .inl ⟨p,xs,_,v,rfl,ry.int,h1,h2,k v H .(23) r2⟩
 ·obtain⟨p,xs,rfl,h1,r1⟩:=rx.tup;obtain⟨v,h2,r2⟩:=r1.atI h;exact .inr (.inl ⟨p,xs,_,v,rfl,ry.int,h1,h2,k v H .(23) r2⟩)
 ·split at h
  ·rename_i z i hz;cases e:atI z.cps.toList i with
   | none=>rw[e] at h;cases h
   | some c=>
    rw[e] at h;cases h;exact .inr (.inr ⟨z,i,c,rx.str,ry.int,hz,e,k _ H .(23) (.str _)⟩)
  ·cases h
 ·cases h
theorem xO (hG:G.K=X.K) (ha:PU X G a fa) (hb:PU X G b fb) (hs:Nj b):PF X G (.Subscript a b pos) (bF ixD fa fb):=
 λ A=>Bx (rH (r:=rIx X.K) eF (@ha A) (@hb A) hs) λ _ _ _ h=>Rc (by rw[<-hG];exact fO) h
def tFO (G:Gx) (A:List Addr) (f:FO):TO:=λ σ H Q=>∃ ρ o,Okp G A σ H ρ/\f ρ=some o/\∀ H',Same H H'->Q o H'
def PFO (X:Cx) (G:Gx) (e:Option Expr) (f:FO):Prop:=∀ ⦃A⦄,PO X e (tFO G A f)
theorem rP {e:Option Expr}{t t':TO}(h:PO X e t) (w:∀ σ H Q,t' σ H Q->t σ H Q):PO X e t':=λ π s σ H Q I q=>h π s σ H Q I (w σ H Q q)
theorem Jk:PFO X G none noO:=λ A=>rP m8 λ σ H Q ⟨ρ,o,ok,e,k⟩=>by cases e;exact k H .(23)
theorem HJ (h:PU X G a fa):PFO X G (some a) (someO fa):=λ A=>rP (m9 (@h A)) λ σ H Q ⟨ρ,o,ok,e,k⟩=>by
 unfold someO at e;split at e
 ·rename_i i e1;cases e;exact⟨ρ,_,ok,e1,λ v H1 s1 r1=>⟨i,r1.int,k H1 s1⟩⟩
 ·cases e
theorem RepL.cut {ds:List D}(r:RepL G H xs ds) (lo hi:Option Int):RepL G H (cutV xs lo hi) (cutD ds lo hi):=by
 unfold cutV cutD;rw[r.1];exact (r.drop _).take _
end
end PV
theorem L2.Room.unitsW {k:Nat}{A:PySem.Around}(r:L2.Room k A):A.units+190<PySem.cLine:=by have:=r.un;omega
namespace PV
open PySem PySem.Spec L2
open PyProof.Rows hiding St
section
variable {G:Gx}{a b c:Expr}{fa fb fc:FE}
section
open Builtin.Str
theorem WM (n:Nat) (v:Option Int) (d:Nat) (hd:d<=n):(match v with | none=>(d:Int) | some i=>max 0 (min (if i<0 then i+(n:Int) else i) (n:Int)))=(HT.sIx n d v:Int):=by
 cases v with
 | none=>rfl
 | some i=>
  simp only[HT.sIx];split<;>omega
theorem ni (n d:Nat) (v:Option Int) (hd:d<=n):HT.sIx n d v<=n:=by
 cases v with
 | none=>exact hd
 | some i=>simp only[HT.sIx];split<;>omega
theorem Xz (lo hi:Option Int) (n:Nat):strSliceIndices lo hi 1 n=(z0d (HT.sIx n n hi-HT.sIx n 0 lo)).map (λ k=>HT.sIx n 0 lo+k):=by
 have h1:=WM n lo 0 (z19 _);have h2:=WM n hi n (z06 _);have hp:((1:Int) > 0):=by decide
 have e:strSliceIndices lo hi 1 n=z6J (HT.sIx n 0 lo:Int) (HT.sIx n n hi:Int) 1:=by
  unfold strSliceIndices;simp only[hp,if_true];exact congrFun (congr (congrArg z6J h1) h2) 1
 rw[e];unfold z6J;simp only[hp,if_true];generalize HT.sIx n 0 lo=a;generalize HT.sIx n n hi=b;have hc:(if (a:Int)<(b:Int) then ((b:Int)-a+1-1)/1 else 0).toNat=b-a:=by
  split
  ·rw[z8b];omega
  ·omega
 rw[hc];apply z3l;intro k _;omega
theorem bV (x:Str) (lo hi:Option Int):z5h x lo hi=cutS x lo hi:=by
 have hb:=ni x.length x.length hi (z06 _);have hn:x.cps.toList.length=x.length:=by simp[z6D]
 unfold z5h cutS cutD;rw[Xz,hn];generalize HT.sIx x.length 0 lo=a at *;generalize HT.sIx x.length x.length hi=b at *;rw[z07,z2B];split
 ·rename_i h;simp only[z0Q,beq_iff_eq] at h;have hab:b-a=x.length:=h.2
  by_cases h0:x.length=0
  ·have:x.cps.toList=[]:=z2C.mp (by omega);cases x with
   | mk c=>
    simp at this;subst this;simp
  ·have ha:a=0:=by omega
   subst ha;have:b=x.length:=by omega
   subst this;rw[z8r,Nat.sub_zero,z6K (by omega)]
 ·congr 1;apply congrArg;apply z8s;intro i;rw[z6y];have key:∀ m,m<=b-a->(List.filterMap ((λ k=>x.cps[k]?) ∘ λ k=>a+k) (z0d m))=((x.cps.toList.drop a).take m):=by
   intro m
   induction m with
   | zero=>intro _;simp
   | succ m ih=>
    intro hm;rw[z6L,List.filterMap_append,ih (by omega)];have hlt:a+m<x.cps.size:=by have:x.length=x.cps.size:=rfl;omega
    rw[List.take_succ_eq_append_getElem .(17)];simp[hlt]
  rw[key _ (z06 _)]
end
def rSlS:V->Option Int->Option Int->Hp->VK->Prop:=λ x lo hi H Q=>∃ z,x=.str z/\z.length<=sizeLine/\Q (.str (z5h z lo hi)) H
theorem ux:SlR X rSlS:=by
 intro π s σ H x v vl vu lo hi sl Q I rx hs pl pu h;obtain⟨z,rfl,hz,q⟩:=h;obtain⟨t,rfl⟩:=rx;obtain⟨o,e1,e2,e3⟩:=hs;have fin:∀ t' k,EP X π σ Q (.str (z5h z lo hi) t') { s with toks:=k }:=λ t' k=>⟨.str _,H,I.tok _,⟨t',rfl⟩,q⟩;have hl:=z0A (Txt.slice_le z lo hi) hz;refine⟨"str",_,PySem.F.slot_str_getitem.lookup,z6E _ _ _,?_⟩;cases pl with
 | none=>
  cases pu with
  | none=>exact z5i (l:=none) (u:=none) (st:=none) ⟨o,e1,e2,e3⟩ rfl (z5j ⟨hl,fin⟩)
  | int j uj=>exact z5i (l:=none) (u:=some (j,uj)) (st:=none) ⟨o,e1,e2,e3⟩ rfl (z5j ⟨hl,fin⟩)
 | int i ui=>
  cases pu with
  | none=>exact z5i (l:=some (i,ui)) (u:=none) (st:=none) ⟨o,e1,e2,e3⟩ rfl (z5j ⟨hl,fin⟩)
  | int j uj=>exact z5i (l:=some (i,ui)) (u:=some (j,uj)) (st:=none) ⟨o,e1,e2,e3⟩ rfl (z5j ⟨hl,fin⟩)
def rSl (K:z08):V->Option Int->Option Int->Hp->VK->Prop:=λ x lo hi H Q=>rSlL K x lo hi H Q∨(rSlT K x lo hi H Q∨rSlS x lo hi H Q)
theorem uy:SlR X (rSl X.K):=nD.or (ud.or ux)
theorem IV {lo hi:Option Expr}{gl gh:FO}(hG:G.K=X.K) (ha:PU X G a fa) (hl:PFO X G lo gl) (hh:PFO X G hi gh):PF X G (.Subscript a (.Slice lo hi none p2) pos) (slF fa gl gh):=λ A=>Bx (eE (uy (X:=X)) (@ha A) (@hl A) (@hh A)) λ σ H Q ⟨ρ,d,o,e,k⟩=>by
 unfold slF at e;cases e1:fa ρ with
 | none=>simp[e1] at e
 | some x=>
  cases e2:gl ρ with
  | none=>simp[e1,e2] at e
  | some l=>
   cases e3:gh ρ with
   | none=>simp[e1,e2,e3] at e
   | some h=>
    have e':slD x l h=some d:=by simpa [e1,e2,e3] using e
    refine⟨ρ,x,o,e1,λ v H1 s1 r1=>⟨ρ,l,o.mono s1,e2,λ H2 s2=>⟨ρ,h,(o.mono s1).mono s2,e3,λ H3 s3=>?_⟩⟩⟩;have r3:=(r1.mono s2).mono s3;have o3:=((o.mono s1).mono s2).mono s3;have s0:=s1.trans (s2.trans s3);unfold slD at e';split at e'
    ·cases e';obtain⟨p,xs,rfl,h1,r⟩:=r3.lst;exact .inl ⟨p,xs,rfl,by rw[<-hG];exact h1,λ q hq=>k _ _ (s0.trans (Al hq _)) (De o3.live hq (r.cut _ _))⟩
    ·split at e'
     ·cases e'
     ·rename_i hw;cases e';obtain⟨p,xs,rfl,h1,r⟩:=r3.tup;exact .inr (.inl ⟨p,xs,rfl,by rw[<-hG];exact h1,by rw[r.1];exact hw,λ q hq=>k _ _ (s0.trans (Al hq _)) (EY o3.live hq (r.cut _ _))⟩)
    ·split at e'
     ·rename_i hz;cases e';refine .inr (.inr ⟨_,r3.str,hz,?_⟩);rw[bV];exact k _ _ s0 (.str _)
     ·cases e'
    ·cases e'
theorem Uw {u:V}{d:D}(r:RepT G A H v d) (h:flV d=some u):v=u/\KQ v=true:=by
 cases d with
 | non=>cases h;rw[r.non];exact⟨rfl,rfl⟩
 | bl b=>cases h;rw[r.bl];exact⟨rfl,rfl⟩
 | int b=>cases h;rw[r.int];exact⟨rfl,rfl⟩
 | str b=>cases h;rw[r.str];exact⟨rfl,rfl⟩
 | _=>cases h
theorem WN {H:Hp}:∀ {ds:List D}{xs us:List V},RepL G H xs ds->flVs ds=some us->xs=us/\xs.all KQ=true
 | [],xs,us,r,h=>by cases h;rw[r.nil_inv];exact⟨rfl,rfl⟩
 | d::ds,xs,us,r,h=>by
  obtain⟨x,ys,rfl,r1,r2⟩:=r.uncons;unfold flVs at h;cases e1:flV d with
  | none=>simp[e1] at h
  | some v=>
   cases e2:flVs ds with
   | none=>simp[e1,e2] at h
   | some vs=>
    simp[e1,e2] at h;subst h;have q:Rep G (hid [] H) x d:=r1.mono λ b o z=>z;obtain⟨z1,z2⟩:=Uw (A:=[]) (.inl q) e1;obtain⟨z3,z4⟩:=WN r2 e2;subst z1;subst z3;exact⟨rfl,by rw[z4n,z2,z4];rfl⟩
def rInA (K:z08) (neg:Bool):R2:=λ x y H Q=>rIn K neg x y H Q∨∃ i j,x=.str i/\y=.str j/\Q (.bl (if neg then !(!(z2J j i 0 j.length 1).isEmpty) else !(z2J j i 0 j.length 1).isEmpty)) H
theorem fP:OpR X (z0C .In) (rInA X.K false):=bO.or bK
theorem bW:OpR X (z0C .NotIn) (rInA X.K true):=Ur.or Uk
theorem uz (neg:Bool):Dm G (rInA G.K neg) (inD neg):=by
 intro A H x y dx dy d Q lv rx ry h k;have seq:∀ {ds:List D}{p:Addr}{xs:List V},y=.ref p->(SqL G.K H p xs∨SqT G.K H p xs)->RepL G (hid A H) xs ds->((flV dx).bind λ v=>(flVs ds).map λ vs=>D.bl (if neg then !inV v vs else inV v vs))=some d->rIn G.K neg x y H Q:=λ {ds p xs} ey hq r h=>by
  cases e1:flV dx with
  | none=>simp[e1] at h
  | some v=>
   cases e2:flVs ds with
   | none=>simp[e1,e2] at h
   | some vs=>
    rw[e1,e2] at h;cases h;obtain⟨z1,z2⟩:=Uw rx e1;obtain⟨z3,z4⟩:=WN r e2;subst z1;subst z3;exact⟨p,xs,ey,hq,z2,z4,k _ H .(23) (.bl _)⟩
 unfold inD at h;split at h
 ·cases h;exact .inr ⟨_,_,rx.str,ry.str,k _ H .(23) (.bl _)⟩
 ·obtain⟨p,xs,e,h1,r⟩:=ry.lst;exact .inl (seq e (.inl h1) r h)
 ·obtain⟨p,xs,e,h1,r⟩:=ry.tup;exact .inl (seq e (.inr h1) r h)
 ·cases h
def eAt (f:D->D->Option Bool) (xs ys:List D) (j:Nat):Bool:=match xs[j]?,ys[j]? with | some x,some y=>(f x y).getD false | _,_=>false
theorem Pa {f:D->D->Option Bool}:∀ {xs ys:List D}{b:Bool},allO f xs ys=some b->xs.length=ys.length/\(∀ (j:Nat) x y,xs[j]?=some x->ys[j]?=some y->f x y=some (eAt f xs ys j))/\b=(z0d xs.length).all (eAt f xs ys)
 | [],[],b,h=>by cases h;exact⟨rfl,λ j x y h=>by simp at h,rfl⟩
 | [],_::_,b,h=>by cases h
 | _::_,[],b,h=>by cases h
 | x::xs,y::ys,b,h=>by
  unfold allO at h;split at h
  ·rename_i a c e1 e2;cases h;obtain⟨h1,h2,h3⟩:=Pa e2;refine⟨by simp[h1],λ j u v hu hv=>?_,?_⟩
   ·cases j with
    | zero=>simp at hu hv;subst hu;subst hv;rw[e1];simp[eAt,e1]
    | succ j=>
     have:=h2 j u v (by simpa using hu) (by simpa using hv);rw[this];simp[eAt]
   ·rw[z0u,z8t,z4n,List.all_map];have z:eAt f (x::xs) (y::ys) 0=a:=by simp[eAt,e1]
    rw[z,h3];rfl
  ·cases h
theorem fQ {u:V}(h:KQ u=true):eqV u u=true:=by
 cases u<;>simp[eqV]<;>cases h
theorem Q0 {d:D}{u:V}(r:Rep G H v d) (h:flV d=some u):v=u/\KQ v=true:=Uw (A:=[]) (.inl (r.mono λ b o z=>by rw[CP z8u];exact z)) h
section
theorem WP (I:Inv X π σ H s) (hG:G.K=X.K):∀ (n:Nat) {x y:D}{v:V}{b:Bool},eqK n x y=some b->Rep G H v x->Rep G H v y->b=true:=by
 have flat:∀ {x y:D}{v:V}{b:Bool},flD x y=some b->Rep G H v x->Rep G H v y->b=true:=λ {x y v b} h rx ry=>by
  unfold flD at h;cases e1:flV x with
  | none=>simp[e1] at h
  | some u=>
   cases e2:flV y with
   | none=>simp[e1,e2] at h
   | some w=>
    simp[e1,e2] at h;obtain⟨z1,z2⟩:=Q0 rx e1;obtain⟨z3,_⟩:=Q0 ry e2;rw[<-h,<-z1,<-z3];exact fQ z2
 intro n
 induction n with
 | zero=>intro x y v b h rx ry;exact flat h rx ry
 | succ n ih=>
  have items:∀ {xs:List V}{ds es:List D}{b:Bool},allO (eqK n) ds es=some b->RepL G H xs ds->RepL G H xs es->b=true:=λ {xs ds es b} h r1 r2=>by
   obtain⟨h1,h2,h3⟩:=Pa h;rw[h3,z1c];intro j hj;have hj':j<ds.length:=z0o.mp hj;have hx:xs[j]?=some (xs[j]'(by rw[r1.1];exact hj')):=by simp[r1.1,hj']
   have hd:ds[j]?=some ds[j]:=by simp[hj']
   have he:es[j]?=some (es[j]'(by omega)):=z0F (by omega);exact ih (h2 j _ _ hd he) (r1.2 j _ _ hx hd) (r2.2 j _ _ hx he)
  intro x y v b h rx ry;unfold eqK eqS at h;split at h
  ·split at h
   ·cases rx with
    | lst h1 l1 r1=>
     cases ry with
     | lst h2 l2 r2=>
      have e:=I.list_inj (by rw[<-hG];exact h1) (by rw[<-hG];exact h2);subst e;exact items h ⟨l1,r1⟩ ⟨l2,r2⟩
   ·rename_i hne;cases rx with
    | lst h1 l1 r1=>
     cases ry with
     | lst h2 l2 r2=>
      have e:=I.list_inj (by rw[<-hG];exact h1) (by rw[<-hG];exact h2);subst e;exact absurd (l1.symm.trans l2) hne
  ·split at h
   ·cases rx with
    | tup h1 l1 r1=>
     cases ry with
     | tup h2 l2 r2=>
      have e:=I.tuple_inj (by rw[<-hG];exact h1) (by rw[<-hG];exact h2);subst e;exact items h ⟨l1,r1⟩ ⟨l2,r2⟩
   ·cases h
  ·exact flat h rx ry
theorem Jl {A:z0a}{ds es:List D}{b:Bool}{jts:List z00}(ih:∀ {x y:D}{v w:V}{u1 u2:z00}{b:Bool},eqK n x y=some b->Rep G H v x->Rep G H w y->RelV v u1->RelV w u2->z2n A s u1 u2 b)
  (h:allO (eqK n) ds es=some b) (r1:RepL G H xs ds) (r2:RepL G H ys es) (v1:Vals xs its) (v2:Vals ys jts) :
  its.toArray.size=jts.toArray.size/\b=(z0d its.toArray.size).all (eAt (eqK n) ds es)/\∀ j (h1:j<its.toArray.size) (h2:j<jts.toArray.size),z2n A s its.toArray[j] jts.toArray[j] (eAt (eqK n) ds es j):=by
 obtain⟨h1,h2,h3⟩:=Pa h;have l1:=v1.length;have l2:=v2.length;have q1:=r1.1;have q2:=r2.1;have z1:its.toArray.size=ds.length:=by rw[z0t];omega
 refine⟨by rw[z0t,z0t];omega,by rw[z1];exact h3,λ j j1 j2=>?_⟩;rw[z0t] at j1 j2;have jx:j<xs.length:=by omega
 have jy:j<ys.length:=by omega
 have hx:xs[j]?=some xs[j]:=by simp[jx]
 have hy:ys[j]?=some ys[j]:=by simp[jy]
 have hd:ds[j]?=some (ds[j]'(by omega)):=z0F (by omega);have he:es[j]?=some (es[j]'(by omega)):=z0F (by omega);obtain⟨u,eu,ru⟩:=v1.get hx;obtain⟨w,ew,rw'⟩:=v2.get hy;have a1:its.toArray[j]=u:=by simpa [z0F j1] using eu
 have a2:jts.toArray[j]=w:=by simpa [z0F j2] using ew
 rw[a1,a2];exact ih (h2 j _ _ hd he) (r1.2 j _ _ hx hd) (r2.2 j _ _ hy he) ru rw'
theorem Ux {ds es:List D}{jts:List z00}(h:ds.length≠es.length) (r1:RepL G H xs ds) (r2:RepL G H ys es) (v1:Vals xs its) (v2:Vals ys jts):(its.toArray.size != jts.toArray.size)=true:=by
 have l1:=v1.length;have l2:=v2.length;have q1:=r1.1;have q2:=r2.1;rw[z0t,z0t];exact bne_iff_ne.mpr (by omega)
theorem Rh (I:Inv X π σ H s) (hG:G.K=X.K):∀ (n:Nat) (A:z0a),A.units+n<z0h->∀ {x y:D}{v w:V}{u1 u2:z00}{b:Bool},eqK n x y=some b->Rep G H v x->Rep G H w y->RelV v u1->RelV w u2->z2n A s u1 u2 b:=by
 have flat:∀ {A:z0a}{x y:D}{v w:V}{u1 u2:z00}{b:Bool},flD x y=some b->Rep G H v x->Rep G H w y->RelV v u1->RelV w u2->z2n A s u1 u2 b:=λ {A x y v w u1 u2 b} h rx ry q1 q2=>by
  unfold flD at h;cases e1:flV x with
  | none=>simp[e1] at h
  | some u=>
   cases e2:flV y with
   | none=>simp[e1,e2] at h
   | some w=>
    simp[e1,e2] at h;obtain⟨z1,z2⟩:=Q0 rx e1;obtain⟨z3,z4⟩:=Q0 ry e2;rw[<-h,<-z1,<-z3];exact eG q1 q2 z2 z4
 intro n
 induction n with
 | zero=>intro A hu x y v w u1 u2 b h rx ry q1 q2;exact flat h rx ry q1 q2
 | succ n ih=>
  intro A hu x y v w u1 u2 b h rx ry q1 q2;have h':=h;have hu1:A.in1.units+n<z0h:=by show A.units+1+n<z0h;omega
  have hu0:A.units<z0h:=by omega
  unfold eqK eqS at h;split at h
  ·cases rx with
   | @lst a _ _ h1 l1 r1=>
    cases ry with
    | @lst c _ _ h2 l2 r2=>
     obtain rfl:u1=.ref a:=q1;obtain rfl:u2=.ref c:=q2;obtain⟨its,v1,p1,_⟩:=I.list (by rw[<-hG];exact h1);obtain⟨jts,v2,p2,_⟩:=I.list (by rw[<-hG];exact h2)
     by_cases hac:a=c
     ·subst hac;have:=WP I hG (n+1) h' (.lst h1 l1 r1) (.lst h2 l2 r2);subst this;exact z6F _
     ·split at h
      ·obtain⟨z1,z2,z3⟩:=Jl (λ q=>ih A.in1 hu1 q) h ⟨l1,r1⟩ ⟨l2,r2⟩ v1 v2;rw[z2];exact z6M hac (z8v p1.isList p2.isList z1 hu0 z3)
      ·rename_i hne;cases h;exact z6M hac (z8w p1.isList p2.isList (Ux hne ⟨l1,r1⟩ ⟨l2,r2⟩ v1 v2) hu0)
  ·cases rx with
   | @tup a _ _ h1 l1 r1=>
    cases ry with
    | @tup c _ _ h2 l2 r2=>
     obtain rfl:u1=.ref a:=q1;obtain rfl:u2=.ref c:=q2;obtain⟨its,v1,p1,_⟩:=I.tuple (by rw[<-hG];exact h1);obtain⟨jts,v2,p2,_⟩:=I.tuple (by rw[<-hG];exact h2)
     by_cases hac:a=c
     ·subst hac;have:=WP I hG (n+1) h' (.tup h1 l1 r1) (.tup h2 l2 r2);subst this;exact z6F _
     ·split at h
      ·obtain⟨z1,z2,z3⟩:=Jl (λ q=>ih A.in1 hu1 q) h ⟨l1,r1⟩ ⟨l2,r2⟩ v1 v2;have q:=z8x (show s.heap.IsTuple a its.toArray from p1) (show s.heap.IsTuple c jts.toArray from p2) hu0 z3;rw[z1,z6N,beq_self_eq_true,z6O,<-z1,<-z2] at q;exact z6M hac q
      ·cases h
  ·exact flat h rx ry q1 q2
end
def rEqP (G:Gx) (neg:Bool):R2:=λ x y H Q=>∃ (A:List Addr) (ds es:List D) (b:Bool),eqvD (.lst ds) (.lst es)=some b/\((RepT G A H x (.lst ds)/\RepT G A H y (.lst es))∨(ds.length=es.length/\RepT G A H x (.tup ds)/\RepT G A H y (.tup es)))/\Q (.bl (if neg then !b else b)) H
theorem u0 (hG:G.K=X.K) (hu:X.A.units+190<z0h):OpR X (z0C .Eq) (rEqP G false):=by
 intro π s σ H x y v u Q I rx ry h;obtain⟨A,ds,es,b,e,hr,k⟩:=h;have fin:EP X π σ Q (.bool b) s:=⟨.bl b,H,I,rfl,k⟩;simp only[eqvD] at e
 rcases hr with ⟨r1,r2⟩ | ⟨hl,r1,r2⟩
 ·obtain⟨a,xs,rfl,h1,q1⟩:=r1.lst;obtain⟨c,ys,rfl,h2,q2⟩:=r2.lst;cases rx;cases ry;obtain⟨its,v1,p1,_⟩:=I.list (by rw[<-hG];exact h1);obtain⟨jts,v2,p2,_⟩:=I.list (by rw[<-hG];exact h2);split at e
  ·obtain⟨z1,z2,z3⟩:=Jl (λ q=>Rh I hG 180 X.A.in1 (by show X.A.units+1+180<z0h;omega) q) e (q1.mono Ar) (q2.mono Ar) v1 v2;exact z8v p1.isList p2.isList z1 (by omega) z3 _ _ _ _ (by rw[<-z2];exact fin)
  ·rename_i hne;cases e;exact z8w p1.isList p2.isList (Ux hne q1 q2 v1 v2) (by omega) _ _ _ _ fin
 ·obtain⟨a,xs,rfl,h1,q1⟩:=r1.tup;obtain⟨c,ys,rfl,h2,q2⟩:=r2.tup;cases rx;cases ry;obtain⟨its,v1,p1,_⟩:=I.tuple (by rw[<-hG];exact h1);obtain⟨jts,v2,p2,_⟩:=I.tuple (by rw[<-hG];exact h2);rw[if_pos hl] at e;obtain⟨z1,z2,z3⟩:=Jl (λ q=>Rh I hG 180 X.A.in1 (by show X.A.units+1+180<z0h;omega) q) e (q1.mono Ar) (q2.mono Ar) v1 v2;have q:=z8x (show s.heap.IsTuple a its.toArray from p1) (show s.heap.IsTuple c jts.toArray from p2) (by omega) z3;rw[z1,z6N,beq_self_eq_true,z6O,<-z1,<-z2] at q;exact q _ _ _ _ fin
theorem u9 (hG:G.K=X.K) (hu:X.A.units+190<z0h):OpR X (z0C .NotEq) (rEqP G true):=by
 intro π s σ H x y v u Q I rx ry h;obtain⟨A,ds,es,b,e,hr,k⟩:=h;have fin:EP X π σ Q (.bool (!b)) s:=⟨.bl (!b),H,I,rfl,k⟩;simp only[eqvD] at e
 rcases hr with ⟨r1,r2⟩ | ⟨hl,r1,r2⟩
 ·obtain⟨a,xs,rfl,h1,q1⟩:=r1.lst;obtain⟨c,ys,rfl,h2,q2⟩:=r2.lst;cases rx;cases ry;obtain⟨its,v1,p1,_⟩:=I.list (by rw[<-hG];exact h1);obtain⟨jts,v2,p2,_⟩:=I.list (by rw[<-hG];exact h2);split at e
  ·obtain⟨z1,z2,z3⟩:=Jl (λ q=>Rh I hG 180 X.A.in1 (by show X.A.units+1+180<z0h;omega) q) e (q1.mono Ar) (q2.mono Ar) v1 v2;exact SeqAt.RcNeAt.lists p1.isList p2.isList z1 (by omega) z3 _ _ _ _ (by rw[<-z2];exact fin)
  ·rename_i hne;cases e;exact SeqAt.RcNeAt.lists_lengths p1.isList p2.isList (Ux hne q1 q2 v1 v2) (by omega) _ _ _ _ fin
 ·obtain⟨a,xs,rfl,h1,q1⟩:=r1.tup;obtain⟨c,ys,rfl,h2,q2⟩:=r2.tup;cases rx;cases ry;obtain⟨its,v1,p1,_⟩:=I.tuple (by rw[<-hG];exact h1);obtain⟨jts,v2,p2,_⟩:=I.tuple (by rw[<-hG];exact h2);rw[if_pos hl] at e;obtain⟨z1,z2,z3⟩:=Jl (λ q=>Rh I hG 180 X.A.in1 (by show X.A.units+1+180<z0h;omega) q) e (q1.mono Ar) (q2.mono Ar) v1 v2;have q:=SeqAt.RcNeAt.tuples (show s.heap.IsTuple a its.toArray from p1) (show s.heap.IsTuple c jts.toArray from p2) (by omega) z3;rw[z1,z6N,beq_self_eq_true,z6O,<-z1,<-z2] at q;exact q _ _ _ _ fin
def rEqA (G:Gx) (neg:Bool):R2:=λ x y H Q=>(λ x y H Q=>scal x y=true/\Q (.bl (if neg then !decide (x=y) else decide (x=y))) H) x y H Q∨rEqP G neg x y H Q
theorem fU (hG:G.K=X.K) (hu:X.A.units+190<z0h):OpR X (z0C .Eq) (rEqA G false):=wk.or (u0 hG hu)
theorem u_ (hG:G.K=X.K) (hu:X.A.units+190<z0h):OpR X (z0C .NotEq) (rEqA G true):=wu.or (u9 hG hu)
theorem Uy {α β:Type} [DecidableEq α] [DecidableEq β] {f:α->β}(h:∀ a b,f a=f b->a=b) (a b:α):decide (f a=f b)=decide (a=b):=by
 by_cases e:a=b
 ·subst e;simp
 ·rw[decide_eq_false e,decide_eq_false λ z=>e (h a b z)]
theorem X3 (neg:Bool):Dm G (rEqA G neg) (eqD neg):=by
 intro A H x y dx dy d Q lv rx ry h k;unfold eqD at h;cases e:eqvD dx dy with
 | none=>simp[e] at h
 | some b=>
  simp only[e,z1z] at h;cases h;unfold eqvD at e;split at e
  ·cases e;rw[rx.int,ry.int];refine .inl ⟨rfl,?_⟩;rw[Uy (f:=V.int) (λ a b z=>by cases z;rfl)];exact k _ H .(23) (.bl _)
  ·cases e;rw[rx.str,ry.str];refine .inl ⟨rfl,?_⟩;rw[Uy (f:=V.str) (λ a b z=>by cases z;rfl)];exact k _ H .(23) (.bl _)
  ·cases e;rw[rx.bl,ry.bl];refine .inl ⟨rfl,?_⟩;rw[Uy (f:=V.bl) (λ a b z=>by cases z;rfl)];exact k _ H .(23) (.bl _)
  ·exact .inr ⟨A,_,_,b,e,.inl ⟨rx,ry⟩,k _ H .(23) (.bl _)⟩
  ·split at e
   ·rename_i hl;exact .inr ⟨A,_,_,b,(by simp only[eqvD];rw[if_pos hl];exact e),.inr ⟨hl,rx,ry⟩,k _ H .(23) (.bl _)⟩
   ·cases e
  ·cases e
def SndC (G:Gx) (r:List V->Hp->VK->Prop) (g:D->Option D):Prop:=∀ (A:List Addr) (H:Hp) (x:V) (dx d:D) (Q:VK),(∀ a∈A,Nt (H a))->RepT G A H x dx->g dx=some d->(∀ v H',Same H H'->Rep G (hid A H') v d->Q v H')->r [x] H Q
def ZG (G:Gx) (r:List V->Hp->VK->Prop) (g:D->D->Option D):Prop:=∀ (A:List Addr) (H:Hp) (x y:V) (dx dy d:D) (Q:VK),(∀ a∈A,Nt (H a))->RepT G A H x dx->RepT G A H y dy->g dx dy=some d->(∀ v H',Same H H'->Rep G (hid A H') v d->Q v H')->r [x,y] H Q
theorem G6 {g:D->Option D}{ρ:Rho}{d:D}(h:uF g fa ρ=some d):∃ x,fa ρ=some x/\g x=some d:=by
 unfold uF at h;cases e:fa ρ with
 | none=>simp[e] at h
 | some x=>exact⟨x,rfl,by simpa [e] using h⟩
theorem fV {g:D->Option D}(s:SndC G r g) {A:List Addr}{σ:St}{H:Hp}{Q:VK}(h:tF G A (uF g fa) σ H Q):tCB r (V6 (tT G A fa) tNil) σ H Q:=by
 obtain⟨ρ,d,o,e,k⟩:=h;obtain⟨x,e1,e2⟩:=G6 e;exact⟨ρ,x,o,e1,λ v H1 s1 r1=>s A H1 v x d Q (o.mono s1).live r1 e2 λ w H2 s2 r2=>k w H2 (s1.trans s2) r2⟩
theorem nu {g:D->D->Option D}(s:ZG G r g) {A:List Addr}{σ:St}{H:Hp}{Q:VK}(h:tF G A (bF g fa fb) σ H Q):tCB r (V6 (tT G A fa) (V6 (tT G A fb) tNil)) σ H Q:=by
 obtain⟨ρ,d,o,e,k⟩:=h;obtain⟨x,y,e1,e2,e3⟩:=Qz e;exact⟨ρ,x,o,e1,λ v H1 s1 r1=>⟨ρ,y,o.mono s1,e2,λ u H2 s2 r2=>s A H2 v u x y d Q ((o.mono s1).mono s2).live (r1.mono s2) r2 e3 λ w H3 s3 r3=>k w H3 (s1.trans (s2.trans s3)) r3⟩⟩
theorem BW {p:Pos}{id:String}{g:D->Option D}(hc:Dd X (.builtin id) r) (s:SndC G r g) (hg:Gl X x) (hm:X.mg x=none) (hv:z0x x=some (.builtin id)) (ha:PU X G a fa)
  (hn:x≠"__name__":=by decide) (hdb:.(3)=false:=by decide) (he:z09 [a] X.env=[.(8)]:=by rfl):PF X G (.Call (.Name x p) [a] [] pos) (uF g fa):=
 λ A=>Bx (Ku hc hg hm hv (Bp (@ha A) DG he) hn hdb he rfl) λ _ _ _ h=>fV s h
theorem Ky {p:Pos}{id:String}{g:D->D->Option D}(hc:Dd X (.builtin id) r) (s:ZG G r g) (hg:Gl X x) (hm:X.mg x=none) (hv:z0x x=some (.builtin id)) (ha:PU X G a fa) (hb:PU X G b fb)
  (hn:x≠"__name__":=by decide) (hdb:.(3)=false:=by decide) (he:z09 [a,b] X.env=.(8)::z09 [b] X.env:=by rfl) (he2:z09 [b] X.env=[(false,eval b X.env)]:=by rfl):PF X G (.Call (.Name x p) [a,b] [] pos) (bF g fa fb):=
 λ A=>Bx (Ku hc hg hm hv (Bp (@ha A) (Bp (@hb A) DG he2) he) hn hdb he (by rw[he2];rfl)) λ _ _ _ h=>nu s h
theorem Lq {p:Pos}{T:String}{g:D->Option D}(hc:Dd X (.type T) r) (s:SndC G r g) (hg:Gl X x) (hm:X.mg x=none) (hv:z0x x=some (.type T)) (ha:PU X G a fa)
  (hn:x≠"__name__":=by decide) (hdb:.(3)=false:=by decide) (he:z09 [a] X.env=[.(8)]:=by rfl):PF X G (.Call (.Name x p) [a] [] pos) (uF g fa):=
 λ A=>Bx (Gp hc hg hm hv (Bp (@ha A) DG he) hn hdb he rfl) λ _ _ _ h=>fV s h
theorem Q3:SndC G (λ xs H Q=>∃ x n,xs=[x]/\LenV G.K x H n/\Q (.int n) H) lenD:=by
 intro A H x dx d Q lv rx h k;unfold lenD at h;split at h
 ·split at h
  ·rename_i hz;cases h;rw[rx.str];exact⟨_,_,rfl,⟨hz,rfl⟩,k _ H .(23) (.int _)⟩
  ·cases h
 ·cases h;obtain⟨p,xs,rfl,h1,r⟩:=rx.lst;exact⟨_,_,rfl,.inl ⟨xs,h1,rfl⟩,by rw[r.1];exact k _ H .(23) (.int _)⟩
 ·cases h;obtain⟨p,xs,rfl,h1,r⟩:=rx.tup;exact⟨_,_,rfl,.inr ⟨xs,h1,rfl⟩,by rw[r.1];exact k _ H .(23) (.int _)⟩
 ·cases h
theorem Bc (hG:G.K=X.K):Dd X (.builtin "len") (λ xs H Q=>∃ x n,xs=[x]/\LenV G.K x H n/\Q (.int n) H):=by rw[hG];exact dh
theorem Ri:ZG G (λ xs H Q=>∃ i j,xs=[.int i,.int j]/\Q (.int (if j > i then j else i)) H) maxD:=by
 intro A H x y dx dy d Q lv rx ry h k;obtain⟨i,j,rfl,rfl,h⟩:=Nr h;cases h;exact⟨i,j,by rw[rx.int,ry.int],k _ H .(23) (.int _)⟩
theorem WQ:ZG G (λ xs H Q=>∃ i j,xs=[.int i,.int j]/\Q (.int (if j<i then j else i)) H) minD:=by
 intro A H x y dx dy d Q lv rx ry h k;obtain⟨i,j,rfl,rfl,h⟩:=Nr h;cases h;exact⟨i,j,by rw[rx.int,ry.int],k _ H .(23) (.int _)⟩
theorem fW:SndC G (λ xs H Q=>∃ p ys,xs=[.ref p]/\(SqL G.K H p ys∨SqT G.K H p ys)/\∀ l,H l=none->Q (.ref l) (upd H l (.lst ys))) fG:=by
 intro A H x dx d Q lv rx h k;unfold fG at h;split at h
 ·cases h;obtain⟨p,xs,rfl,h1,r⟩:=rx.lst;exact⟨p,xs,rfl,.inl h1,λ l hl=>k _ _ (Al hl _) (De lv hl r)⟩
 ·cases h;obtain⟨p,xs,rfl,h1,r⟩:=rx.tup;exact⟨p,xs,rfl,.inr h1,λ l hl=>k _ _ (Al hl _) (De lv hl r)⟩
 ·cases h
theorem vA (ha:PU X G a fa):PF X G (.UnaryOp .USub a pos) (uF negD fa):=λ A=>Bx (wj uY (@ha A)) λ σ H Q ⟨ρ,d,o,e,k⟩=>by
 obtain⟨x,e1,e2⟩:=G6 e;refine⟨ρ,x,o,e1,λ v H1 s1 r1=>?_⟩;unfold negD at e2;split at e2
 ·cases e2;exact⟨_,r1.int,k _ H1 s1 (.int _)⟩
 ·cases e2
end
def rQ (G:Gx) (F2 H H':Hp) (x:V) (d:D):Prop:=Same H H'/\∀ B:List Addr,(∀ a∈B,Nt (H a))->Same F2 (hid B H)->Rep G (hid B H') x d
theorem Rj {G:Gx}{x:V}{d:D}(h:H'=H/\Rep G F2 x d):rQ G F2 H H' x d:=by
 obtain⟨rfl,r⟩:=h;exact⟨Same.refl _,λ B _ sm=>r.mono sm⟩
structure Src (G:Gx) (J:It) (ds:List D) (F1 F2:Hp):Prop where
 go:∀ i H,Same F1 H->i<ds.length->J.go i H
 yld:∀ i H x H' d,Same F1 H->ds[i]?=some d->J.yld i H x H'->rQ G F2 H H' x d
 stop:∀ i H,Same F1 H->ds.length<=i->J.stop i H
def tI (G:Gx) (A:List Addr) (top:Bool) (f:FI):TI:=λ σ H R=>∃ ρ ds,Okp G A σ H ρ/\f ρ=some ds/\∀ J H1,Same H H1->Src G J ds (if top then H1 else hid A H1) (hid A H1)->R J H1
def PFI (X:Cx) (G:Gx) (top:Bool) (tg e:Expr) (f:FI):Prop:=∀ ⦃A⦄,PI X tg e (tI G A top f)
theorem Nu {t t':TI}(h:PI X tg e t) (w:∀ σ H Q,t' σ H Q->t σ H Q):PI X tg e t':=λ π s σ H Q I q=>h π s σ H Q I (w σ H Q q)
theorem piOr {t t':TI}(h:PI X tg e t) (h':PI X tg e t'):PI X tg e (λ σ H R=>t σ H R∨t' σ H R):=λ π s σ H Q I q=>by
 rcases q with q | q
 ·exact h π s σ H Q I q
 ·exact h' π s σ H Q I q
section
variable {G:Gx}{a b c:Expr}{fa fb fc:FE}
theorem n6 {ds:List D}(h:SqT G.K F1 p xs) (r:RepL G F2 xs ds):Src G (Itt G.K p) ds F1 F2 where
 go:=λ i H s hi=>⟨xs,xs[i]'(by rw[r.1];exact hi),Dl s h,by simp[r.1,hi]⟩
 yld:=λ i H x H' d s hd y=>Rj ⟨y.1,r.2 i x d (y.2 xs (Dl s h)) hd⟩
 stop:=λ i H s hi=>⟨xs,Dl s h,by rw[r.1];exact hi⟩
theorem n8 (hG:G.K=X.K) (h:PF X G a fa):PFI X G false tg a (seqI fa):=λ A=>Nu (piOr (mX (@h A)) (uU (@h A))) λ σ H R ⟨ρ,ds,o,e,k⟩=>by
 unfold seqI at e;split at e
 ·rename_i ds' e1;cases e;refine .inl ⟨ρ,_,o,e1,λ v H1 s1 r1=>?_⟩;cases r1 with
  | lst h l r=>exact⟨_,rfl,⟨_,by rw[<-hG];exact Ar.seq h⟩,by rw[<-hG];exact k _ H1 s1 { go:=λ i H s hi=>⟨_,_,s.seq h,by simp[l,hi];rfl⟩,yld:=λ i H x H' d s hd y=>Rj ⟨y.1,r i x d (y.2 _ (s.seq h)) hd⟩,stop:=λ i H s hi=>⟨_,s.seq h,by rw[l];exact hi⟩ }⟩
 ·rename_i ds' e1;cases e;refine .inr ⟨ρ,_,o,e1,λ v H1 s1 r1=>?_⟩;cases r1 with
  | tup h l r=>exact⟨_,rfl,⟨_,by rw[<-hG];exact Dl Ar h⟩,by rw[<-hG];exact k _ H1 s1 (n6 h ⟨l,r⟩)⟩
 ·cases e
theorem fY {d:D}(h:(rngD n)[i]?=some d):d=.int i:=by
 unfold rngD at h;rw[z0q] at h;cases e:(z0d n)[i]? with
 | none=>rw[e] at h;cases h
 | some j=>
  rw[e] at h;have:=(z1r.mp e);obtain⟨hi,ej⟩:=this;rw[List.getElem_range] at ej;subst ej;exact (z0w h).symm
theorem n_:Src G (Itr 0 n) (rngD n) F1 F2 where
 go:=λ i H s hi=>by unfold rngD at hi;show i<n;simpa using hi
 yld:=λ i H x H' d s hd y=>by
  obtain⟨y1,y2⟩:=y;rw[fY hd,y2,Int.zero_add];exact Rj ⟨y1,.int _⟩
 stop:=λ i H s hi=>by unfold rngD at hi;show n<=i;simpa using hi
theorem G7 {top:Bool}{p:Pos}(hg:Gl X "range") (hm:X.mg "range"=none) (h:PU X G a fa) (hs:z09 [a] X.env=[.(8)]:=by rfl):PFI X G top tg (.Call (.Name "range" p) [a] [] pos) (rngI fa):=λ A=>Nu (bI hg hm (Bp (@h A) DG hs) hs) λ σ H R ⟨ρ,ds,o,e,k⟩=>by
 unfold rngI at e;split at e
 ·rename_i j e1;split at e
  ·rename_i hj;cases e;exact⟨ρ,_,o,e1,λ v H1 s1 r1=>⟨j,by rw[r1.int],hj.1,hj.2,k _ H1 s1 n_⟩⟩
  ·cases e
 ·cases e
end
structure OkW (G:Gx) (A0:List Addr) (He:Hp) (A:List Addr) (σ:St) (H:Hp) (ρ:Rho):Prop where
 same:Same He H
 sub:∀ a∈A0,a∈A
 fr:∀ a∈A,a∈A0∨He a=none
 l0:∀ a∈A0,He a≠none
 ok:Okp G A σ H ρ
 ow0:∀ (i:Nat) (d:D) (a:Addr),ρ[i]?=some (.ow d)->σ[i]?=some (some (.ref a))->a∉A0
 lt:∀ (x:Addr) (d:D),G.lent=some x->ρ[0]?=some (.ow d)->σ[0]?=some (some (.ref x))
def OkS (G:Gx) (A0:List Addr) (He:Hp) (σ:St) (H:Hp) (ρ:Rho):Prop:=∃ A,OkW G A0 He A σ H ρ
def Tz (G:Gx) (A0:List Addr) (He:Hp) (D:Ends):Out->Prop
 | .nx ρ=>∀ σ H,OkS G A0 He σ H ρ->D.nx σ H
 | .rt d ρ=>∀ v σ H A,OkW G A0 He A σ H ρ->Rep G (hid A H) v d->D.rt v H
 | .bk ρ=>∀ σ H,OkS G A0 He σ H ρ->D.bk σ H
 | .ct ρ=>∀ σ H,OkS G A0 He σ H ρ->D.ct σ H
def tS (G:Gx) (A0:List Addr) (He:Hp) (g:FS):TS:=λ D σ H=>∃ ρ o,OkS G A0 He σ H ρ/\g ρ=some o/\Tz G A0 He D o
def PSD (X:Cx) (G:Gx) (st:Stmt) (g:FS):Prop:=∀ ⦃A0⦄ He,PS X st (tS G A0 He g)
def PSDs (X:Cx) (G:Gx) (st:List Stmt) (g:FS):Prop:=∀ ⦃A0⦄ He,PSs X st (tS G A0 He g)
theorem Okp.set {G:Gx}{A:List Addr}{σ:St}{H:Hp}{ρ:Rho}{v:V}{d:D}(o:Okp G A σ H ρ) (r:Rep G (hid A H) v d) (i:Nat):Okp G A (σ.set i (some v)) H (ρ.set i (.fz d)):=by
 have key:∀ (j:Nat) (z:Slot),(ρ.set i (.fz d))[j]?=some z->(j=i/\z=.fz d/\i<ρ.length)∨(j≠i/\ρ[j]?=some z):=λ j z h=>by
  by_cases hj:j=i
  ·subst hj
   by_cases hl:j<ρ.length
   ·rw[z2k hl] at h;exact .inl ⟨rfl,(z0w h).symm,hl⟩
   ·rw[z2R (by simpa using z1_.mp hl)] at h;cases h
  ·rw[z1m (z0n hj)] at h;exact .inr ⟨hj,h⟩
 have keyS:∀ (j:Nat),j≠i->(σ.set i (some v))[j]?=σ[j]?:=λ j hj=>z1m (z0n hj);refine⟨by rw[z3S,z3S];exact o.len,o.live,λ j e h=>?_,λ j e h=>?_,λ j k e f p h1 h2 h3 h4=>?_⟩
 ·rcases key j _ h with ⟨hj,hz,hl⟩ | ⟨hj,hz⟩
  ·cases hz;subst hj;exact⟨v,by rw[z2k (by rw[o.len];exact hl)],r⟩
  ·obtain⟨u,q1,q2⟩:=o.fz j e hz;exact⟨u,by rw[keyS j hj];exact q1,q2⟩
 ·rcases key j _ h with ⟨hj,hz,hl⟩ | ⟨hj,hz⟩
  ·cases hz
  ·obtain⟨u,q1,q2⟩:=o.ow j e hz;exact⟨u,by rw[keyS j hj];exact q1,q2⟩
 ·rcases key j _ h1 with ⟨_,hz,_⟩ | ⟨hj,hz⟩
  ·cases hz
  ·rcases key k _ h2 with ⟨_,hz',_⟩ | ⟨hk,hz'⟩
   ·cases hz'
   ·rw[keyS j hj] at h3;rw[keyS k hk] at h4;exact o.inj j k e f p hz hz' h3 h4
theorem OkW.mono {G:Gx}{A0:List Addr}{He:Hp}{A:List Addr}{σ:St}{H H':Hp}{ρ:Rho}(o:OkW G A0 He A σ H ρ) (s:Same H H'):OkW G A0 He A σ H' ρ:=⟨o.same.trans s,o.sub,o.fr,o.l0,o.ok.mono s,o.ow0,o.lt⟩
theorem OkW.set {G:Gx}{A0:List Addr}{He:Hp}{A:List Addr}{σ:St}{H:Hp}{ρ:Rho}{v:V}{d:D}(o:OkW G A0 He A σ H ρ) (r:Rep G (hid A H) v d) (i:Nat):OkW G A0 He A (σ.set i (some v)) H (ρ.set i (.fz d)):=⟨o.same,o.sub,o.fr,o.l0,o.ok.set r i,λ j e a h1 h2=>by
  have hj:j≠i:=by
   intro z;subst z
   by_cases hl:j<ρ.length
   ·rw[z2k hl] at h1;cases h1
   ·rw[z2R (by simpa using z1_.mp hl)] at h1;cases h1
  rw[z1m (z0n hj)] at h1 h2;exact o.ow0 j e a h1 h2,λ x e hx h0=>by
  by_cases hi:i=0
  ·subst hi;cases ρ with
   | nil=>cases h0
   | cons a r=>cases h0
  ·rw[z1m hi] at h0 ⊢;exact o.lt x e hx h0⟩
theorem OkW.base {G:Gx}{Hf:Hp}{ρ:Rho}(o:OkW G A0 Hf A σ H ρ) (s:Same He Hf) (l0:∀ a∈A0,He a≠none):OkW G A0 He A σ H ρ:=
 ⟨s.trans o.same,o.sub,λ a ha=>(o.fr a ha).imp id λ z=>s.free z,l0,o.ok,o.ow0,o.lt⟩
theorem OkW.here {G:Gx}{ρ:Rho}(o:OkW G A0 He A σ H ρ):Same He (hid (A.filter λ a=>decide (a∉A0)) H)/\OkW G A0 (hid (A.filter λ a=>decide (a∉A0)) H) A σ H ρ:=by
 have hb:∀ b,b∈(A.filter λ a=>decide (a∉A0))↔b∈A/\b∉A0:=λ b=>by simp[z2s]
 have s1:Same He (hid (A.filter λ a=>decide (a∉A0)) H):=λ b u h=>by
  rw[CP]
  ·exact o.same b u h
  ·intro z;obtain⟨z1,z2⟩:=(hb b).mp z
   rcases o.fr b z1 with q | q
   ·exact z2 q
   ·rw[q] at h;cases h
 refine⟨s1,Ar,o.sub,λ a ha=>?_,λ a ha h=>?_,o.ok,o.ow0,o.lt⟩
 ·by_cases hz:a∈A0
  ·exact .inl hz
  ·right;unfold hid;rw[if_pos ((hb a).mpr ⟨ha,hz⟩)]
 ·rw[CP (λ z=>((hb a).mp z).2 ha)] at h;exact (o.ok.live a (o.sub a ha)).ne h
theorem OkW.plain {G:Gx}{ρ:Rho}(sub:∀ a∈A0,a∈B) (o:OkW G A0 (hid (B.filter λ a=>decide (a∉A0)) H1) A σ H ρ):Same (hid B H1) (hid A H):=λ b u h=>by
 unfold hid at h;split at h
 ·cases h
 ·rename_i hb;have e:hid (B.filter λ a=>decide (a∉A0)) H1 b=some u:=by
   rw[CP (λ z=>hb (z2s.mp z).1)];exact h
  rw[CP]
  ·exact o.same b u e
  ·intro z
   rcases o.fr b z with q | q
   ·exact hb (sub b q)
   ·rw[q] at e;cases e
section
variable {G:Gx}{a b c:Expr}{fa fb fc:FE}{ga:FT}{rest:List Stmt}{g gs gb:FS}
theorem Be:PSDs X G [] nxF:=λ A0 He π s σ H D I ⟨ρ,o,ok,e,k⟩=>by
 cases e;exact Ln π s σ H D I (k σ H ok)
theorem Ac (h1:PSD X G st g) (h2:PSDs X G rest gs):PSDs X G (st::rest) (seqF g gs):=λ A0 He π s σ H D I ⟨ρ,o,ok,e,k⟩=>by
 refine RM (@h1 A0 He) (@h2 A0 He) π s σ H D I ?_;unfold seqF at e;split at e
 ·rename_i ρ' e1;exact⟨ρ,_,ok,e1,λ σ' H' ok'=>⟨ρ',o,ok',e,k⟩⟩
 ·rename_i hno;refine⟨ρ,o,ok,e,?_⟩;cases o with
  | nx ρ'=>exact absurd e (hno ρ')
  | rt d ρ'=>exact k
  | bk ρ'=>exact k
  | ct ρ'=>exact k
theorem Ae (h1:PSD X G st g):PSDs X G [st] g:=λ A0 He=>Yu (@h1 A0 He)
theorem By {s1 s2:List Stmt}(ht:PFT X G c ga) (h1:PSDs X G s1 g) (h2:PSDs X G s2 gs):PSD X G (.If c s1 s2 pos) (ifS ga g gs):=λ A0 He π s σ H D I ⟨ρ,o,⟨A,w⟩,e,k⟩=>by
 refine rB (@ht A) (@h1 A0 He) (@h2 A0 He) π s σ H D I ?_;unfold ifS at e;split at e
 ·rename_i e1;exact⟨ρ,_,w.ok,e1,λ H1 s1=>iteT ⟨ρ,o,⟨A,w.mono s1⟩,e,k⟩⟩
 ·rename_i e1;exact⟨ρ,_,w.ok,e1,λ H1 s1=>iteF ⟨ρ,o,⟨A,w.mono s1⟩,e,k⟩⟩
 ·cases e
theorem vB {ρ:Rho}{o:Out}{D:Ends}(w:OkW G A0 He A σ H ρ) (e:setF i fa ρ=some o) (k:Tz G A0 He D o):tAsg (tF G A fa) (Hq i) D σ H:=by
 unfold setF at e;cases e1:fa ρ with
 | none=>simp[e1] at e
 | some d=>
  simp only[e1,z1z] at e;cases e;exact⟨ρ,d,w.ok,e1,λ v H1 s1 r1=>k _ _ ⟨A,(w.mono s1).set r1 i⟩⟩
theorem oA {p:Pos}(h:∀ te,PE X a te->PS X (.Assign [.Name x p] a pos) (tAsg te (Hq i))) (ha:PF X G a fa):PSD X G (.Assign [.Name x p] a pos) (setF i fa):=λ A0 He π s σ H D I ⟨ρ,o,⟨A,w⟩,e,k⟩=>
 h _ (@ha A) π s σ H D I (vB w e k)
theorem Ai (ha:PF X G a fa):PSD X G (.Return (some a) pos) (retF fa):=λ A0 He π s σ H D I ⟨ρ,o,⟨A,w⟩,e,k⟩=>by
 refine uQ (@ha A) π s σ H D I ?_;unfold retF at e;cases e1:fa ρ with
 | none=>simp[e1] at e
 | some d=>
  simp only[e1,z1z] at e;cases e;exact⟨ρ,d,w.ok,e1,λ v H1 s1 r1=>k v σ H1 A (w.mono s1) r1⟩
theorem Dn (ha:PF X G a fa) (hs:z1o a none pos.line X.env=pure false:=by rfl):PSD X G (.Expr a pos) (Fw fa):=λ A0 He π s σ H D I ⟨ρ,o,⟨A,w⟩,e,k⟩=>by
 refine Yv (@ha A) hs π s σ H D I ?_;unfold Fw at e;cases e1:fa ρ with
 | none=>simp[e1] at e
 | some d=>
  simp only[e1,z1z] at e;cases e;exact⟨ρ,d,w.ok,e1,λ v H1 s1 r1=>k _ _ ⟨A,w.mono s1⟩⟩
theorem Hz:PSD X G st badF:=λ A0 He π s σ H D I ⟨ρ,o,ok,e,k⟩=>by cases e
def tGD (G:Gx) (A0:List Addr) (He:Hp) (g:FG):TG:=λ v σ H Q=>∃ A ρ d ρ',OkW G A0 He A σ H ρ/\Rep G (hid A H) v d/\g d ρ=some ρ'/\∀ σ' H',OkS G A0 He σ' H' ρ'->Q σ' H'
def PGD (X:Cx) (G:Gx) (tg:Expr) (g:FG):Prop:=∀ ⦃A0⦄ He,PG X tg (tGD G A0 He g)
theorem Ci (h:PG X tg (Hq i)):PGD X G tg (Bv i):=λ A0 He π s σ H v u Q I r ⟨A,ρ,d,ρ',w,rv,e,k⟩=>by
 cases e;exact h π s σ H v u Q I r (k _ _ ⟨A,w.set rv i⟩)
theorem Tz.base {A0:List Addr}{He Hf:Hp}{D:Ends}{o:Out}(k:Tz G A0 He D o) (s:Same He Hf) (l0:∀ a∈A0,He a≠none):Tz G A0 Hf D o:=by
 cases o with
 | nx ρ=>exact λ σ H ⟨A,w⟩=>k σ H ⟨A,w.base s l0⟩
 | rt d ρ=>exact λ v σ H A w r=>k v σ H A (w.base s l0) r
 | bk ρ=>exact λ σ H ⟨A,w⟩=>k σ H ⟨A,w.base s l0⟩
 | ct ρ=>exact λ σ H ⟨A,w⟩=>k σ H ⟨A,w.base s l0⟩
theorem Cz {it:Expr}{src:FI}{fg:FG}(hp:z4a .(0) X.A X.env X.xe) (hc:X.calm=true) (hi:PFI X G false tg it src) (hg:PGD X G tg fg) (hb:PSDs X G body gb)
  (hs:∀ x,z3c it X.env x=pure x:=by intro _;rfl):PSD X G (.For tg it body [] pos) (forS src fg gb):=λ A0 He π s σ H D I ⟨ρ,o,⟨A,w⟩,e,k⟩=>by
 cases e1:src ρ with
 | none=>simp[forS,e1] at e
 | some ds=>
  have e':forF (λ d ρ=>(fg d ρ).bind gb) ds ρ=some o:=by
   have e2:forF (tgB fg gb) ds ρ=some o:=by simpa [forS,e1] using e
   exact e2
  have hb':PSs X body (λ D σ H=>∃ A0 He,tS G A0 He gb D σ H):=λ π s σ H D I ⟨A0,He,q⟩=>@hb A0 He π s σ H D I q;have hg':PG X tg (λ v σ H Q=>∃ A0 He,tGD G A0 He fg v σ H Q):=λ π s σ H v u Q I r ⟨A0,He,q⟩=>@hg A0 He π s σ H v u Q I r q;refine dW hp hc (@hi A) hg' hb' hs π s σ H D I ⟨ρ,ds,w.ok,e1,λ J H1 s1 sr=>?_⟩;obtain⟨sHe,w2⟩:=(w.mono s1).here;have k2:=k.base sHe w.l0;generalize hHf:hid (A.filter λ a=>decide (a∉A0)) H1=Hf at sHe w2 k2;refine⟨λ i m σ' H'=>m=ds.length-i/\i<=ds.length/\∃ ρ',OkS G A0 Hf σ' H' ρ'/\forF (λ d ρ=>(fg d ρ).bind gb) (ds.drop i) ρ'=some o,⟨ds.length,by simp,z19 _,ρ,⟨A,w2⟩,by simpa using e'⟩,?_⟩;rintro i m σ3 H3 ⟨rfl,hil,ρ3,⟨B,w3⟩,e3⟩;have pl:Same (hid A H1) (hid B H3):=by rw[<-hHf] at w3;exact OkW.plain w.sub w3
  by_cases hlt:i<ds.length
  ·right;have hd:ds[i]?=some ds[i]:=by simp[hlt]
   have ed:ds.drop i=ds[i]::ds.drop (i+1):=z4s hlt;rw[ed] at e3;unfold forF at e3;refine⟨sr.go i H3 (pl.trans Ar) hlt,λ σ' H'=>∃ ρ',OkS G A0 Hf σ' H' ρ'/\forF (λ d ρ=>(fg d ρ).bind gb) (ds.drop (i+1)) ρ'=some o,λ σ' H' q=>⟨ds.length-(i+1),by omega,rfl,hlt,q⟩,λ x H' y=>?_⟩;obtain⟨sy,rx⟩:=sr.yld i H3 x H' _ (pl.trans Ar) hd y;refine⟨A0,Hf,B,ρ3,ds[i],?_⟩;cases e4:fg ds[i] ρ3 with
   | none=>simp[e4] at e3
   | some ρ4=>
    refine⟨ρ4,w3.mono sy,rx B w3.ok.live pl,rfl,λ σ5 H5 ok5=>⟨A0,Hf,ρ4,?_⟩⟩;cases e5:gb ρ4 with
    | none=>simp[e4,e5] at e3
    | some o5=>
     refine⟨o5,ok5,rfl,?_⟩;cases o5 with
     | nx ρ5=>
      simp only[e4,e5,z0M] at e3;exact λ σ' H' ok'=>⟨ρ5,ok',e3⟩
     | ct ρ5=>
      simp only[e4,e5,z0M] at e3;exact λ σ' H' ok'=>⟨ρ5,ok',e3⟩
     | bk ρ5=>
      simp only[e4,e5,z0M] at e3;cases e3;exact λ σ' H' ok'=>k2 σ' H' ok'
     | rt d5 ρ5=>
      simp only[e4,e5,z0M] at e3;cases e3;exact k2
  ·left;have ei:i=ds.length:=by omega
   subst ei;rw[z6P] at e3;cases e3;exact⟨sr.stop _ H3 (pl.trans Ar) (z06 _),k2 σ3 H3 ⟨B,w3⟩⟩
theorem bY (n:Nat) (hp:z4a .(0) X.A X.env X.xe) (ht:PFT X G c ga) (hb:PSDs X G body gb):PSD X G (.While c body [] pos) (Gq ga gb n):=λ A0 He π s σ H D I ⟨ρ,o,ok,e,k⟩=>by
 have ht':PT X c (λ σ H Q=>∃ A,tFT G A ga σ H Q):=λ π s σ H Q I ⟨A,q⟩=>@ht A π s σ H Q I q;refine dR hp ht' (@hb A0 He) π s σ H D I ⟨λ m σ' H'=>∃ ρ',OkS G A0 He σ' H' ρ'/\Gq ga gb m ρ'=some o,⟨n,ρ,ok,e⟩,?_⟩;rintro m σ1 H1 ⟨ρ1,⟨A,w1⟩,e1⟩;cases m with
 | zero=>cases e1
 | succ m=>
  unfold Gq at e1;cases e2:ga ρ1 with
  | none=>simp[e2] at e1
  | some t=>
   refine⟨A,ρ1,t,w1.ok,e2,λ H2 s2=>?_⟩;cases t with
   | false=>
    refine iteF ?_;simp only[e2] at e1;cases e1;exact k σ1 H2 ⟨A,w1.mono s2⟩
   | true=>
    refine iteT ⟨λ σ' H'=>∃ ρ',OkS G A0 He σ' H' ρ'/\Gq ga gb m ρ'=some o,λ σ' H' q=>⟨m,z4f m,q⟩,ρ1,?_⟩;simp only[e2] at e1;cases e3:gb ρ1 with
    | none=>simp[e3] at e1
    | some o3=>
     refine⟨o3,⟨A,w1.mono s2⟩,rfl,?_⟩;cases o3 with
     | nx ρ5=>simp only[e3] at e1;exact λ σ' H' ok'=>⟨ρ5,ok',e1⟩
     | ct ρ5=>simp only[e3] at e1;exact λ σ' H' ok'=>⟨ρ5,ok',e1⟩
     | bk ρ5=>simp only[e3] at e1;cases e1;exact λ σ' H' ok'=>k σ' H' ok'
     | rt d5 ρ5=>simp only[e3] at e1;cases e1;exact k
end
def spD (G:Gx) (g:List D->Option D):Sp:=λ vs H Q _=>∃ A ds d,(∀ a∈A,Nt (H a))/\RepL G (hid A H) vs ds/\g ds=some d/\∀ v H',Same H H'->Rep G (hid A H') v d->Q v H'
section
variable {G:Gx}{a:Expr}{es:List Expr}{fs:FA}{p:Pos}
theorem xP {k:Nat}{f:Addr}{g:List D->Option D}(F:FnOk X.prog X.w X.K X.mg X.base CX0 k f fd ps (spD G g)) (hr:Room k X.A) (hg:Gl X x) (hm:X.mg x=some (.ref f)) (hk:z1L X.K (.ref f)=true)
  (hb:Binds X.K fd ps []) (ha:PFA X G (a::es) fs) (hdb:.(3)=false:=by decide) (he:z09 (a::es) X.env=.(8)::z09 es X.env:=by rfl) (hpl:.(37).any (·.1)=false:=by rfl) :
  PF X G (.Call (.Name x p) (a::es) [] pos) (Am g fs):=λ A=>Bx (mq F hr hg hm hk hb .nil WF (@ha A) hdb he hpl) λ σ H Q ⟨ρ,d,o,e,k⟩=>by
 unfold Am at e;cases e1:fs ρ with
 | none=>simp[e1] at e
 | some ds=>
  have e':g ds=some d:=by simpa [e1] using e
  refine⟨ρ,ds,o,e1,λ vs H1 s1 r1=>⟨A,ds,d,(o.mono s1).live,by rw[z1g];exact r1,e',λ v H2 s2 r2=>k v H2 (s1.trans s2) r2⟩⟩
end
theorem Rk {G:Gx}{vs:List V}{ds:List D}(live:∀ a∈A,Nt (H a)) (r:RepL G (hid A H) vs ds) (hn:vs.length<=N.length):OkS G A H (start N vs) H (Ew N.length ds):=by
 have key:∀ (i:Nat) (z:Slot),(Ew N.length ds)[i]?=some z->(∃ d,z=.fz d/\ds[i]?=some d)∨z=.un:=λ i z h=>by
  unfold Ew at h
  by_cases hi:i<ds.length
  ·rw[z2c (by simpa using hi),z0q] at h;cases e:ds[i]? with
   | none=>rw[e] at h;cases h
   | some d=>rw[e] at h;exact .inl ⟨d,(z0w h).symm,rfl⟩
  ·rw[z1Y (by simpa using z1_.mp hi),z6p] at h;split at h
   ·exact .inr (z0w h).symm
   ·cases h
 refine⟨A,Same.refl H,λ _ h=>h,λ a h=>.inl h,λ a ha=>(live a ha).ne,⟨?_,live,λ i d h=>?_,λ i d h=>?_,λ i j d e a h _ _ _=>?_⟩,λ i d a h _=>?_,λ x d _ h=>?_⟩
 ·unfold L2.start Ew;rw[z0L,z0L,z07,z07,z4k,z4k,r.1]
 ·rcases key i _ h with ⟨d',e,hd⟩ | e
  ·cases e;obtain⟨v,h1,h2⟩:=r.get hd;refine⟨v,?_,h2⟩;unfold L2.start;rw[z2c (by rw[z07];exact (z1r.mp h1).1),z0q,h1];rfl
  ·cases e
 ·rcases key i _ h with ⟨d',e,hd⟩ | e
  ·cases e
  ·cases e
 ·rcases key i _ h with ⟨d',e,hd⟩ | e
  ·cases e
  ·cases e
 ·rcases key i _ h with ⟨d',e,hd⟩ | e
  ·cases e
  ·cases e
 ·rcases key 0 _ h with ⟨d',e,hd⟩ | e
  ·cases e
  ·cases e
theorem fn_D {G:Gx}{base:Heap}{f:Addr}{k:Nat}{b:FS}(F:Fun G.K x qual st f fd) (S:FnScope N ps (Ab st)) (hl:ps.length<=N.length)
  (hb:∀ (cdv:z00) (A:z0a) (outer:List Env) (s:z03) (H:Hp) (E:XK),Room k (A.deeper (z1E qual (Ab st) s.heap.objs.size f cdv))->PSDs (cxOf CX0 P w G.K mg base N qual (Ab st) f cdv A outer s H E).nox G (B_ st) b) :
  FnOk P w G.K mg base CX0 (k+1) f fd ps (spD G (runF N.length ps.length b)):=by
 refine F.ok S (λ vs H Q E h=>?_) (λ cdv A outer s H vs Q E hr h=>?_)
 ·obtain⟨A,ds,d,lv,r,e,_⟩:=h;unfold runF at e;split at e
  ·rename_i hz;rw[r.1];exact hz
  ·cases e
 ·obtain⟨A0,ds,d,lv,r,e,k⟩:=h;unfold runF at e;split at e
  ·rename_i hz;have hzz:=hb cdv A outer s H E hr;refine⟨_,@hzz A0 H,Ew N.length ds,?_⟩;cases e1:b (Ew N.length ds) with
   | none=>simp[e1] at e
   | some o=>
    refine⟨o,Rk lv r (by rw[r.1,hz];exact hl),rfl,?_⟩;cases o with
    | nx ρ=>
     simp only[e1] at e;cases e;exact λ σ H' ⟨A,w⟩=>k _ H' w.same .non
    | rt d' ρ'=>
     simp only[e1] at e;cases e;exact λ v σ H' A w r'=>k v H' w.same (r'.mono (J0 w.sub))
    | bk ρ=>simp[e1] at e
    | ct ρ=>simp[e1] at e
  ·cases e
section
variable {G:Gx}{a b c:Expr}{fa fb fc:FE}{px:Pos}{t:Str}{elt iter:Expr}{ifs:List Expr}{ga:FT}{fe:FE}{src:FI}
def PFTs (X:Cx) (G:Gx) (ifs:List Expr) (f:FT):Prop:=∀ ⦃A⦄,PTs X ifs (tFT G A f)
theorem DN:PFTs X G [] allT:=λ A π s σ H Q I ⟨ρ,b,o,e,k⟩=>by
 cases e;exact nH π s σ H Q I (k H .(23))
theorem Nv (h:PFT X G a ga):PFTs X G [a] ga:=λ A=>nJ (@h A)
theorem Okp.fill {Hc:Hp}{ρ:Rho}(o:Okp G A σ H ρ) (s:Same H Hc) (hp:H p=none) (hc:Nt (Hc p)):Okp G (p::A) σ Hc ρ:=by
 have sm:Same (hid A H) (hid (p::A) Hc):=λ b u h=>by
  unfold hid at h;split at h
  ·cases h
  ·rename_i hb;rw[CP]
   ·exact s b u h
   ·intro z
    rcases z0i.mp z with z | z
    ·rw[z,hp] at h;cases h
    ·exact hb z
 refine⟨o.len,λ a ha=>?_,λ i d h=>?_,λ i d h=>?_,o.inj⟩
 ·rcases z0i.mp ha with z | z
  ·rw[z];exact hc
  ·exact (o.mono s).live a z
 ·obtain⟨v,h1,h2⟩:=o.fz i d h;exact⟨v,h1,h2.mono sm⟩
 ·obtain⟨a,h1,h2,h3⟩:=o.ow i d h;refine⟨a,h1,z0y _ h2,?_⟩;cases d with
  | lst ds=>obtain⟨xs,q1,q2⟩:=h3;exact⟨xs,s _ _ q1,q2.mono sm⟩
  | dk ds=>obtain⟨xs,q1,q2,q3⟩:=h3;exact⟨xs,s _ _ q1,q2,q3.mono sm⟩
  | dt ds=>obtain⟨xs,q1,q2,q3⟩:=h3;exact⟨xs,s _ _ q1,q2,q3.mono sm⟩
  | ob c gs=>obtain⟨C,dx,xs,q1,q2,q3⟩:=h3;exact⟨C,dx,xs,s _ _ q1,q2,q3.mono sm⟩
  | _=>exact h3.elim
theorem Okp.snoc {ρ:Rho}{d:D}(o:Okp G A σ H ρ) (r:Rep G (hid A H) v d):Okp G A (σ++[some v]) H (ρ++[.fz d]):=by
 have key:∀ (j:Nat) (z:Slot),(ρ++[.fz d])[j]?=some z->(j=ρ.length/\z=.fz d)∨(j<ρ.length/\ρ[j]?=some z):=λ j z h=>by
  by_cases hj:j<ρ.length
  ·rw[z2c hj] at h;exact .inr ⟨hj,h⟩
  ·rw[z1Y (z1_.mp hj)] at h;cases q:j-ρ.length with
   | zero=>rw[q] at h;exact .inl ⟨by omega,(z0w h).symm⟩
   | succ n=>rw[q] at h;cases h
 have keyS:∀ (j:Nat),j<ρ.length->(σ++[some v])[j]?=σ[j]?:=λ j hj=>z2c (by rw[o.len];exact hj);refine⟨by rw[z0L,z0L,o.len];rfl,o.live,λ j e h=>?_,λ j e h=>?_,λ j k e f p h1 h2 h3 h4=>?_⟩
 ·rcases key j _ h with ⟨hj,hz⟩ | ⟨hj,hz⟩
  ·cases hz;subst hj;exact⟨v,by rw[z1Y (by rw[o.len];exact z06 _),o.len,z3k];rfl,r⟩
  ·obtain⟨u,q1,q2⟩:=o.fz j e hz;exact⟨u,by rw[keyS j hj];exact q1,q2⟩
 ·rcases key j _ h with ⟨hj,hz⟩ | ⟨hj,hz⟩
  ·cases hz
  ·obtain⟨u,q1,q2⟩:=o.ow j e hz;exact⟨u,by rw[keyS j hj];exact q1,q2⟩
 ·rcases key j _ h1 with ⟨_,hz⟩ | ⟨hj,hz⟩
  ·cases hz
  ·rcases key k _ h2 with ⟨_,hz'⟩ | ⟨hk,hz'⟩
   ·cases hz'
   ·rw[keyS j hj] at h3;rw[keyS k hk] at h4;exact o.inj j k e f p hz hz' h3 h4
theorem Okp.snocs {A:List Addr}{H:Hp}:∀ {vs:List V}{es:List D}{σ:St}{ρ:Rho},Okp G A σ H ρ->RepL G (hid A H) vs es->Okp G A (σ++vs.map some) H (ρ++es.map .fz)
 | [],[],σ,ρ,o,_=>by simpa using o
 | [],_::_,_,_,_,r=>by have:=r.1;simp at this
 | _::_,[],_,_,_,r=>by have:=r.1;simp at this
 | v::vs,e::es,σ,ρ,o,r=>by
  obtain⟨x,ys,h,r1,r2⟩:=r.uncons;cases h;simpa using (o.snoc r1).snocs r2
def Ex (bd:D->Option (List D)) (ρ:Rho) (ga:FT) (fe:FE):List D->Option (List D)
 | []=>some []
 | d::r=>(bd d).bind λ es=>match ga (ρ++es.map .fz) with
  | some true=>(fe (ρ++es.map .fz)).bind λ y=>(Ex bd ρ ga fe r).map (y::·)
  | some false=>Ex bd ρ ga fe r
  | none=>none
def Ja (bd:D->Option (List D)) (src:FI) (ga:FT) (fe:FE):FE:=λ ρ=>(src ρ).bind λ ds=>if ds.length<=sizeLine then (Ex bd ρ ga fe ds).map .lst else none
def bd1 (d:D):Option (List D):=some [d]
theorem WR (ρ:Rho) (ga:FT) (fe:FE):∀ ds,Jh ρ ga fe ds=Ex bd1 ρ ga fe ds
 | []=>rfl
 | d::r=>by
  unfold Jh Ex;rw[WR ρ ga fe r];rfl
theorem fZ (src:FI) (ga:FT) (fe:FE):Bb src ga fe=Ja bd1 src ga fe:=by
 funext ρ;unfold Bb Ja;congr 1;funext ds;rw[WR]
def Bnd (G:Gx) (N n:Nat) (bd:D->Option (List D)) (g:TG):Prop:=∀ (A:List Addr) (σ os:St) (H:Hp) (x:V) (d:D) (es:List D) (Q:St->Hp->Prop),σ.length=N->os.length=n->bd d=some es->Rep G (hid A H) x d->(∀ vs,vs.length=n->RepL G (hid A H) vs es->Q (σ++vs.map some) H)->g x (σ++os) H Q
theorem bnd1 {N:Nat}:Bnd G N 1 bd1 (Hq N):=λ A σ os H x d es Q hl ho e r k=>by
 cases e;obtain⟨o,rfl⟩:=List.length_eq_one_iff.mp ho;have z:(σ++[o]).set N (some x)=σ++[some x]:=by rw[<-hl,z6Q _ _ (z06 _),z3k];rfl
 show Q ((σ++[o]).set N (some x)) H;rw[z];exact k [x] rfl (.cons r .nil)
def tN (G:Gx) (A:List Addr) (f:FE):TE:=λ σ H Q=>∃ ρ d,Okp G A σ H ρ/\f ρ=some d/\∀ p H',Same H H'->H p=none->Top G (p::A) H' p d->Q (.ref p) H'
theorem fj {N:Nat}{bd:D->Option (List D)}{g:TG}(hX:X.N.length=N) (hB:Bnd G N n bd g) {A:List Addr}{σ:St}{H:Hp}{Q:VK}(h:tN G A (Ja bd src ga fe) σ H Q):fC n (rK X (tI G A true src)) g (λ σ H Q=>∃ A,tFT G A ga σ H Q) (λ σ H Q=>∃ A,tF G A fe σ H Q) σ H Q:=by
 obtain⟨ρ,d,o,e,k⟩:=h;unfold Ja at e;cases e1:src ρ with
 | none=>simp[e1] at e
 | some ds=>
  rw[e1] at e;have e':(if ds.length<=sizeLine then (Ex bd ρ ga fe ds).map D.lst else none)=some d:=e;split at e'
  ·rename_i hz;cases e2:Ex bd ρ ga fe ds with
   | none=>simp[e2] at e'
   | some out=>
    simp only[e2,z1z] at e';cases e';refine⟨λ J H1=>Same H H1/\Src G J ds H1 (hid A H1),⟨ρ,ds,o,e1,λ J H1 s1 sr=>⟨s1,sr⟩⟩,λ J H1 hlen ⟨s1,sr⟩ p hp=>?_⟩;have o1:=o.mono s1;refine⟨λ i m ys Hc=>m=ds.length-i/\i<=ds.length/\Hc p=some (.lst ys)/\Same H1 Hc/\ys.length<=i/\∃ es rest,RepL G (hid (p::A) Hc) ys es/\Ex bd ρ ga fe (ds.drop i)=some rest/\es++rest=out,
     ⟨ds.length,by simp,z19 _,Aj,Al hp _,z06 _,[],out,RepL.nil,by simpa using e2,rfl⟩,?_⟩
    rintro i m ys Hc ⟨rfl,hil,hpc,sc,hy,es,rest,rr,er,eo⟩
    by_cases hlt:i<ds.length
    ·right;have hd:ds[i]?=some ds[i]:=by simp[hlt]
     have ed:ds.drop i=ds[i]::ds.drop (i+1):=z4s hlt;rw[ed] at er;unfold Ex at er;refine⟨sr.go i Hc sc hlt,λ x H' y os ho=>?_⟩;obtain⟨sy,rx⟩:=sr.yld i Hc x H' _ sc hd y;have okc:Okp G (p::A) σ Hc ρ:=o1.fill sc hp (by rw[hpc];exact Nt.lst);have sm:Same (hid A H1) (hid (p::A) Hc):=λ b u h=>by
      unfold hid at h;split at h
      ·cases h
      ·rename_i hb;rw[CP]
       ·exact sc b u h
       ·intro z
        rcases z0i.mp z with z | z
        ·rw[z,hp] at h;cases h
        ·exact hb z
     cases ebd:bd ds[i] with
     | none=>simp[ebd] at er
     | some bs=>
     simp only[ebd,z0M] at er;refine hB (p::A) σ os H' x ds[i] bs _ (hlen.trans hX) ho ebd (rx _ okc.live sm) λ vs hvs rvs=>⟨⟨_,rfl,by rw[z07];exact hvs⟩,?_⟩;have ok2:=(okc.mono sy).snocs rvs;have hpc:=sy _ _ hpc;have rr:=rr.mono (A_ sy);have sc:=sc.trans sy;cases eg:ga (ρ++bs.map .fz) with
     | none=>simp[eg] at er
     | some b=>
      refine⟨p::A,_,b,ok2,eg,λ H2 s2=>?_⟩;cases b with
      | false=>
       refine iteF ⟨ds.length-(i+1),by omega,rfl,hlt,s2 _ _ hpc,sc.trans s2,z5k hy,es,rest,rr.mono (A_ s2),by simpa [eg] using er,eo⟩
      | true=>
       simp only[eg] at er;cases ee:fe (ρ++bs.map .fz) with
       | none=>simp[ee] at er
       | some yd=>
        cases ec:Ex bd ρ ga fe (ds.drop (i+1)) with
        | none=>simp[ee,ec] at er
        | some rest'=>
         simp only[ee,ec,z0M,z1z] at er;cases er;refine iteT ⟨p::A,_,yd,ok2.mono s2,ee,λ yv H3 s3 r3=>?_⟩;have hp3:=s3 _ _ (s2 _ _ hpc);refine⟨hp3,by omega,ds.length-(i+1),by omega,rfl,hlt,Aj,λ b u q=>?_,by rw[z0L];simp;omega,es++[yd],rest',?_,ec,by rw[z6R];exact eo⟩
         ·have hb:b≠p:=Dh q hp;rw[Ak hb];exact s3 _ _ (s2 _ _ (sc _ _ q))
         ·rw[Fq z0O];exact (rr.mono (A_ (s2.trans s3))).append (.cons r3 .nil)
    ·left;have ei:i=ds.length:=by omega
     subst ei;rw[z6P] at er;simp only[Ex] at er;cases er;rw[z1g] at eo;subst eo;exact⟨sr.stop _ Hc sc (z06 _),k p Hc (s1.trans sc) (s1.free hp) ⟨ys,hpc,rr⟩⟩
  ·cases e'
theorem xQ {bd:D->Option (List D)}{Q:VK}(h:tF G A (Ja bd src ga fe) σ H Q):tN G A (Ja bd src ga fe) σ H Q:=by
 obtain⟨ρ,d,o,e,k⟩:=h;have e':=e;unfold Ja at e';cases e1:src ρ with
 | none=>simp[e1] at e'
 | some ds=>
  rw[e1] at e';have e2:(if ds.length<=sizeLine then (Ex bd ρ ga fe ds).map D.lst else none)=some d:=e';split at e2
  ·cases e3:Ex bd ρ ga fe ds with
   | none=>rw[e3] at e2;cases e2
   | some out=>
    rw[e3] at e2;cases e2;refine⟨ρ,_,o,e,λ p H' sm hp ⟨xs,h1,h2⟩=>k _ H' sm ?_⟩;have q:=h2.mono (J0 (A:=A) λ a ha=>z0y _ ha);exact .lst (.of (by rw[CP (λ z=>(o.live p z).ne hp)];exact h1)) q.1 q.2
  ·cases e2
section
variable {bd:D->Option (List D)}{g:TG}{ts:List Str}
theorem WT (N':List Str) (eN:DK ts X.N++ts=N') (c:CompOkL X scope ts) (hc:X.calm=true) (hi:PFI X G true tg iter src) (hG:∀ s2 H2 fp,PG (Cg X scope N' s2 H2 fp) tg g) (hB:Bnd G X.N.length ts.length bd g)
  (hI:∀ s2 H2 fp,PFTs (Cg X scope N' s2 H2 fp) G ifs ga) (hE:∀ s2 H2 fp,PF (Cg X scope N' s2 H2 fp) G elt fe) (hs:∀ x,z3c iter X.env x=pure x:=by intro _;rfl) (A:List Addr):PE X .(44) (tN G A (Ja bd src ga fe)):=by
 subst eN;refine Bx (fD (tc:=λ σ H Q=>∃ A,tFT G A ga σ H Q) (te:=λ σ H Q=>∃ A,tF G A fe σ H Q) c hc (nM (@hi A)) hG (λ s2 H2 fp=>?_) (λ s2 H2 fp=>?_) hs) λ _ _ _ h=>fj rfl hB h
 ·exact λ π s σ H Q I ⟨A,q⟩=>hI s2 H2 fp π s σ H Q I q
 ·exact λ π s σ H Q I ⟨A,q⟩=>hE s2 H2 fp π s σ H Q I q
end
theorem xR {N':List Str}(eN:Ez t X.N++[t]=N') (c:Rb X scope t) (s2:z03) (H2:Hp) (fp:List Addr):PG (Cg X scope N' s2 H2 fp) (.Name t px) (Hq X.N.length):=by
 subst eN;exact gOne c s2 H2 fp
theorem C_ (N':List Str) (eN:Ez t X.N++[t]=N') (c:Rb X scope t) (hc:X.calm=true) (hi:PFI X G true (.Name t px) iter src) (hI:∀ s2 H2 fp,PFTs { Xw X scope t s2 H2 fp with N:=N' } G ifs ga) (hE:∀ s2 H2 fp,PF { Xw X scope t s2 H2 fp with N:=N' } G elt fe)
  (hs:∀ x,z3c iter X.env x=pure x:=by intro _;rfl):PF X G (.ListComp elt [⟨.Name t px,iter,ifs,0⟩] scope pos) (Bb src ga fe):=λ A=>by
 rw[fZ];exact Bx (WT N' eN c hc hi (xR eN c) bnd1 hI hE hs A) λ _ _ _ h=>xQ h
end
section
variable {A:z0a}{R:z2u->z03->Prop}{I:Addr}{wr:List Addr}{P:Nat->z00->Prop}{Sx:Nat->Heap->Prop}
theorem Uz:(toString "max"++toString ".loop":String)="max.loop":=by decide
theorem oE (W:z1F prog w A.in1 I fp wr n P Sx) (bt:Nat->Nat->Bool) (hcmp:CmpOf prog w A.in1 .Gt P bt) (S:Addr) (nS:S∉fp) :
  ∀ (k j:Nat) (s:z03) (vb:z00) (c:Nat),k=n-(j+1)->j+1<=n->Sx (j+1) s.heap->P (z0R bt j) vb->s.heap.get? S=some { cls:=.type "list",dict:=none,data:=.seq #[vb,vb] c,slots:=#[] } ->
  (∀ v h' tk,P (z0R bt (n-1)) v->.(36)->R (.ok (.ret v)) { s with heap:=h',toks:=tk })->z0Z (z04 prog w) A (.builtin "max.loop" ⟨[.ref I,.none,.ref S],kw⟩) R s:=by
 have nW:S∉wr:=λ h=>nS (W.sub _ h);intro k
 induction k with
 | zero=>
  intro j s vb c hk hj hst hb hS hR;have en:j+1=n:=by omega
  refine z1A z6S (by
   rw[z2p z3m _];show z02 _ A.in1 (z2S (.ref S) >>= _) _ _ s;refine z01 (z1T hS rfl ?_);show z02 _ A.in1 (tryCatch (z0K (.ref I)) _ >>= _) _ _ s;refine z01 (z2q (W.done s _ _ (by rw[<-en];exact hst) λ h1 tk kp=>?_));have hS1:=kp S _ nW hS;show z02 _ A.in1 (z3T S (λ _=>#[]) >>= _) _ _ _;refine z01 (z2T hS1 rfl (z01 (z2D (z05 ?_))));exact hR vb _ tk (by rw[<-en];exact hb) λ b o nb nbS e=>(z0_ _ _ (z0n nbS)).trans (kp b o nb e))
 | succ k ih=>
  intro j s vb c hk hj hst hb hS hR;have hlt:j+1<n:=by omega
  refine z1A z6S (by
   rw[z2p z3m _];show z02 _ A.in1 (z2S (.ref S) >>= _) _ _ s;refine z01 (z1T hS rfl ?_);show z02 _ A.in1 (tryCatch (z0K (.ref I)) _ >>= _) _ _ s;refine z01 (z2q (W.item (j+1) s _ _ hlt hst λ v h1 tk hP st1 kp=>?_));have hS1:=kp S _ nW hS;show z02 _ A.in1 (tryCatch (z1v [v,v] (richCompare .Gt v vb >>= _)) _ >>= _) _ _ _;refine z01 (z2q (wpAny_holding (z01 (hcmp (j+1) (z0R bt j) v vb _ _ _ hP hb ?_))));refine z01 (wpAny_holding (z1J (z01 (z2D (z05 ?_)))));cases q:bt (j+1) (z0R bt j) with
   | true=>
    simp only[if_true];refine z01 (z2T hS1 rfl (z01 (z2D ?_)));rw[Uz];refine z05 ⟨z20 z3m _,ih (j+1) _ v _ (by omega) hlt .(30) (by simp only[z0R,q,if_true];exact hP) (z1G _ hS1 rfl)
     λ v2 h2 tk2 hP2 kp2=>hR v2 h2 tk2 hP2 λ b o nb nbS e=>kp2 b o nb nbS ((z0_ _ _ (z0n nbS)).trans (kp b o nb e))⟩
   | false=>
    simp only[z0G,if_false];refine z01 (z2D ?_);rw[Uz];exact z05 ⟨z20 z3m _,ih (j+1) _ vb c (by omega) hlt st1 (by simp only[z0R,q,z0G,if_false];exact hb) hS1 λ v2 h2 tk2 hP2 kp2=>hR v2 h2 tk2 hP2 λ b o nb nbS e=>kp2 b o nb nbS (kp b o nb e)⟩)
theorem fu (W:z1F prog w A.in1 I fp wr n P Sx) (bt:Nat->Nat->Bool) (hcmp:CmpOf prog w A.in1 .Gt P bt) (S:Addr) (nS:S∉fp) {s:z03}{c:Nat}{nm:Str}{dv:z00}(hst:Sx 0 s.heap)
  (hS:s.heap.get? S=some { cls:=.type "list",dict:=none,data:=.seq #[] c,slots:=#[] })
  (hR:0<n->∀ v h' tk,P (z0R bt (n-1)) v->.(36)->R (.ok (.ret v)) { s with heap:=h',toks:=tk })
  (h0:n=0->∀ h' tk,(∀ b o,b∉wr->s.heap.get? b=some o->h'.get? b=some o)->R (.ok (.ret dv)) { s with heap:=h',toks:=tk }) :
  z0Z (z04 prog w) A (.builtin "max.loop" ⟨[.ref I,.none,.ref S],[(nm,dv)]⟩) R s:=by
 have nW:S∉wr:=λ h=>nS (W.sub _ h);refine z1A z6S (by
  rw[z2p z3m _];show z02 _ A.in1 (z2S (.ref S) >>= _) _ _ s;refine z01 (z1T hS rfl ?_);show z02 _ A.in1 (tryCatch (z0K (.ref I)) _ >>= _) _ _ s
  by_cases hn:0<n
  ·refine z01 (z2q (W.item 0 s _ _ hn hst λ v h1 tk hP st1 kp=>?_));have hS1:=kp S _ nW hS;show z02 _ A.in1 (z3T S (λ _=>#[v,v]) >>= _) _ _ _;refine z01 (z2T hS1 rfl ?_);rw[Uz];exact z05 ⟨z20 z3m _,oE W bt hcmp S nS _ 0 _ v _ rfl hn .(30) hP (z1G _ hS1 rfl)
    λ v2 h2 tk2 hP2 kp2=>hR hn v2 h2 tk2 hP2 λ b o nb nbS e=>kp2 b o nb nbS ((z0_ _ _ (z0n nbS)).trans (kp b o nb e))⟩
  ·have en:n=0:=by omega
   refine z01 (z2q (W.done s _ _ (by rw[en];exact hst) λ h1 tk kp=>?_));exact z01 (z34 (z05 (h0 en h1 tk kp))))
end
section
variable {A:z0a}{l:Addr}{xs:Array (Int×Tok)}
theorem bZ (a v:z00):z2U "max" ⟨[a],[(z0E "default",v)]⟩:=by unfold z2U;kernel_rfl
theorem bh {dv:z00}(hh:A.handled=none) (hl:s.heap.IsList l (z0z xs))
  (h1:0<xs.size->∀ v h' tk,(z0z xs)[z0R (λ i j=>decide (z12 xs i > z12 xs j)) (xs.size-1)]?=some v->.(2)->Q v { s with heap:=h',toks:=tk })
  (h0:xs.size=0->∀ h' tk,.(2)->Q dv { s with heap:=h',toks:=tk }) :
  z02 (z04 prog w) A (call (.builtin "max") [.ref l] [(z0E "default",dv)]) Q E s:=by
 refine z8y PySem.F.kind_max PySem.F.plain_max PySem.F.entry_max (bZ _ _) ?_;show z02 _ A.in1 (z5l "max" ["key","default"] 0 ⟨[],[(z0E "default",dv)]⟩ >>= _) _ _ s;refine z01 (z4t (show z5l "max" ["key","default"] 0 ⟨[],[(z0E "default",dv)]⟩=pure [none,some dv] from rfl) (z01 (z05 ?_)));refine z01 (iter_intList hl λ s2 e st hfp hlI=>?_);subst e;refine z01 (z1Q ?_);have nS:.(15).objs.size∉[s.heap.objs.size,l]:=λ hm=>z1l _ (hfp _ hm);have W:z1F prog w A.in1.in1 s.heap.objs.size [s.heap.objs.size,l] [s.heap.objs.size] (z0z xs).size (λ i v=>(z0z xs)[i]?=some v) (λ i h=>h.IsListIter s.heap.objs.size l i/\h.IsList l (z0z xs)):=z3U (A:=A.in1.in1) hh _ l hlI (z0z xs);have W1:z1F prog w A.in1 s.heap.objs.size [s.heap.objs.size,l] [s.heap.objs.size] (z0z xs).size (λ i v=>(z0z xs)[i]?=some v) (λ i h=>h.IsListIter s.heap.objs.size l i/\h.IsList l (z0z xs)):=z3U (A:=A.in1) hh _ l hlI (z0z xs);have sz:(z0z xs).size=xs.size:=by simp[z0z]
 have up:∀ b o,s.heap.get? b=some o->(.(15).push { cls:=.type "list",data:=.seq ([]:List z00).toArray }).get? b=some o:=λ b o e=>z0e _ (z0e _ e);rw[Uz];refine z05 ⟨z20 z3m _,fu W1 (λ i j=>decide (z12 xs i > z12 xs j)) (CmpOf.ints_gt (z12 xs) (λ _ _=>z5m)) _ nS (W1.frame 0 _ _ st λ b hb o e=>z0e _ e) (z0l _ rfl) (λ hn v h' tk hP kp=>?_) (λ hn h' tk kp=>?_)⟩
 ·refine h1 (by rw[<-sz];exact hn) v h' tk (by rw[sz] at hP;exact hP) λ b o e=>kp b o ?_ ?_ (up b o e)
  ·intro hm;exact absurd (z0g e) (by rw[z2d.mp hm];exact z1l _)
  ·intro z;have q:b<s.heap.objs.size:=z0g e;rw[z1w] at z;exact absurd (z▸q) (z1_.mpr (z1O _))
 ·refine h0 (by rw[<-sz];exact hn) h' tk λ b o e=>kp b o ?_ (up b o e);intro hm;exact absurd (z0g e) (by rw[z2d.mp hm];exact z1l _)
end
theorem WW (val:Nat->Int):∀ k,val (z0R (λ i j=>decide (val i > val j)) k)=mxN val k
 | 0=>rfl
 | k+1=>by
  have ih:=WW val k;unfold z0R mxN
  by_cases h:val (k+1) > mxN val k
  ·rw[if_pos (by rw[ih];exact decide_eq_true h),if_pos h]
  ·rw[if_neg (by rw[ih];simpa using h),if_neg h];exact ih
theorem My (bt:Nat->Nat->Bool):∀ k,z0R bt k<=k
 | 0=>z06 _
 | k+1=>by
  unfold z0R;split
  ·exact z06 _
  ·exact z5k (My bt k)
theorem ints_rep {G:Gx}{H:Hp}:∀ {ds:List D}{xs:List V}{ns:List Int},RepL G H xs ds->Ji ds=some ns->xs=ns.map V.int
 | [],xs,ns,r,h=>by cases h;rw[r.nil_inv];rfl
 | d::ds,xs,ns,r,h=>by
  obtain⟨x,ys,rfl,r1,r2⟩:=r.uncons;cases d with
  | int i=>
   simp only[Ji] at h;cases e:Ji ds with
   | none=>simp[e] at h
   | some ms=>
    simp only[e,z1z] at h;cases h;cases r1;rw[ints_rep r2 e];rfl
  | _=>simp[Ji] at h
theorem WX {ns:List Int}:∀ {us:List z00},Vals (ns.map V.int) us->∃ xs:Array (Int×Tok),us.toArray=z0z xs/\xs.size=ns.length/\∀ i,i<ns.length->z12 xs i=ns.getD i 0:=by
 induction ns with
 | nil=>intro us r;cases r;exact⟨#[],by simp[z0z],rfl,λ i h=>by simp at h⟩
 | cons n ns ih=>
  intro us r;rw[z0c] at r;cases r with
  | cons r1 r2=>
   obtain⟨tk,rfl⟩:=r1;obtain⟨xs,e1,e2,e3⟩:=ih r2;refine⟨⟨(n,tk)::xs.toList⟩,?_,by simp[e2],λ i hi=>?_⟩
   ·have e1':=congrArg z6a e1;simp only[z0z,z8z] at e1';simp only[z0z];apply z6T.mp;simp[e1']
   ·cases i with
    | zero=>simp[z12]
    | succ i=>
     have:=e3 i (by simpa using hi);simp only[z12] at this ⊢;simpa using this
theorem T3 {f g:Nat->Int}:∀ {k:Nat},(∀ i,i<=k->f i=g i)->mxN f k=mxN g k
 | 0,h=>h 0 (z06 _)
 | k+1,h=>by
  unfold mxN;rw[h (k+1) (z06 _),T3 λ i hi=>h i (z5k hi)]
def xT (K:z08):V->V->Hp->VK->Prop:=λ x y H Q=>∃ p ns,x=.ref p/\SqL K H p (ns.map V.int)/\Q (if ns=[] then y else .int (mxN (λ i=>ns.getD i 0) (ns.length-1))) H
section
variable {G:Gx}{a b:Expr}{fa fb:FE}{p kpos:Pos}
theorem oF (hc:X.calm=true) {π:zP}{s:z03}{σ:St}{H:Hp}{x y:V}{v u:z00}{Q:VK}(I:Inv X π σ H s) (rx:RelV x v) (ry:RelV y u) (h:xT X.K x y H Q) :
  z02 .(0) X.A (call (.builtin "max") [v] [(z0E "default",u)]) (EP X π σ Q) X.xe s:=by
 obtain⟨q,ns,rfl,hs,k⟩:=h;cases rx;obtain⟨its,rv,pl,hz⟩:=I.list hs;obtain⟨xs,e1,e2,e3⟩:=WX rv;have hl:s.heap.IsList q (z0z xs):=by rw[<-e1];exact pl.isList
 refine bh (I.ok.hd hc) hl (λ hn w h' tk hP kp=>?_) (λ hn h' tk kp=>?_)
 ·have nn:ns≠[]:=λ z=>by rw[z] at e2;exact absurd hn (by rw[e2];exact z1l _)
  rw[if_neg nn] at k;obtain⟨t,rfl⟩:=z5m hP;refine⟨.int _,H,I.kept kp,⟨t,?_⟩,k⟩;have hle:=My (λ i j=>decide (z12 xs i > z12 xs j)) (xs.size-1);have q:=WW (z12 xs) (xs.size-1);rw[q,e2];congr 1;have hpos:0<ns.length:=z8A.mpr nn;exact T3 λ i hi=>e3 i (by omega)
 ·have nn:ns=[]:=by
   rw[hn] at e2;exact z2C.mp e2.symm
  rw[if_pos nn] at k;exact⟨y,H,I.kept kp,ry,k⟩
theorem ZJ (hc:X.calm=true) (hG:G.K=X.K) (hg:Gl X x) (hm:X.mg x=none) (hv:z0x x=some (.builtin "max")) (ha:PU X G a fa) (hb:PF X G b fb) (hn:x≠"__name__":=by decide) (hdb:.(3)=false:=by decide)
  (he:z09 [a] X.env=[.(8)]:=by rfl) (hk:z1p [⟨some (z0E "default"),b,kpos⟩] X.env=[(some (z0E "default"),eval b X.env)]:=by rfl) :
  PF X G (.Call (.Name x p) [a] [⟨some (z0E "default"),b,kpos⟩] pos) (bF Tv fa fb):=λ A π s σ H Q I h=>by
 obtain⟨ρ,d,o,e,k⟩:=h;obtain⟨dx,dy,e1,e2,e3⟩:=Qz e;refine z3N (Kr I hg hm hv ?_ hn hdb);have hA:=Bp (X:=X) (@ha A) DG he pos π s σ H (λ vs H1=>∃ v,vs=[v]/\Same H H1/\RepT G A H1 v dx) I ⟨ρ,dx,o,e1,λ v H1 s1 r1=>⟨v,rfl,s1,r1⟩⟩;refine callWith_kw (thn hA λ us s1 ⟨vs,H1,I1,rv,v,ev,s1',r1⟩=>?_) (by rw[he];rfl) (by rw[he];rfl) (by rw[hk];rfl) (by rw[hk];rfl);subst ev;have hK:=Y6 (X:=X) (nm:=some (z0E "default")) (kpos:=kpos) (@hb A) d9 pos π s1 σ H1 (λ vs H2=>∃ v,vs=[v]/\Same H1 H2/\Rep G (hid A H2) v dy) I1 ⟨ρ,dy,o.mono s1',e2,λ v H2 s2 r2=>⟨v,rfl,s2,r2⟩⟩;refine thn hK λ ks s2 ⟨ws,H2,I2,rw',y,ey,s2',r2⟩=>?_;subst ey;obtain⟨u,rfl,ru⟩:=vals1 rv;obtain⟨u2,rfl,ru2⟩:=vals1 rw';rw[hk];have s0:=s1'.trans s2';unfold Tv at e3;cases dx with
 | lst ds=>
  simp only at e3;cases ei:Ji ds with
  | none=>simp[ei] at e3
  | some ns=>
   simp only[ei,z1z] at e3;obtain⟨q,xs,rfl,h1,rr⟩:=(r1.mono s2').lst;have ex:=ints_rep rr ei;subst ex;refine oF hc I2 ru ru2 ⟨q,ns,rfl,by rw[<-hG];exact h1,?_⟩
   by_cases nn:ns=[]
   ·rw[if_pos nn] at e3 ⊢;cases e3;exact k _ H2 s0 r2
   ·rw[if_neg nn] at e3 ⊢;cases e3;exact k _ H2 s0 (.int _)
 | _=>cases e3
theorem WY {H:Hp}:∀ {ds:List D}{xs:List V}{ns:List Str},RepL G H xs ds->Mj ds=some ns->xs=ns.map V.str
 | [],xs,ns,r,h=>by cases h;rw[r.nil_inv];rfl
 | d::ds,xs,ns,r,h=>by
  obtain⟨x,ys,rfl,r1,r2⟩:=r.uncons;cases d with
  | str i=>
   simp only[Mj] at h;cases e:Mj ds with
   | none=>simp[e] at h
   | some ms=>
    simp only[e,z1z] at h;cases h;cases r1;rw[WY r2 e];rfl
  | _=>simp[Mj] at h
theorem oG (K:z08) (n T:String):z3M K (.type n) (.type T)=z3M [] (.type n) (.type T):=rfl
def TyX (K:z08) (H:Hp) (x:V) (n:String):Prop:=
 TyOf K H x (.type n)∨(n="list"/\∃ a xs,x=.ref a/\SqL K H a xs)∨(n="tuple"/\∃ a xs,x=.ref a/\SqT K H a xs)
theorem vC {d:D}{n:String}(r:RepT G A H v d) (h:tyD d=some n):TyX G.K H v n:=by
 cases d with
 | non=>cases h;rw[r.non];exact .inl .non
 | bl b=>cases h;rw[r.bl];exact .inl (.bl b)
 | int b=>cases h;rw[r.int];exact .inl (.int b)
 | str b=>cases h;rw[r.str];exact .inl (.str b)
 | lst ds=>cases h;obtain⟨a,xs,e,q,_⟩:=r.lst;exact .inr (.inl ⟨rfl,a,xs,e,q⟩)
 | tup ds=>cases h;obtain⟨a,xs,e,q,_⟩:=r.tup;exact .inr (.inr ⟨rfl,a,xs,e,q⟩)
 | _=>cases h
theorem gA (T:String):Dd X (.builtin "isinstance") (λ xs H Q=>∃ x n b,xs=[x,.ty T]/\TyX X.K H x n/\z3M X.K (.type n) (.type T)=some b/\Q (.bl b) H):=by
 intro π s σ H xs us Q I r h;obtain⟨x,n,b,rfl,ty,e,k⟩:=h;obtain⟨u,c,rfl,ru,rc⟩:=vals2 r;cases rc
 rcases ty with ty | ⟨rfl,a,ys,rfl,q⟩ | ⟨rfl,a,ys,rfl,q⟩
 ·exact bM I ru ty e λ tk=>⟨.bl b,H,I.tok _,rfl,k⟩
 ·cases ru;obtain⟨its,_,p,_⟩:=I.list q;obtain⟨o,ho,hc,_⟩:=p.isList;exact z1N z6j I.kIn ⟨o,ho,hc⟩ e (λ z=>nomatch z) λ tk=>⟨.bl b,H,I.tok _,rfl,k⟩
 ·cases ru;obtain⟨its,_,p,_⟩:=I.tuple q;obtain⟨o,ho,hc,_⟩:=(show s.heap.IsTuple a its.toArray from p);exact z1N z87 I.kIn ⟨o,ho,hc⟩ e (λ z=>nomatch z) λ tk=>⟨.bl b,H,I.tok _,rfl,k⟩
def Pb (T:String):Bool:=(["NoneType","bool","int","str","list","tuple"]:List String).all λ n=>z3M [] (.type n) (.type T)==some (n==T||(n=="bool"&&T=="int"))
theorem bj {T:String}(h:Pb T=true) {d:D}{n:String}(e:tyD d=some n):z3M [] (.type n) (.type T)=some (n==T||(n=="bool"&&T=="int")):=by
 unfold Pb at h;rw[z1c] at h;have m:n∈(["NoneType","bool","int","str","list","tuple"]:List String):=by
  cases d<;>simp[tyD] at e<;>subst e<;>simp
 simpa using h n m
theorem X4 {t:Str}{T:String}(hT:Pb T=true) (hG:G.K=X.K) (hg:Gl X x) (hm:X.mg x=none) (hv:z0x x=some (.builtin "isinstance")) (ht:Gl X t) (hmt:X.mg t=none) (hvt:z0x t=some (.type T)) (ha:PU X G a fa)
  (hn:x≠"__name__":=by decide) (hdb:.(3)=false:=by decide) (hnt:t≠"__name__":=by decide) (hdt:(t==("__debug__":Str))=false:=by decide) (he:z09 [a,.Name t tp] X.env=.(8)::z09 [.Name t tp] X.env:=by rfl) (he2:z09 [.Name t tp] X.env=[(false,eval (.Name t tp) X.env)]:=by rfl) :
  PF X G (.Call (.Name x p) [a,.Name t tp] [] pos) (uF (isiD T) fa):=λ A=>Bx (Ku (gA T) hg hm hv (Bp (@ha A) (Bp (mV (v:=.ty T) ht hmt hvt rfl hnt hdt) DG he2) he) hn hdb he (by rw[he2];rfl)) λ σ H Q ⟨ρ,d,o,e,k⟩=>by
 obtain⟨dx,e1,e2⟩:=G6 e;unfold isiD at e2;cases et:tyD dx with
 | none=>simp[et] at e2
 | some n=>
  simp only[et,z1z] at e2;cases e2;exact⟨ρ,dx,o,e1,λ v H1 s1 r1=>⟨v,n,_,rfl,by rw[<-hG];exact vC r1 et,by rw[oG];exact bj hT et,k _ H1 s1 (.bl _)⟩⟩
theorem oH:Pb "int"=true:=by decide +kernel
theorem gB:Pb "bool"=true:=by decide +kernel
theorem bu:Pb "tuple"=true:=by decide +kernel
end
theorem Ea:z0x "len"=some (.builtin "len"):=by decide +kernel
theorem Rm:z0x "max"=some (.builtin "max"):=by decide +kernel
theorem X5:z0x "min"=some (.builtin "min"):=by decide +kernel
theorem Jb:z0x "isinstance"=some (.builtin "isinstance"):=by decide +kernel
theorem Lr:z0x "sorted"=some (.builtin "sorted"):=by decide +kernel
theorem vD:z0x "int"=some (.type "int"):=by decide +kernel
theorem oJ:z0x "bool"=some (.type "bool"):=by decide +kernel
theorem Nx:z0x "list"=some (.type "list"):=by decide +kernel
theorem ZK:z0x "dict"=some (.type "dict"):=by decide +kernel
theorem vG:z0x "set"=some (.type "set"):=by decide +kernel
def Ny (N:List Str) (sc scope:z26) (ts:List Str):Bool:=
 scope.names.all (λ y=>y.2 != .cell)&&scope.kind==.function&&scope.names.all (λ y=>y.2 != .local ||scope.names.lookup y.1==some .local)&&ts.all (λ t=>scope.names.lookup t==some .local)
  && scope.names.all (λ y=>y.2 != .local ||ts.contains y.1||!N.contains y.1)&&scope.names.all (λ y=>y.2 != .free ||sc.names.lookup y.1==some .cell ||sc.names.lookup y.1==some .free)&&scope.names.all (λ y=>y.1 != z3L)&&decide (DK ts N++ts).Nodup
theorem Rn {ts:List Str}(hN:X.N=N) (hs:X.env.scope=sc) (h:Ny N sc scope ts=true):CompOkL X scope ts:=by
 unfold Ny at h;simp only[z0Q,z1c,decide_eq_true_eq,beq_iff_eq,bne_iff_ne,Bool.or_eq_true,ne_eq] at h;obtain⟨⟨⟨⟨⟨⟨⟨h1,h2⟩,h3⟩,h4⟩,h5⟩,h6⟩,h7⟩,h8⟩:=h;refine⟨h1,h2,λ y hy e=>?_,h4,λ y hy e=>?_,λ y hy e=>?_,h7,by rw[hN];exact h8⟩
 ·rcases h3 y hy with z | z
  ·exact absurd e z
  ·exact z
 ·rcases h5 y hy with (z | z) | z
  ·exact absurd e z
  ·exact .inl (by simpa using z)
  ·right;rw[hN];simpa using z
 ·have hk:∀ x,X.env.kindOf x=sc.names.lookup x:=λ x=>by rw[<-hs];rfl
  rw[hk]
  rcases h6 y hy with (z | z) | z
  ·exact absurd e z
  ·exact .inl z
  ·exact .inr z
abbrev ZL (N:List Str) (sc scope:z26) (t:Str):Bool:=Ny N sc scope [t]
theorem bw {t:Str}(hN:X.N=N) (hs:X.env.scope=sc) (h:ZL N sc scope t=true):Rb X scope t:=Rn hN hs h
theorem oK {K:z08}{base:Heap}{G:Gx}{k:Nat}{f:Addr}:FnOk P w K mg base CX0 k f fd ps (spD G λ _=>none):=by
 have no:∀ vs H Q E,¬ spD G (λ _=>none) vs H Q E:=λ vs H Q E ⟨_,_,_,_,_,e,_⟩=>nomatch e;exact⟨λ vs H Q E h=>absurd h (no vs H Q E),λ A outer s H args us vs Q E _ _ _ _ h=>absurd h (no vs H Q E)⟩
theorem T4 {G:Gx}{sl:Array (Option z00)}{its:Array z00}{xs:List Str}(h:G.K.lookup a=some ⟨.type "tuple",od,.seq its n,sl⟩) (hz:its.size<=sizeLine) (r:Vals (xs.map V.str) its.toList):Rep G (λ _=>none) (.ref a) (.tup (xs.map .str)):=by
 refine .tup (xs:=xs.map V.str) (.inr ⟨_,its,n,h,rfl,rfl,hz,r⟩) (by simp) λ i x d h1 h2=>?_;rw[z0q] at h1 h2;cases e:xs[i]? with
 | none=>rw[e] at h1;cases h1
 | some z=>rw[e] at h1 h2;cases h1;cases h2;exact .str z
end PV
namespace PySem
end PySem
namespace PV
open PySem PySem.Spec L2
open PyProof.Rows hiding St
section
variable {G:Gx}{a b c:Expr}{fa fb fc:FE}{px:Pos}{es:List Expr}{fs:FA}
def PN (X:Cx) (G:Gx) (e:Expr) (f:FE):Prop:=∀ ⦃A⦄,PE X e (tN G A f)
theorem Ls (s:Same H H') (hp:H p=none):Same (hid A H) (hid (p::A) H'):=λ b u h=>by
 unfold hid at h;split at h
 ·cases h
 ·rename_i hb;rw[CP]
  ·exact s b u h
  ·intro z
   rcases z0i.mp z with z | z
   ·rw[z,hp] at h;cases h
   ·exact hb z
theorem X6 (h:PFA X G es fs):PN X G (.List es pos) (lstF fs):=λ A=>Bx (dw (@h A)) λ σ H Q ⟨ρ,d,o,e,k⟩=>by
 unfold lstF at e;cases e1:fs ρ with
 | none=>simp[e1] at e
 | some ds=>
  rw[e1] at e;have e':(if ds.length<=sizeLine then some (D.lst ds) else none)=some d:=e;split at e'
  ·rename_i hz;cases e';exact⟨ρ,ds,o,e1,λ vs H1 s1 r1=>⟨by rw[r1.1];exact hz,λ p hp=>k p _ (s1.trans (Al hp _)) (s1.free hp) ⟨vs,Aj,r1.mono (Ls (Al hp _) hp)⟩⟩⟩
  ·cases e'
theorem Top.live {d:D}(t:Top G A H q d):Nt (H q):=by
 cases d with
 | lst ds=>obtain⟨xs,q1,q2⟩:=t;rw[q1];exact Nt.lst
 | dk ds=>obtain⟨xs,q1,q2,q3⟩:=t;rw[q1];exact Nt.dK
 | dt ds=>obtain⟨xs,q1,q2,q3⟩:=t;rw[q1];exact Nt.dT
 | ob c gs=>obtain⟨C,dx,xs,q1,q2,q3⟩:=t;rw[q1];exact Nt.ins
 | _=>exact t.elim
theorem Cj {α:Type}{l:List α}{x z:α}(h:(l.set i x)[j]?=some z):(j=i/\z=x/\i<l.length)∨(j≠i/\l[j]?=some z):=by
 by_cases hj:j=i
 ·subst hj
  by_cases hl:j<l.length
  ·rw[z2k hl] at h;exact .inl ⟨rfl,(z0w h).symm,hl⟩
  ·rw[z2R (by simpa using z1_.mp hl)] at h;cases h
 ·rw[z1m (z0n hj)] at h;exact .inr ⟨hj,h⟩
theorem OkW.setW {ρ:Rho}{d:D}(w:OkW G A0 He A σ H ρ) (s:Same H H') (hp:H p=none) (t:Top G (p::A) H' p d) (i:Nat) (hi0:i≠0):OkW G A0 He (p::A) (σ.set i (some (.ref p))) H' (ρ.set i (.ow d)):=by
 have hf:=w.ok.fill (Hc:=H') s hp t.live;have hep:He p=none:=w.same.free hp;have npA:p∉A:=λ z=>(w.ok.live p z).ne hp;refine⟨w.same.trans s,λ a ha=>z0y _ (w.sub a ha),λ a ha=>?_,w.l0,⟨by rw[z3S,z3S];exact hf.len,hf.live,λ j e h=>?_,λ j e h=>?_,λ j k e f q h1 h2 h3 h4=>?_⟩,λ j e q h1 h2=>?_,λ x e hx h0=>by rw[z1m hi0] at h0 ⊢;exact w.lt x e hx h0⟩
 ·rcases z0i.mp ha with z | z
  ·rw[z];exact .inr hep
  ·exact w.fr a z
 ·rcases Cj h with ⟨_,hz,_⟩ | ⟨hj,hz⟩
  ·cases hz
  ·obtain⟨v,q1,q2⟩:=hf.fz j e hz;exact⟨v,by rw[z1m (z0n hj)];exact q1,q2⟩
 ·rcases Cj h with ⟨hj,hz,hl⟩ | ⟨hj,hz⟩
  ·cases hz;subst hj;exact⟨p,by rw[z2k (by rw[w.ok.len];exact hl)],z0O,t⟩
  ·obtain⟨v,q1,q2,q3⟩:=hf.ow j e hz;exact⟨v,by rw[z1m (z0n hj)];exact q1,q2,q3⟩
 ·have no:∀ (m:Nat) (g:D),ρ[m]?=some (.ow g)->σ[m]?=some (some (.ref q))->q≠p:=λ m g a1 a2 z=>by
   obtain⟨v,b1,b2,_⟩:=w.ok.ow m g a1;rw[a2] at b1;cases b1;exact npA (z▸b2)
  rcases Cj h1 with ⟨hj,_,hl⟩ | ⟨hj,hz⟩
  ·rcases Cj h2 with ⟨hk,_,_⟩ | ⟨hk,hz'⟩
   ·rw[hj,hk]
   ·exfalso;subst hj;rw[z2k (by rw[w.ok.len];exact hl)] at h3;cases h3;rw[z1m (z0n hk)] at h4;exact no k f hz' h4 rfl
  ·rcases Cj h2 with ⟨hk,_,hl⟩ | ⟨hk,hz'⟩
   ·exfalso;subst hk;rw[z2k (by rw[w.ok.len];exact hl)] at h4;cases h4;rw[z1m (z0n hj)] at h3;exact no j e hz h3 rfl
   ·rw[z1m (z0n hj)] at h3;rw[z1m (z0n hk)] at h4;exact w.ok.inj j k e f q hz hz' h3 h4
 ·rcases Cj h1 with ⟨hj,_,hl⟩ | ⟨hj,hz⟩
  ·subst hj;rw[z2k (by rw[w.ok.len];exact hl)] at h2;cases h2;exact λ z=>w.l0 p z hep
  ·rw[z1m (z0n hj)] at h2;exact w.ow0 j e q hz h2
theorem oN {ρ:Rho}{o:Out}{D:Ends}(hi0:i≠0) (w:OkW G A0 He A σ H ρ) (e:setW i fa ρ=some o) (k:Tz G A0 He D o):tAsg (tN G A fa) (Hq i) D σ H:=by
 unfold setW at e;cases e1:fa ρ with
 | none=>simp[e1] at e
 | some d=>
  simp only[e1,z1z] at e;cases e;exact⟨ρ,d,w.ok,e1,λ p H1 s1 hp t=>k _ _ ⟨p::A,w.setW s1 hp t i hi0⟩⟩
theorem gC {p:Pos}(h:∀ te,PE X a te->PS X (.Assign [.Name x p] a pos) (tAsg te (Hq i))) (ha:PN X G a fa) (hi0:i≠0:=by decide):PSD X G (.Assign [.Name x p] a pos) (setW i fa):=λ A0 He π s σ H D I ⟨ρ,o,⟨A,w⟩,e,k⟩=>
 h _ (@ha A) π s σ H D I (oN hi0 w e k)
theorem OkW.wr {ρ:Rho}{d0 d:D}{o:HO}(w:OkW G A0 He A σ H ρ) (hi:ρ[i]?=some (.ow d0)) (hs:σ[i]?=some (some (.ref p))) (t:Top G A (upd H p o) p d):OkW G A0 He A σ (upd H p o) (ρ.set i (.ow d)):=by
 obtain⟨q,h1,hA,_⟩:=w.ok.ow i d0 hi;rw[hs] at h1;cases h1;have hep:He p=none:=by
  rcases w.fr p hA with z | z
  ·exact absurd z (w.ow0 i d0 p hi hs)
  ·exact z
 have eh:hid A (upd H p o)=hid A H:=Fq hA;refine⟨λ b u h=>by rw[Ak (Dh h hep)];exact w.same b u h,w.sub,w.fr,w.l0,⟨by rw[z3S];exact w.ok.len,λ b hb=>?_,λ j e h=>?_,λ j e h=>?_,λ j k e f q g1 g2 g3 g4=>?_⟩,λ j e q g1 g2=>?_,λ x e hx h0=>?_⟩
 ·by_cases z:b=p
  ·rw[z];exact t.live
  ·rw[Ak z];exact w.ok.live b hb
 ·rcases Cj h with ⟨_,hz,_⟩ | ⟨hj,hz⟩
  ·cases hz
  ·rw[eh];exact w.ok.fz j e hz
 ·rcases Cj h with ⟨hj,hz,hl⟩ | ⟨hj,hz⟩
  ·cases hz;subst hj;exact⟨p,hs,hA,t⟩
  ·obtain⟨q,q1,q2,q3⟩:=w.ok.ow j e hz;have nq:q≠p:=λ z=>hj (w.ok.inj j i e d0 p hz hi (z▸q1) hs);refine⟨q,q1,q2,?_⟩;cases e with
   | lst ds=>obtain⟨xs,a1,a2⟩:=q3;exact⟨xs,by rw[Ak nq];exact a1,by rw[eh];exact a2⟩
   | dk ds=>obtain⟨xs,a1,a2,a3⟩:=q3;exact⟨xs,by rw[Ak nq];exact a1,a2,by rw[eh];exact a3⟩
   | dt ds=>obtain⟨xs,a1,a2,a3⟩:=q3;exact⟨xs,by rw[Ak nq];exact a1,a2,by rw[eh];exact a3⟩
   | ob c gs=>obtain⟨C,dx,xs,a1,a2,a3⟩:=q3;exact⟨C,dx,xs,by rw[Ak nq];exact a1,a2,by rw[eh];exact a3⟩
   | _=>exact q3.elim
 ·have up:∀ (m:Nat) (g:D),(ρ.set i (.ow d))[m]?=some (.ow g)->∃ g',ρ[m]?=some (.ow g'):=λ m g z=>by
   rcases Cj z with ⟨hm,_,_⟩ | ⟨_,hz⟩
   ·exact⟨d0,by rw[hm];exact hi⟩
   ·exact⟨g,hz⟩
  obtain⟨e',z1⟩:=up j e g1;obtain⟨f',z2⟩:=up k f g2;exact w.ok.inj j k e' f' q z1 z2 g3 g4
 ·rcases Cj g1 with ⟨hj,_,_⟩ | ⟨hj,hz⟩
  ·subst hj;exact w.ow0 j d0 q hi g2
  ·exact w.ow0 j e q hz g2
 ·rcases Cj h0 with ⟨hj,_,_⟩ | ⟨_,hz⟩
  ·exact w.lt x d0 hx (by rw[hj];exact hi)
  ·exact w.lt x e hx hz
theorem Pg {ρ:Rho}{d:D}(h:ownO ρ i=some d):ρ[i]?=some (.ow d):=by
 unfold ownO at h;split at h
 ·rename_i e;cases h;exact e
 ·cases h
theorem bx {g:D->D->Option D}{ρ:Rho}{o:Out}(h:mutF g i fa ρ=some o):∃ v x y,fa ρ=some v/\ρ[i]?=some (.ow x)/\g x v=some y/\o=.nx (ρ.set i (.ow y)):=by
 unfold mutF at h;cases e1:fa ρ with
 | none=>simp[e1] at h
 | some v=>
  cases e2:ownO ρ i with
  | none=>simp[e1,e2] at h
  | some x=>
   cases e3:g x v with
   | none=>simp[e1,e2,e3] at h
   | some y=>
    simp[e1,e2,e3] at h;exact⟨v,x,y,rfl,Pg e2,e3,h.symm⟩
theorem Q4 (hv:PE X (.Name x xpos) (tVar i)) (ha:PF X G a fa)
  (hbase:z1x (.Name x xpos) "append" X.env (eval (.Name x xpos) X.env)=eval (.Name x xpos) X.env:=by rfl)
  (hfew:((z0B pos (z09 [a] X.env)).all (λ x=>!x.1)&&(z1D pos (z1p [] X.env)).all (λ x=>x.1.isSome)&&decide ([a].length+([]:List z3O).length+(if ([]:List z3O).isEmpty then 0 else 1)<30))=true:=by rfl)
  (hline:(apos.endLine==pos.line)=true:=by rfl) (hs:z09 [a] X.env=[.(8)]:=by rfl) (hsw:z1o (.Call (.Attribute (.Name x xpos) "append" apos) [a] [] pos) none p2.line X.env=pure false:=by rfl) :
  PSD X G (.Expr (.Call (.Attribute (.Name x xpos) "append" apos) [a] [] pos) p2) (mutF appL i fa):=λ A0 He π s σ H D I ⟨ρ,o,⟨A,w⟩,e,k⟩=>by
 obtain⟨v,x0,y,e1,hi,e2,rfl⟩:=bx e;refine Yv (xJ PySem.F.plainAttrs_list PySem.F.slot_list_append PySem.F.type_list_append Tr hv (Bp (@ha A) DG hs) hbase hfew hline hs rfl) hsw π s σ H D I ?_;unfold appL at e2;split at e2
 ·rename_i ds;split at e2
  ·rename_i hz;cases e2;obtain⟨p,h1,hA,xs,h2,r⟩:=w.ok.ow i _ hi;refine⟨_,h1,.inl ⟨rfl,xs,.of h2⟩,ρ,v,w.ok,e1,λ u H1 s1 r1=>⟨p,xs,u,rfl,rfl,s1 _ _ h2,by rw[r.1];exact hz,?_⟩⟩;have w1:=w.mono s1;refine k _ _ ⟨A,w1.wr hi h1 ⟨xs++[u],Aj,?_⟩⟩;rw[Fq hA];exact (r.mono (A_ s1)).append (.cons r1 .nil)
  ·cases e2
 ·cases e2
theorem Inv.frzK {kvs:List (Key×V)}(I:Inv X π σ H s) (e:H p=some (.dK kvs)):∃ o,Inv X π σ (upd H p (.frz o (.dK kvs))) s:=by
 obtain⟨z,hd,vs,rel,dd⟩:=rJ I.hok e;obtain⟨o,es,ep,ho,h2⟩:=id dd;exact⟨o,Qy (h':=s.heap) (t':=s.toks) I (by rw[e];exact z1M) ⟨rfl,λ _ _=>rfl⟩ ⟨o,ho⟩ ⟨ho,z,hd,vs,rel,dd⟩⟩
theorem Inv.frzT (I:Inv X π σ H s) (e:H p=some (.dT kvs)):∃ o,Inv X π σ (upd H p (.frz o (.dT kvs))) s:=by
 obtain⟨z,hd,vs,rel,o,es,ep,ho,h3,h4,h5,h6⟩:=I.hok p _ e;refine⟨o,Qy (h':=s.heap) (t':=s.toks) I (by rw[e];exact z1M) ⟨rfl,λ _ _=>rfl⟩ ⟨o,ho⟩ ⟨ho,z,hd,vs,KT.keeps rel λ c ys ec=>?_,o,es,ep,ho,h3,h4,h5,h6⟩⟩;rw[Ak (q_ ec e (λ z=>nomatch z))];exact ec
theorem OkW.frzC {ρ:Rho}{d:D}(w:OkW G A0 He A σ H ρ) (hi:ρ[i]?=some (.ow d)) (h1:σ[i]?=some (some (.ref p))) (hA:p∈A) (hh:∀ b,b≠p->H' b=H b)
  (rp:Same (hid A H) (hid (A.filter λ b=>decide (b≠p)) H')->hid (A.filter λ b=>decide (b≠p)) H' p=H' p->Rep G (hid (A.filter λ b=>decide (b≠p)) H') (.ref p) d):OkS G A0 He σ H' (ρ.set i (.fz d)):=by
 have hn:=w.ow0 i d p hi h1;have hmem:∀ b,b∈A.filter (λ b=>decide (b≠p))↔b∈A/\b≠p:=λ b=>by simp[z2s]
 have sm:Same (hid A H) (hid (A.filter λ b=>decide (b≠p)) H'):=λ b o h=>by
  unfold hid at h ⊢;split at h
  ·cases h
  ·rename_i hb;have hbp:b≠p:=λ z=>hb (z▸hA);rw[if_neg (λ z=>hb ((hmem b).mp z).1),hh b hbp];exact h
 have rp:=rp sm (CP λ z=>((hmem p).mp z).2 rfl);have hep:He p=none:=(w.fr p hA).resolve_left hn;refine⟨A.filter λ b=>decide (b≠p),λ b o h=>?_,λ b hb=>(hmem b).mpr ⟨w.sub b hb,λ z=>hn (z▸hb)⟩,λ b hb=>w.fr b ((hmem b).mp hb).1,w.l0,⟨by rw[z3S];exact w.ok.len,λ b hb=>?_,λ j e h=>?_,λ j e h=>?_,λ j k e f q g1 g2 g3 g4=>?_⟩,λ j e q g1 g2=>?_,λ x e hx h0=>?_⟩
 ·have hbp:b≠p:=λ z=>by rw[z,hep] at h;cases h
  rw[hh b hbp];exact w.same b o h
 ·obtain⟨z1,z2⟩:=(hmem b).mp hb;rw[hh b z2];exact w.ok.live b z1
 ·rcases Cj h with ⟨hj,hz,_⟩ | ⟨hj,hz⟩
  ·cases hz;subst hj;exact⟨_,h1,rp⟩
  ·obtain⟨v,q1,q2⟩:=w.ok.fz j e hz;exact⟨v,q1,q2.mono sm⟩
 ·rcases Cj h with ⟨_,hz,_⟩ | ⟨hj,hz⟩
  ·cases hz
  ·obtain⟨q,q1,q2,q3⟩:=w.ok.ow j e hz;have nq:q≠p:=λ z=>hj (w.ok.inj j i e d p hz hi (z▸q1) h1);refine⟨q,q1,(hmem q).mpr ⟨q2,nq⟩,?_⟩;cases e with
   | lst ds=>obtain⟨xs,a1,a2⟩:=q3;exact⟨xs,by rw[hh q nq];exact a1,a2.mono sm⟩
   | dk ds=>obtain⟨xs,a1,a2,a3⟩:=q3;exact⟨xs,by rw[hh q nq];exact a1,a2,a3.mono sm⟩
   | dt ds=>obtain⟨xs,a1,a2,a3⟩:=q3;exact⟨xs,by rw[hh q nq];exact a1,a2,a3.mono sm⟩
   | ob c gs=>obtain⟨C,dx,xs,a1,a2,a3⟩:=q3;exact⟨C,dx,xs,by rw[hh q nq];exact a1,a2,a3.mono sm⟩
   | _=>exact q3.elim
 ·rcases Cj g1 with ⟨_,hz,_⟩ | ⟨_,z1⟩
  ·cases hz
  ·rcases Cj g2 with ⟨_,hz,_⟩ | ⟨_,z2⟩
   ·cases hz
   ·exact w.ok.inj j k e f q z1 z2 g3 g4
 ·rcases Cj g1 with ⟨_,hz,_⟩ | ⟨_,z1⟩
  ·cases hz
  ·exact w.ow0 j e q z1 g2
 ·rcases Cj h0 with ⟨_,hz,_⟩ | ⟨_,z1⟩
  ·cases hz
  ·exact w.lt x e hx z1
theorem OkS.frz {π:zP}{s:z03}{A0:List Addr}{He:Hp}{σ:St}{H:Hp}{ρ:Rho}(I:Inv X π σ H s) (w:OkS G A0 He σ H ρ) (i:Nat):∃ H',Inv X π σ H' s/\OkS G A0 He σ H' (frz1 ρ i):=by
 unfold frz1;split
 ·rename_i d hi;obtain⟨A,w⟩:=w;obtain⟨p,h1,hA,t⟩:=w.ok.ow i d hi;cases d with
  | lst ds=>
   obtain⟨xs,a1,a2⟩:=t;exact⟨H,I,w.frzC hi h1 hA (λ _ _=>rfl) λ sm hp=>.lst (.of (by rw[hp];exact a1)) (a2.mono sm).1 (a2.mono sm).2⟩
  | dk ds=>
   obtain⟨xs,a1,a2,a3⟩:=t;obtain⟨o,I'⟩:=Inv.frzK I a1;exact⟨_,I',w.frzC hi h1 hA (λ b hb=>Ak hb) λ sm hp=>.dk (by rw[hp];exact Aj) a2 (a3.mono sm).2⟩
  | dt ds=>
   obtain⟨xs,a1,a2,a3⟩:=t;obtain⟨o,I'⟩:=Inv.frzT I a1;exact⟨_,I',w.frzC hi h1 hA (λ b hb=>Ak hb) λ sm hp=>.dt (by rw[hp];exact Aj) a2 (a3.mono sm).2⟩
  | ob c gs=>
   obtain⟨C,dx,xs,a1,a2,a3⟩:=t;exact⟨H,I,w.frzC hi h1 hA (λ _ _=>rfl) λ sm hp=>.ob a2.1 (by rw[hp];exact a1) a2.2 (a3.mono sm).2⟩
  | _=>exact t.elim
 ·exact⟨H,I,w⟩
theorem ZM {π:zP}{s:z03}{A0:List Addr}{He:Hp}{σ:St}:∀ (is:List Nat) {H:Hp}{ρ:Rho},Inv X π σ H s->OkS G A0 He σ H ρ->∃ H',Inv X π σ H' s/\OkS G A0 He σ H' (is.foldl frz1 ρ)
 | [],H,_,I,w=>⟨H,I,w⟩
 | i::r,_,_,I,w=>let ⟨_,I1,w1⟩:=w.frz I i;ZM r I1 w1
theorem Mz {g:FS}(is:List Nat) (h:PSD X G st g):PSD X G st (fzS is g):=λ A0 He π s σ H D I ⟨ρ,o,ok,e,k⟩=>
 let ⟨H',I',ok'⟩:=ZM is I ok
 @h A0 He π s σ H' D I' ⟨is.foldl frz1 ρ,o,ok',e,k⟩
end
section
variable {G:Gx}{a b c:Expr}{fa fb fc:FE}{px:Pos}{t:Str}{elt iter:Expr}{ifs:List Expr}{ga:FT}{fe:FE}{src:FI}
end
def getK {κ:Type} [DecidableEq κ] (k:κ):List (κ×D)->Option D
 | []=>none
 | p::r=>if p.1=k then some p.2 else getK k r
def repK {κ:Type} [DecidableEq κ] (k:κ) (v:D):List (κ×D)->List (κ×D)
 | []=>[]
 | p::r=>(p.1,if p.1=k then v else p.2)::repK k v r
def putL {κ:Type} [DecidableEq κ] (k:κ) (v:D) (kds:List (κ×D)):List (κ×D):=if (getK k kds).isSome then repK k v kds else kds++[(k,v)]
def keyD:D->Option Key
 | .int i=>some (.inl i)
 | .str x=>some (.inr x)
 | _=>none
def Kz:List D->Option (List Key)
 | []=>some []
 | d::r=>(keyD d).bind λ k=>(Kz r).map (k::·)
section
variable {κ:Type} [DecidableEq κ] {G:Gx}
theorem Lw {k:κ}:∀ {kds:List (κ×D)}{kvs:List (κ×V)},kvs.map (·.1)=kds.map (·.1)->RepL G H (kvs.map (·.2)) (kds.map (·.2))->(∀ d,getK k kds=some d->∃ v,valV kvs k=some v/\Rep G H v d)/\(valV kvs k).isSome=(getK k kds).isSome
 | [],kvs,e,r=>by
  cases kvs with
  | nil=>exact⟨λ d h=>by simp[getK] at h,rfl⟩
  | cons p q=>simp at e
 | p::kds,kvs,e,r=>by
  cases kvs with
  | nil=>simp at e
  | cons q kvs=>
   rw[z0c,z0c] at e;injection e with e1 e2
   rw[z0c,z0c] at r;obtain⟨x,ys,e3,r1,r2⟩:=r.uncons;injection e3 with e4 e5
   subst e4 e5;have ih:=Lw (k:=k) e2 r2
   by_cases h:p.1=k
   ·have h':q.1=k:=e1.trans h;rw[Nm h'];refine⟨λ d hd=>?_,?_⟩
    ·simp only[getK,if_pos h] at hd;cases hd;exact⟨_,rfl,r1⟩
    ·simp[getK,if_pos h]
   ·have h':¬ q.1=k:=λ z=>h (e1.symm.trans z);rw[Np h'];simp only[getK,if_neg h];exact ih
theorem ZP {k:κ}{v:V}{d:D}(rv:Rep G H v d):∀ {kds:List (κ×D)}{kvs:List (κ×V)},kvs.map (·.1)=kds.map (·.1)->RepL G H (kvs.map (·.2)) (kds.map (·.2)) ->
  (kvs.map λ kv=>if kv.1=k then (kv.1,v) else kv).map (·.1)=(repK k d kds).map (·.1)/\RepL G H ((kvs.map λ kv=>if kv.1=k then (kv.1,v) else kv).map (·.2)) ((repK k d kds).map (·.2))
 | [],kvs,e,r=>by
  cases kvs with
  | nil=>exact⟨rfl,RepL.nil⟩
  | cons p q=>simp at e
 | p::kds,kvs,e,r=>by
  cases kvs with
  | nil=>simp at e
  | cons q kvs=>
   rw[z0c,z0c] at e;injection e with e1 e2
   rw[z0c,z0c] at r;obtain⟨x,ys,e3,r1,r2⟩:=r.uncons;injection e3 with e4 e5
   subst e4 e5;have ih:=ZP rv (k:=k) e2 r2
   by_cases h:p.1=k
   ·have h':q.1=k:=e1.trans h;refine⟨?_,?_⟩
    ·simp only[z0c,if_pos h',repK];rw[ih.1,e1]
    ·simp only[z0c,if_pos h',repK,if_pos h];exact .cons rv ih.2
   ·have h':¬ q.1=k:=λ z=>h (e1.symm.trans z);refine⟨?_,?_⟩
    ·simp only[z0c,if_neg h',repK];rw[ih.1,e1]
    ·simp only[z0c,if_neg h',repK,if_neg h];exact .cons r1 ih.2
theorem U0 {k:κ}{d:D}(rv:Rep G H v d) {kds:List (κ×D)}{kvs:List (κ×V)}(e:kvs.map (·.1)=kds.map (·.1)) (r:RepL G H (kvs.map (·.2)) (kds.map (·.2))) :
  (putK kvs k v).map (·.1)=(putL k d kds).map (·.1)/\RepL G H ((putK kvs k v).map (·.2)) ((putL k d kds).map (·.2)):=by
 unfold putK putL;rw[RW,(Lw (k:=k) e r).2];split
 ·exact ZP rv e r
 ·rw[z0S,z0S,z0S,z0S,e];exact⟨rfl,r.append (.cons rv .nil)⟩
end
theorem Wa {G:Gx}{d:D}{k:Key}(r:RepT G A H v d) (h:keyD d=some k):v=kV k:=by
 cases d with
 | int i=>cases h;exact r.int
 | str x=>cases h;exact r.str
 | _=>cases h
theorem Lx {G:Gx}{d:D}{k:Key}(r:Rep G H v d) (h:keyD d=some k):v=kV k:=by
 cases d with
 | int i=>cases h;cases r;rfl
 | str x=>cases h;cases r;rfl
 | _=>cases h
theorem Ph {G:Gx}{H:Hp}:∀ {ds:List D}{vs:List V}{ks:List Key},RepL G H vs ds->Kz ds=some ks->vs=ks.map kV
 | [],vs,ks,r,h=>by cases h;exact r.nil_inv
 | d::ds,vs,ks,r,h=>by
  obtain⟨x,ys,rfl,r1,r2⟩:=r.uncons;cases e1:keyD d with
  | none=>simp[Kz,e1] at h
  | some k=>
   cases e2:Kz ds with
   | none=>simp[Kz,e1,e2] at h
   | some ks'=>
    simp[Kz,e1,e2] at h;subst h;rw[Lx r1 e1,Ph r2 e2];rfl
section
variable {G:Gx}{a b c:Expr}{fa fb fc:FE}{px:Pos}{es:List Expr}{fs:FA}
theorem Ro:PN X G (.Dict [] [] pos) (kF (.dk [])):=λ A=>Bx eY λ σ H Q ⟨ρ,d,o,e,k⟩=>by
 cases e;exact λ p hp=>k p _ (Al hp _) hp ⟨[],Aj,rfl,RepL.nil⟩
theorem xU:PN X G (.Dict [] [] pos) (kF (.dt [])):=λ A=>Bx eZ λ σ H Q ⟨ρ,d,o,e,k⟩=>by
 cases e;exact λ p hp=>k p _ (Al hp _) hp ⟨[],Aj,rfl,RepL.nil⟩
theorem PN.pf (h:PN X G a fa):PF X G a fa:=λ A π s σ H Q I ⟨ρ,d,o,e,k⟩=>
 thn (@h A π s σ H (λ v H'=>∃ p,v=.ref p/\Same H H'/\H p=none/\Top G (p::A) H' p d) I ⟨ρ,d,o,e,λ p H' sm hp t=>⟨p,rfl,sm,hp,t⟩⟩) λ u s1 ⟨v,H1,I1,r1,p,ev,sm,hp,t⟩=>by
  subst ev;have hpA:p∉A:=λ z=>(o.live p z).ne hp;have up:∀ ob,Same (hid (p::A) H1) (hid A (upd H1 p ob)):=λ ob=>by
   rw[<-Fq (A:=p::A) (H:=H1) (o:=ob) (z0O ..)];exact J0 λ b hb=>z0y _ hb
  have sm':∀ ob,Same H (upd H1 p ob):=λ ob b u hb=>by
   rw[Ak (λ z:b=p=>by rw[z,hp] at hb;cases hb)];exact sm b u hb
  cases d with
  | lst ds=>
   obtain⟨xs,a1,a2⟩:=t;have q:=a2.mono (J0 (A:=A) (B:=p::A) (H:=H1) λ b hb=>z0y _ hb);exact⟨_,H1,I1,r1,k _ H1 sm (.lst (.of (by rw[CP hpA];exact a1)) q.1 q.2)⟩
  | dk ds=>
   obtain⟨xs,a1,a2,a3⟩:=t;obtain⟨ob,I2⟩:=Inv.frzK I1 a1;exact⟨_,_,I2,r1,k _ _ (sm' _) (.dk (by rw[CP hpA];exact Aj) a2 (a3.mono (up _)).2)⟩
  | dt ds=>
   obtain⟨xs,a1,a2,a3⟩:=t;obtain⟨ob,I2⟩:=Inv.frzT I1 a1;exact⟨_,_,I2,r1,k _ _ (sm' _) (.dt (by rw[CP hpA];exact Aj) a2 (a3.mono (up _)).2)⟩
  | ob c gs=>
   obtain⟨C,dx,xs,a1,a2,a3⟩:=t;have q:=a3.mono (J0 (A:=A) (B:=p::A) (H:=H1) λ b hb=>z0y _ hb);exact⟨_,H1,I1,r1,k _ H1 sm (.ob a2.1 (by rw[CP hpA];exact a1) a2.2 q.2)⟩
  | _=>exact t.elim
def rDIn (neg:Bool):R2:=λ x y H Q=>∃ a kvs k,y=.ref a/\Rd H a (.dK kvs)/\x=kV k/\Q (.bl (if neg then !(valV kvs k).isSome else (valV kvs k).isSome)) H
theorem X7 (hu:X.A.units+1<z0h):OpR X (z0C .In) (rDIn false):=by
 intro π s σ H x y v u Q I rx ry h;obtain⟨a,kvs,k,rfl,e,rfl,q⟩:=h;cases ry;exact d_in hu I (.inl ⟨kvs,k,e,rfl,rfl⟩) rx λ s' I'=>⟨.bl _,H,I',rfl,q⟩
theorem bz (hu:X.A.units+1<z0h):OpR X (z0C .NotIn) (rDIn true):=by
 intro π s σ H x y v u Q I rx ry h;obtain⟨a,kvs,k,rfl,e,rfl,q⟩:=h;cases ry;exact nG hu I (.inl ⟨kvs,k,e,rfl,rfl⟩) rx λ s' I'=>⟨.bl _,H,I',rfl,q⟩
def inE (neg:Bool) (x y:D):Option D:=match y with
 | .dk kds=>(keyD x).map λ k=>.bl (if neg then !(getK k kds).isSome else (getK k kds).isSome)
 | _=>inD neg x y
theorem oO (neg:Bool):Dm G (λ x y H Q=>rInA G.K neg x y H Q∨rDIn neg x y H Q) (inE neg):=by
 intro A H x y dx dy d Q lv rx ry h k;unfold inE at h;split at h
 ·rename_i kds;cases e:keyD dx with
  | none=>simp[e] at h
  | some q=>
   obtain⟨p,kvs,rfl,h1,h2,r⟩:=ry.dk;have h3:=(Lw (k:=q) h2 r).2;rw[e] at h;cases h;refine .inr ⟨p,kvs,q,rfl,h1,Wa rx e,?_⟩;rw[h3];exact k _ H .(23) (.bl _)
 ·exact .inl (uz neg A H x y dx dy d Q lv rx ry h k)
def rDIx:R2:=λ x y H Q=>∃ a kvs k v,x=.ref a/\Rd H a (.dK kvs)/\y=kV k/\valV kvs k=some v/\Q v H
theorem xV (hu:X.A.units+1<z0h):IxR X rDIx:=by
 intro value slice π s σ H x y v u Q I rx ry h hs;obtain⟨a,kvs,k,z,rfl,e,rfl,l,q⟩:=h;cases rx;have g:DGet H a (kV k) (some z):=.inl ⟨kvs,k,e,rfl,l.symm⟩;have hT:=V_ I g;unfold z5d;refine z01 ?_;rw[z8n hT.not_modules];refine z01 (z2r hT z6U.lookup ?_);have fin:z02 .(0) X.A (z4m slice false (.ref a) u) (λ r s₃=>z02 .(0) X.A (letTemporaryGo value (.ref a) r >>= λ _=>pure r) (EP X π σ Q) X.xe s₃) X.xe s:=by
  rw[hs];exact wpAny_operating (bQ hu I g ry λ w' s3 I3 rw'=>z01 (z8o (z05 ⟨z,H,I3,rw',q⟩)))
 first
  | exact z05 (z01 fin)
  | exact z01 (z05 (z01 fin))
  | exact z01 fin
def ixE (x y:D):Option D:=match x with
 | .dk kds=>(keyD y).bind λ k=>getK k kds
 | _=>ixD x y
theorem oR:Dm G (λ x y H Q=>rIx G.K x y H Q∨rDIx x y H Q) ixE:=by
 intro A H x y dx dy d Q lv rx ry h k;unfold ixE at h;split at h
 ·rename_i kds;cases e:keyD dy with
  | none=>simp[e] at h
  | some q=>
   obtain⟨p,kvs,rfl,h1,h2,r⟩:=rx.dk;simp[e] at h;obtain⟨v,h3,r3⟩:=(Lw (k:=q) h2 r).1 d h;exact .inr ⟨p,kvs,q,v,rfl,h1,Wa ry e,h3,k v H .(23) r3⟩
 ·exact .inl (fO A H x y dx dy d Q lv rx ry h k)
theorem vH (hu:X.A.units+1<z0h) (hG:G.K=X.K) (ha:PU X G a fa) (hb:PU X G b fb) (hs:Nj b):PF X G (.Subscript a b pos) (bF ixE fa fb):=
 λ A=>Bx (rH (r:=λ x y H Q=>rIx X.K x y H Q∨rDIx x y H Q) (eF.or (xV hu)) (@ha A) (@hb A) hs) λ _ _ _ h=>Rc (by rw[<-hG];exact oR) h
def Df (x y v:D):Option D:=match x with
 | .dk kds=>(keyD y).bind λ k=>if kds.length<sizeLine then some (.dk (putL k v kds)) else none
 | _=>none
def putF (i:Nat) (fk fv:FE):FS:=λ ρ=>(fv ρ).bind λ v=>(fk ρ).bind λ y=>(ownO ρ i).bind λ x=>(Df x y v).map λ z=>.nx (ρ.set i (.ow z))
theorem b_ {ρ:Rho}{o:Out}(h:putF i fa fb ρ=some o):∃ v y x z,fb ρ=some v/\fa ρ=some y/\ρ[i]?=some (.ow x)/\Df x y v=some z/\o=.nx (ρ.set i (.ow z)):=by
 unfold putF at h;cases e1:fb ρ with
 | none=>simp[e1] at h
 | some v=>
  cases e2:fa ρ with
  | none=>simp[e1,e2] at h
  | some y=>
   cases e3:ownO ρ i with
   | none=>simp[e1,e2,e3] at h
   | some x=>
    cases e4:Df x y v with
    | none=>simp[e1,e2,e3,e4] at h
    | some z=>
     simp[e1,e2,e3,e4] at h;exact⟨v,y,x,z,rfl,rfl,Pg e3,e4,h.symm⟩
theorem J1 (hu:X.A.units+1<z0h) (hv:PE X (.Name x xpos) (tVar i)) (ha:PF X G a fa) (hb:PF X G b fb)
  (hs:z1o b (some (.Subscript (.Name x xpos) a spos)) pos.line X.env=pure false:=by rfl):PSD X G (.Assign [.Subscript (.Name x xpos) a spos] b pos) (putF i fa fb):=λ A0 He π s σ H D I ⟨ρ,o,⟨A,w⟩,e,k⟩=>by
 obtain⟨v,y,x0,z,e1,e2,hi,e3,rfl⟩:=b_ e;refine Us hu hv (@ha A) (@hb A) hs π s σ H D I ?_;unfold Df at e3;split at e3
 ·rename_i kds;cases e4:keyD y with
  | none=>simp[e4] at e3
  | some q=>
   simp only[e4,z0M] at e3;split at e3
   ·rename_i hz;cases e3;obtain⟨p,h1,hA,kvs,h2,hk,r⟩:=w.ok.ow i _ hi;refine⟨ρ,v,w.ok,e1,λ u H1 s1 r1=>⟨_,h1,ρ,y,(w.mono s1).ok,e2,λ yv H2 s2 r2=>?_⟩⟩;have ek:=Lx r2 e4;subst ek;have hl:kvs.length<sizeLine:=by
     have:=congrArg z0P hk;rw[z07,z07] at this;omega
    refine⟨p,_,rfl,DPut.k (s2 _ _ (s1 _ _ h2)) hl,?_⟩;have w2:=(w.mono s1).mono s2;have pk:=U0 (k:=q) (r1.mono (A_ s2)) hk (r.mono (A_ (s1.trans s2)));refine k _ _ ⟨A,w2.wr hi h1 ⟨_,Aj,pk.1,?_⟩⟩;rw[Fq hA];exact pk.2
   ·cases e3
 ·cases e3
def T5:D->Option D
 | .dk kds=>some (.dk kds)
 | _=>none
theorem X8:Dd X (.type "dict") (λ xs H Q=>∃ a kvs,xs=[.ref a]/\Rd H a (.dK kvs)/\∀ p,H p=none->Q (.ref p) (upd H p (.dK kvs))):=by
 intro π s σ H xs us Q I rs h;obtain⟨a,kvs,rfl,e,q⟩:=h;obtain⟨u,rfl,ru⟩:=rs.one;cases ru;exact e_ I e λ p s' hp I'=>⟨.ref p,_,I',rfl,q p hp⟩
theorem ZQ {p:Pos}(hg:Gl X x) (hm:X.mg x=none) (hv:z0x x=some (.type "dict")) (ha:PU X G a fa)
  (hn:x≠"__name__":=by decide) (hdb:.(3)=false:=by decide) (he:z09 [a] X.env=[.(8)]:=by rfl):PN X G (.Call (.Name x p) [a] [] pos) (uF T5 fa):=
 λ A=>Bx (Gp X8 hg hm hv (Bp (@ha A) DG he) hn hdb he rfl) λ σ H Q ⟨ρ,d,o,e,k⟩=>by
  obtain⟨x0,e1,e2⟩:=G6 e;unfold T5 at e2;split at e2
  ·cases e2;refine⟨ρ,_,o,e1,λ v H1 s1 r1=>?_⟩;obtain⟨q,kvs,rfl,h1,h2,r⟩:=r1.dk;exact⟨q,kvs,rfl,h1,λ p hp=>k p _ (s1.trans (Al hp _)) (s1.free hp) ⟨kvs,Aj,h2,r.mono (Ls (Al hp _) hp)⟩⟩
  ·cases e2
end
theorem Ly {α β:Type}{R:α->β->Prop}:∀ {xs:List α}{ys:List β}{i:Nat}{x:α}{y:β},z2i R xs ys->xs[i]?=some x->ys[i]?=some y->R x y
 | _,_,i,x,y,.nil,h,_=>by simp at h
 | _,_,0,x,y,.cons r _,h1,h2=>by
  simp at h1 h2;rw[<-h1,<-h2];exact r
 | _,_,i+1,x,y,.cons _ t,h1,h2=>Ly t (by simpa using h1) (by simpa using h2)
def Itd (a:Addr) (o:Obj) (kvs:List (Key×V)):It:=
 ⟨λ i H=>H a=some (.frz o (.dK kvs))/\i<kvs.length,λ i H x H'=>H'=H/\∃ p,kvs[i]?=some p/\x=kV p.1,λ i H=>H a=some (.frz o (.dK kvs))/\kvs.length<=i⟩
theorem relK {k:Key}(h:(Aq P w).is k u=true):RelV (kV k) u:=by
 rcases Bo h with ⟨i,t,rfl,rfl⟩ | ⟨x,t,rfl,rfl⟩
 ·exact⟨t,rfl⟩
 ·exact⟨t,rfl⟩
theorem Pj {kvs:List (Key×V)}{es:Array z2z}(I:Inv X π σ H s) (e:H a=some (.frz o (.dK kvs))) (hd:o.data=.dict es ep) :
  (a==z16)=false/\∃ vs,KV kvs vs/\s.heap.DictAt (Aq X.prog X.w) a vs ep:=by
 obtain⟨ho,z,hm,vs,rel,o',es',ep',ho',h1,h2,h3⟩:=(show BV X.prog X.w H s.heap a (.frz o (.dK kvs)) from I.hok a _ e);rw[ho] at ho';cases ho';rw[hd] at h2;cases h2;exact⟨hm,vs,rel,o,es,ho,h1,hd,h3⟩
theorem cA {K:z08}(a it:Addr) {o:Obj}{es:Array z2z}{ep:Nat}(hd:o.data=.dict es ep) (kvs:List (Key×V)):Turn P w K tg (Itd a o kvs) [it] it (λ i h=>h.IsKeyIter it a i kvs.length ep) where
 mem:=by simp
 obj:=λ i h st b hb=>by
  have e:b=it:=by simpa using hb
  subst e;obtain⟨o,e,c,d⟩:=st;exact⟨o,e,λ v z=>by rw[d] at z;cases z⟩
 keep:=λ i h h' st k=>let ⟨o,e,c,d⟩:=st;⟨o,k it (by simp) o e,c,d⟩
 item:=by
  intro X hP hw hK hc i π s σ H E I hf st hg;subst hP hw hK;obtain⟨he,hi⟩:=hg;obtain⟨hm,vs,rel,dd⟩:=Pj I he hd;have hl:kvs.length=vs.length:=rel.length;obtain⟨f0,f1,f2,f3,f4,f5⟩:=hf it (by simp);have hv:vs[i]?=some (vs[i]'(by omega)):=by simp[show i<vs.length by omega]
  have hk:kvs[i]?=some (kvs[i]'hi):=by simp[hi]
  have hkk:(kvs[i]'hi).1=(vs[i]'(by omega)).1:=(Ly rel hk hv).1;refine wpAny_pyNext_dict_item (knd:=Aq X.prog X.w) (kvs:=vs) (k:=(vs[i]'(by omega)).1) (v:=(vs[i]'(by omega)).2) (by rw[<-hl];exact st) dd hv λ key h' hkey st' sb=>?_;rw[<-hl] at st';have I1:Inv X π σ H { s with heap:=h' }:=I.turned (t':=s.toks) (λ b o hb e=>(sb.2 b hb).trans e) f0 f1 f3 f4 f5;obtain⟨o1,e1,c1,d1⟩:=id st';exact⟨key,rfl,V5 (s:={ s with heap:=h' }) e1 c1 d1 (by decide) ⟨kV (kvs[i]'hi).1,H,I1,by rw[hkk];exact relK hkey,⟨rfl,_,hk,rfl⟩,st',λ b hb=>(hf b hb).1⟩⟩
 done:=by
  intro X hP hw hK hc i π s σ H E I hf st hg;subst hP hw hK;obtain⟨he,hi⟩:=hg;obtain⟨hm,vs,rel,dd⟩:=Pj I he hd;have hl:kvs.length=vs.length:=rel.length;obtain⟨f0,f1,f2,f3,f4,f5⟩:=hf it (by simp);exact wpAny_pyNext_dict_end (I.ok.hd hc) (by rw[<-hl];exact st) dd (by rw[z2R];omega) λ h' eb=>⟨rfl,I.turned (t':=s.toks) (λ b o hb e=>eb b o hb e) f0 f1 f3 f4 f5⟩
 self:=λ _ _ _ _ _ st h=>z8B st h
section
variable {G:Gx}{a b c:Expr}{fa fb fc:FE}{tl:TE}
def xW (tl:TE):TI:=λ σ H R=>tl σ H λ x H1=>∃ a o kvs,x=.ref a/\H1 a=some (.frz o (.dK kvs))/\R (Itd a o kvs) H1
theorem oU {l:Expr}(hl:PE X l tl):PI X tg l (xW tl):=by
 intro π s σ H R I h;refine thn (hl π s σ H _ I h) λ v s1 ⟨x,H1,I1,r1,q1⟩=>?_;obtain⟨a,o,kvs,e,hq,q⟩:=q1;subst e;cases r1;obtain⟨_,_,_,_,_,o',es,ep,ho',h1,h2,_⟩:=(show BV X.prog X.w H1 s1.heap a (.frz o (.dK kvs)) from I1.hok a _ hq);obtain⟨ho,_⟩:=(show BV X.prog X.w H1 s1.heap a (.frz o (.dK kvs)) from I1.hok a _ hq);rw[ho] at ho';cases ho';obtain⟨hm,vs,rel,dd⟩:=Pj I1 hq h2;have hl':kvs.length=vs.length:=rel.length;refine wpAny_pyIter_dict hm dd ?_;refine⟨s1.heap.objs.size,[s1.heap.objs.size],_,_,H1,rfl,I1.kept (t':=s1.toks) λ b o e=>z0e _ e,cA a _ h2 kvs,⟨_,z0l _ rfl,rfl,by rw[hl'];rfl⟩,λ b hb=>?_,q⟩;have e:b=s1.heap.objs.size:=by simpa using hb
 subst e;exact I1.fpOk (z06 _) (I1.hok.fresh (z06 _))
def kDt:Key->D
 | .inl i=>.int i
 | .inr x=>.str x
theorem Q5 (k:Key):Rep G H (kV k) (kDt k):=by
 cases k with
 | inl i=>exact .int i
 | inr x=>exact .str x
def seqE (f:FE):FI:=λ ρ=>match f ρ with | some (.lst ds)=>some ds | some (.tup ds)=>some ds | some (.dk kds)=>some (kds.map λ p=>kDt p.1) | _=>none
theorem gD {kvs:List (Key×V)}{kds:List (Key×D)}(h:F1 p=some (.frz o (.dK kvs))) (e:kvs.map (·.1)=kds.map (·.1)):Src G (Itd p o kvs) (kds.map λ p=>kDt p.1) F1 F2:=by
 have hl:kvs.length=kds.length:=by have:=congrArg z0P e;rwa [z07,z07] at this
 refine⟨λ i H s hi=>⟨s _ _ h,by rw[hl];rwa [z07] at hi⟩,λ i H x H' d s hd y=>?_,λ i H s hi=>⟨s _ _ h,by rw[hl];rwa [z07] at hi⟩⟩;obtain⟨y1,q,y2,y3⟩:=y;refine Rj ⟨y1,?_⟩;have e1:(kvs.map (·.1))[i]?=some q.1:=by rw[z0q,y2];rfl
 rw[e,z0q] at e1;rw[z0q] at hd;cases e2:kds[i]? with
 | none=>rw[e2] at hd;cases hd
 | some z=>
  rw[e2] at e1 hd;cases hd;injection e1 with e1
  rw[y3,<-e1];exact Q5 _
theorem gF (hG:G.K=X.K) (h:PF X G a fa):PFI X G false tg a (seqE fa):=λ A=>Nu (piOr (n8 hG h (A:=A)) (oU (@h A))) λ σ H R ⟨ρ,ds,o,e,k⟩=>by
 unfold seqE at e;split at e
 ·rename_i ds' e1;cases e;exact .inl ⟨ρ,_,o,by unfold seqI;rw[e1],k⟩
 ·rename_i ds' e1;cases e;exact .inl ⟨ρ,_,o,by unfold seqI;rw[e1],k⟩
 ·rename_i kds e1;cases e;refine .inr ⟨ρ,_,o,e1,λ v H1 s1 r1=>?_⟩;cases r1 with
  | dk h l r=>exact⟨_,_,_,rfl,Ar _ _ h,k _ H1 s1 (gD h l)⟩
 ·cases e
end
section
variable {A:z0a}
theorem xX {l:Addr}{its:Array z00}(ne:l≠it):∀ (m i:Nat) (s:z03) (Q:List z00->z03->Prop),s.heap.IsListIter it l i->s.heap.IsList l its->i+m=its.size ->
  (∀ h',h'.IsListIter it l its.size->z14 it s.heap h'->Q (its.toList.drop i) { s with heap:=h' })->z02 (z04 prog w) A (draw (.ref it) m) Q E s:=by
 intro m
 induction m with
 | zero=>
  intro i s Q hi hl hm k;refine z05 ?_;have hz:i=its.size:=by omega
  have e:its.toList.drop i=[]:=by rw[List.drop_eq_nil_iff];simp[hz]
  rw[<-e];exact k s.heap (hz▸hi) (z6V ..)
 | succ m ih=>
  intro i s Q hi hl hm k;have lt:i<its.size:=by omega
  refine z01 (m:=z0K (.ref it)) (z81 hi hl (x:=its[i]) (by simp[lt]) λ h1 hi1 sb1=>?_);have hl1:h1.IsList l its:=let ⟨o,e,r⟩:=hl;⟨o,(sb1.2 l ne).trans e,r⟩;refine z01 (wpAny_holding (ih (i+1) _ _ hi1 hl1 (by omega) λ h2 hi2 sb2=>z05 ?_));have e:its.toList.drop i=its[i]::its.toList.drop (i+1):=by simp[z4s,lt]
  rw[<-e];exact k h2 hi2 (sb1.trans sb2)
theorem oV {l:Addr}{its:Array z00}{Q:List z00->z03->Prop}(hh:A.handled=none) (hl:s.heap.IsList l its)
  (k:∀ h',z4u s.heap.objs.size s.heap h'->Q its.toList { s with heap:=h' }):z02 (z04 prog w) A (unpackItems (.ref l) its.size none) Q E s:=by
 have ne:l≠s.heap.objs.size:=by obtain⟨o,ho,_⟩:=hl;exact z0j (z0g ho)
 have ty:s.TypeIs (.ref l) "list":=let ⟨o,e,c,_⟩:=hl;⟨o,e,c⟩;unfold unpackItems notIterableAtAll;refine z01 (z01 (z2r ty PySem.F.slot_list_iter.lookup (z05 ?_)));simp only[z0G,if_false];refine z01 (wpAny_holding (z53 hl ?_));have hl0:.(15).IsList l its:=let ⟨o,e,r⟩:=hl;⟨o,z0e _ e,r⟩;refine z01 (wpAny_holding (xX ne its.size 0 _ _ ⟨_,z0l _ rfl,rfl,rfl⟩ hl0 (by omega) λ h1 hi1 sb1=>?_));rw[z8r,if_neg (by simp)];have hl1:h1.IsList l its:=let ⟨o,e,r⟩:=hl0;⟨o,(sb1.2 l ne).trans e,r⟩;refine z01 (wpAny_holding (z82 hh hi1 hl1 (by simp) λ h2 eb=>?_));simp only[Option.isSome_none,z0G,if_false];exact z05 (k h2 λ b o hb e=>eb b o hb ((sb1.2 b hb).trans (z0e _ e)))
end
section
variable {G:Gx}{a b c:Expr}{fa fb fc:FE}{es:List Expr}
def gLst (K:z08) (n:Nat) (t:TGs):TG:=λ v σ H Q=>∃ a xs,v=.ref a/\SqL K H a xs/\xs.length=n/\t xs σ H Q
theorem vI {k:Nat}{t:TGs}(hc:X.calm=true) (h:PGs X es t)
  (hn:(z1C es X.env).length=n:=by rfl) (hst:(z1C es X.env).findIdx? (·.1)=none:=by rfl):PG X (.Tuple es k pos) (gLst X.K n t):=by
 intro π s σ H v u Q I r hw;obtain⟨a,xs,rfl,hq,hl,hw⟩:=hw;cases r;obtain⟨its,rv,ht,hz⟩:=I.list hq;rw[assign_Tuple];refine z01 (z6m ?_);unfold unpack;have e:(z1C es X.env).length=its.toArray.size:=by simp[hn,<-hl,rv.length]
 rw[e,hst];refine z01 (wpAny_holding (oV (I.ok.hd hc) ht.isList λ h' hx=>?_));have I1:Inv X π σ H { s with heap:=h' }:=I.kept (t':=s.toks) λ b o e=>hx b o (z0j (z0g e)) e;exact h π _ σ H xs _ Q I1 (by simpa using rv) hw
theorem PG.or {t t':TG}(h:PG X tg t) (h':PG X tg t'):PG X tg (λ v σ H Q=>t v σ H Q∨t' v σ H Q):=λ π s σ H v u Q I r q=>by
 rcases q with q | q
 ·exact h π s σ H v u Q I r q
 ·exact h' π s σ H v u Q I r q
abbrev FGs:=List D->Rho->Option Rho
def nilG:FGs:=λ ds ρ=>match ds with | []=>some ρ | _=>none
def BK (i:Nat) (g:FGs):FGs:=λ ds ρ=>match ds with | d::r=>g r (ρ.set i (.fz d)) | []=>none
def tupG (n:Nat) (g:FGs):FG:=λ d ρ=>match d with
 | .tup ds=>if ds.length=n then g ds ρ else none
 | .lst ds=>if ds.length=n then g ds ρ else none
 | _=>none
def tGDs (G:Gx) (A0:List Addr) (He:Hp) (g:FGs):TGs:=λ vs σ H Q=>∃ A ρ ds ρ',OkW G A0 He A σ H ρ/\RepL G (hid A H) vs ds/\g ds ρ=some ρ'/\∀ σ' H',OkS G A0 He σ' H' ρ'->Q σ' H'
def PGDs (X:Cx) (G:Gx) (es:List Expr) (g:FGs):Prop:=∀ ⦃A0⦄ He,PGs X es (tGDs G A0 He g)
theorem HN:PGDs X G [] nilG:=λ A0 He π s σ H vs us Q I r ⟨A,ρ,ds,ρ',w,rv,e,k⟩=>by
 unfold nilG at e;split at e
 ·cases e;exact Yw π s σ H vs us Q I r ⟨rv.nil_inv,k _ _ ⟨A,w⟩⟩
 ·cases e
theorem BL {g:FGs}(h1:PG X e (Hq i)) (h2:PGDs X G es g)
  (hs:(z1C (e::es) X.env).map (·.2)=z3I e X.env::(z1C es X.env).map (·.2):=by rfl):PGDs X G (e::es) (BK i g):=λ A0 He π s σ H vs us Q I r ⟨A,ρ,ds,ρ',w,rv,e,k⟩=>by
 unfold BK at e;split at e
 ·rename_i d ds';obtain⟨x,ys,rfl,r1,r2⟩:=rv.uncons;exact RN h1 (@h2 A0 He) hs π s σ H _ us Q I r ⟨x,ys,rfl,A,_,ds',ρ',w.set r1 i,r2,e,k⟩
 ·cases e
theorem JG {k:Nat}{g:FGs}(hG:G.K=X.K) (hc:X.calm=true) (h:PGDs X G es g)
  (hn:(z1C es X.env).length=n:=by rfl) (hst:(z1C es X.env).findIdx? (·.1)=none:=by rfl):PGD X G (.Tuple es k pos) (tupG n g):=λ A0 He π s σ H v u Q I r ⟨A,ρ,d,ρ',w,rv,e,k⟩=>by
 refine PG.or (dN hc (@h A0 He) hn hst) (vI hc (@h A0 He) hn hst) π s σ H v u Q I r ?_;unfold tupG at e;split at e
 ·rename_i ds;split at e
  ·rename_i hl;cases rv with
   | tup h1 l1 r1=>exact .inl ⟨_,_,rfl,by rw[<-hG];exact Dl Ar h1,by rw[l1];exact hl,A,ρ,ds,ρ',w,⟨l1,r1⟩,e,k⟩
  ·cases e
 ·rename_i ds;split at e
  ·rename_i hl;cases rv with
   | lst h1 l1 r1=>exact .inr ⟨_,_,rfl,by rw[<-hG];exact Ar.seq h1,by rw[l1];exact hl,A,ρ,ds,ρ',w,⟨l1,r1⟩,e,k⟩
  ·cases e
 ·cases e
def asgF (f:FE) (g:FG):FS:=λ ρ=>(f ρ).bind λ d=>(g d ρ).map .nx
theorem Q6 {g:FG}(hg:PGD X G tg g) (ha:PF X G a fa) (hs:swapsWithSole [tg] a pos.line X.env=pure false:=by rfl) (hw:swappedStores [tg] a X.env=pure none:=by rfl)
  (h1:(z1C [tg] X.env).map (·.2)=[z3I tg X.env]:=by rfl):PSD X G (.Assign [tg] a pos) (asgF fa g):=λ A0 He π s σ H D I ⟨ρ,o,⟨A,w⟩,e,k⟩=>by
 unfold asgF at e;cases e1:fa ρ with
 | none=>simp[e1] at e
 | some d=>
  cases e2:g d ρ with
  | none=>simp[e1,e2] at e
  | some ρ'=>
   simp[e1,e2] at e;subst e;exact uR (@ha A) (@hg A0 He) hs hw h1 π s σ H D I ⟨ρ,d,w.ok,e1,λ v H1 s1 r1=>⟨A,ρ,d,ρ',w.mono s1,r1,e2,λ σ' H' ok=>k σ' H' ok⟩⟩
theorem Bg:Dd X (.builtin "len") (λ xs H Q=>∃ a kvs,xs=[V.ref a]/\Rd H a (.dK kvs)/\Q (.int kvs.length) H):=by
 intro π s σ H xs us Q I rs h;obtain⟨a,kvs,rfl,e,q⟩:=h;obtain⟨u,rfl,ru⟩:=rs.one;cases ru;exact xM I e λ t s' I'=>⟨.int kvs.length,H,I',⟨t,rfl⟩,q⟩
def lenE:D->Option D
 | .dk kds=>some (.int kds.length)
 | d=>lenD d
theorem Ck:SndC G (λ xs H Q=>(∃ x n,xs=[x]/\LenV G.K x H n/\Q (.int n) H)∨∃ a kvs,xs=[V.ref a]/\Rd H a (.dK kvs)/\Q (.int kvs.length) H) lenE:=by
 intro A H x dx d Q lv rx h k;unfold lenE at h;split at h
 ·cases h;obtain⟨p,kvs,rfl,h1,h2,r⟩:=rx.dk;have hl:=congrArg z0P h2;rw[z07,z07] at hl;refine .inr ⟨p,kvs,rfl,h1,?_⟩;rw[hl];exact k _ H .(23) (.int _)
 ·exact .inl (Q3 A H x dx d Q lv rx h k)
end
def Iti (a:Addr) (o:Obj) (kvs:List (Key×V)):It:=
 ⟨λ i H=>H a=some (.frz o (.dK kvs))/\i<kvs.length,λ i H x H'=>∃ T p,H T=none/\kvs[i]?=some p/\x=.ref T/\H'=upd H T (.tup [kV p.1,p.2]),λ i H=>H a=some (.frz o (.dK kvs))/\kvs.length<=i⟩
theorem X_ {K:z08}(a it:Addr) {o:Obj}{es:Array z2z}{ep:Nat}(hd:o.data=.dict es ep) (kvs:List (Key×V)) :
  Turn P w K (.Tuple elts x1 tp) (Iti a o kvs) [it] it (λ i h=>∃ ok ov,IsItemIter h it a i kvs.length ep ok ov) where
 mem:=by simp
 obj:=λ i h st b hb=>by
  have e:b=it:=by simpa using hb
  subst e;obtain⟨ok,ov,e⟩:=st;exact⟨_,e,λ v z=>by
   have z':z51 _=z52 v:=z;cases z'⟩
 keep:=λ i h h' st k=>let ⟨ok,ov,e⟩:=st;⟨ok,ov,k it (by simp) _ e⟩
 item:=by
  intro X hP hw hK hc i π s σ H E I hf st hg;subst hP hw hK;obtain⟨he,hi⟩:=hg;obtain⟨ok,ov,st⟩:=st;obtain⟨hm,vs,rel,dd⟩:=Pj I he hd;have hl:kvs.length=vs.length:=rel.length;obtain⟨f0,f1,f2,f3,f4,f5⟩:=hf it (by simp);have hv:vs[i]?=some (vs[i]'(by omega)):=by simp[show i<vs.length by omega]
  have hk:kvs[i]?=some (kvs[i]'hi):=by simp[hi]
  obtain⟨hkk,hvv⟩:=Ly rel hk hv;have hlt:it<s.heap.objs.size:=z0g st;refine wpAny_pyNext_items_item (knd:=Aq X.prog X.w) (kvs:=vs) (k:=(vs[i]'(by omega)).1) (v:=(vs[i]'(by omega)).2) (by rw[<-hl];exact st) dd hv λ key h1 hkey out ht hz kk=>?_;refine⟨_,rfl,wpAny_letOwnedTupleGo_items (s:={ s with heap:=h1 }) out λ h2 st2 sb=>?_⟩;have hT:H s.heap.objs.size=none:=I.hok.fresh (z06 _);have rk:RelV (kV (kvs[i]'hi).1) key:=by rw[hkk];exact relK hkey
  have I1:Inv X π σ (upd H s.heap.objs.size (.tup [kV (kvs[i]'hi).1,(kvs[i]'hi).2])) { s with heap:=s.heap.push { cls:=.type "tuple",data:=.seq #[key,(vs[i]'(by omega)).2] } }:=
   I.laid (a:=s.heap.objs.size) (t':=s.toks) (λ b u e=>z0e _ e) (z06 _) ⟨by show 2<=sizeLine;decide,[key,(vs[i]'(by omega)).2],.cons rk (.cons hvv .nil),_,z0l _ rfl,rfl,_,rfl⟩
  have kp:∀ b u,b≠it->(s.heap.push { cls:=.type "tuple",data:=.seq #[key,(vs[i]'(by omega)).2] }).get? b=some u->h2.get? b=some u:=λ b u hb e=>by
   refine (sb.2 b hb).trans ?_
   rcases z4v e with ⟨rfl,rfl⟩ | e'
   ·exact ht
   ·exact kk b u hb e'
  have I2:=L2.Inv.turned (t':=s.toks) (it:=it) (h':=h2) I1 kp (by rw[Ak (z0j hlt)];exact f0) f1 f3 f4 f5;refine⟨.ref s.heap.objs.size,_,I2,rfl,⟨_,_,hT,hk,rfl,rfl⟩,⟨key,(vs[i]'(by omega)).2,by rw[hl];exact st2⟩,λ b hb=>?_⟩;have e:b=it:=by simpa using hb
  subst e;rw[Ak (z0j hlt)];exact f0
 done:=by
  intro X hP hw hK hc i π s σ H E I hf st hg;subst hP hw hK;obtain⟨he,hi⟩:=hg;obtain⟨ok,ov,st⟩:=st;obtain⟨hm,vs,rel,dd⟩:=Pj I he hd;have hl:kvs.length=vs.length:=rel.length;obtain⟨f0,f1,f2,f3,f4,f5⟩:=hf it (by simp);exact wpAny_pyNext_items_end (I.ok.hd hc) (by rw[<-hl];exact st) dd (by rw[z2R];omega) λ h' eb=>⟨rfl,I.turned (t':=s.toks) (λ b o hb e=>eb b o hb e) f0 f1 f3 f4 f5⟩
 self:=λ _ _ _ _ _ ⟨ok,ov,st⟩ h=>PySem.W.kcp_self st h
section
variable {G:Gx}{a b c:Expr}{fa fb fc:FE}{tl:TE}
def vJ (tl:TE):TI:=λ σ H R=>tl σ H λ x H1=>∃ a o kvs,x=.ref a/\H1 a=some (.frz o (.dK kvs))/\R (Iti a o kvs) H1
theorem gG {l:Expr}{cpos:Pos}(hl:PE X l tl) (hbase:z1x l "items" X.env (eval l X.env)=eval l X.env:=by rfl) (hline:(apos.endLine==cpos.line)=true:=by rfl) :
  PI X (.Tuple elts x1 tp) (.Call (.Attribute l "items" apos) [] [] cpos) (vJ tl):=by
 intro π s σ H R I h;refine wpAny_Call_method (T:="dict") (id:="dict.items") hbase rfl hline F.plainAttrs_dict z8C F.type_dict_items (thn (hl π s σ H _ I h) λ v s1 ⟨x,H1,I1,r1,q1⟩=>?_);obtain⟨a,o,kvs,e,hq,q⟩:=q1;subst e;cases r1;obtain⟨_,_,_,_,_,o',es,ep,ho',h1,h2,_⟩:=(show BV X.prog X.w H1 s1.heap a (.frz o (.dK kvs)) from I1.hok a _ hq);obtain⟨ho,_⟩:=(show BV X.prog X.w H1 s1.heap a (.frz o (.dK kvs)) from I1.hok a _ hq);rw[ho] at ho';cases ho';obtain⟨hm,vs,rel,dd⟩:=Pj I1 hq h2;have hl':kvs.length=vs.length:=rel.length;have hm1:=dd.dictOf;refine⟨hm1.typeIs,hm1.mapOf.noDict,?_⟩;show z02 _ _ (z2a cpos (.builtin "dict.items") [.ref a] [] []) _ _ s1;refine method_meetsIn z8C F.entry_dict_items rfl (PySem.evalArgs_none ⟨rfl,hm1.typeIs,F.args_dict_items_1 _,_,meets_dict_items (Aq X.prog X.w) a hm,⟨vs,hm1⟩,?_⟩);have I2:Inv X π σ H1 { s1 with heap:=s1.heap.push { cls:=.type "dict_items",data:=.fields #[.ref a] } }:=I1.kept (t':=s1.toks) λ b o e=>z0e _ e;refine wpAny_pyIter_items (knd:=Aq X.prog X.w) (kvs:=vs) (s:={ s1 with heap:=s1.heap.push { cls:=.type "dict_items",data:=.fields #[.ref a] } }) ⟨_,z0l _ rfl,rfl,rfl⟩ (dd.push _) ?_;refine⟨(s1.heap.push { cls:=.type "dict_items",data:=.fields #[.ref a] }).objs.size,[(s1.heap.push { cls:=.type "dict_items",data:=.fields #[.ref a] }).objs.size],_,_,H1,rfl,I2.kept (t':=s1.toks) λ b o e=>z0e _ e,X_ a _ h2 kvs,⟨.none,.none,?_⟩,λ b hb=>?_,q⟩
 ·rw[hl'];exact z0l _ rfl
 ·have e:b=(s1.heap.push { cls:=.type "dict_items",data:=.fields #[.ref a] }).objs.size:=by simpa using hb
  subst e;exact I2.fpOk (z06 _) (I2.hok.fresh (z06 _))
def Pk (f:FE):FI:=λ ρ=>match f ρ with | some (.dk kds)=>some (kds.map λ p=>.tup [kDt p.1,p.2]) | _=>none
theorem gH {α β:Type}{f:α->β}{l:List α}{y:β}(h:(l.map f)[i]?=some y):∃ x,l[i]?=some x/\f x=y:=by
 rw[z0q] at h;exact z1U.mp h
theorem cB {kvs:List (Key×V)}{kds:List (Key×D)}(h:F1 p=some (.frz o (.dK kvs))) (e:kvs.map (·.1)=kds.map (·.1)) (r:RepL G F2 (kvs.map (·.2)) (kds.map (·.2))) :
  Src G (Iti p o kvs) (kds.map λ p=>.tup [kDt p.1,p.2]) F1 F2:=by
 have hl:kvs.length=kds.length:=by have:=congrArg z0P e;rwa [z07,z07] at this
 refine⟨λ i H s hi=>⟨s _ _ h,by rw[hl];rwa [z07] at hi⟩,λ i H x H' d s hd y=>?_,λ i H s hi=>⟨s _ _ h,by rw[hl];rwa [z07] at hi⟩⟩;obtain⟨T,q,hT,y2,rfl,rfl⟩:=y;obtain⟨z,hz,rfl⟩:=gH hd;have e1:(kvs.map (·.1))[i]?=some q.1:=by rw[z0q,y2];rfl
 rw[e,z0q,hz] at e1;injection e1 with e1
 have rz:Rep G F2 q.2 z.2:=r.2 i q.2 z.2 (by rw[z0q,y2];rfl) (by rw[z0q,hz];rfl);refine⟨Al hT _,λ B lv sm=>?_⟩;have rr:RepL G (hid B H) [kV q.1,q.2] [kDt z.1,z.2]:=.cons (by rw[<-e1];exact Q5 _) (.cons (rz.mono sm) .nil);exact EY lv hT rr
theorem T6 {top:Bool}{cpos:Pos}(h:PF X G a fa) (hbase:z1x a "items" X.env (eval a X.env)=eval a X.env:=by rfl) (hline:(apos.endLine==cpos.line)=true:=by rfl) :
  PFI X G false (.Tuple elts x1 tp) (.Call (.Attribute a "items" apos) [] [] cpos) (Pk fa):=λ A=>Nu (gG (@h A) hbase hline) λ σ H R ⟨ρ,ds,o,e,k⟩=>by
 unfold Pk at e;split at e
 ·rename_i kds e1;cases e;refine⟨ρ,_,o,e1,λ v H1 s1 r1=>?_⟩;cases r1 with
  | dk h l r=>exact⟨_,_,_,rfl,Ar _ _ h,k _ H1 s1 (cB h l ⟨by have:=congrArg z0P l;rwa [z07,z07] at this ⊢,r⟩)⟩
 ·cases e
end
section
variable {G:Gx}{a b c:Expr}{fa fb fc:FE}{es:List Expr}{fs:FA}
theorem U3 {P:z0s}{w:z0k}:∀ {kvs:List (Key×V)}{us:List z00},us.length=kvs.length->(∀ (j:Nat) u,us[j]?=some u->∃ p,kvs[j]?=some p/\(Aq P w).is p.1 u=true)->Vals (kvs.map λ p=>kV p.1) us
 | [],us,hl,_=>by
  have:us=[]:=z4w hl;subst this;exact .nil
 | p::kvs,[],hl,_=>by simp at hl
 | p::kvs,u::us,hl,h=>by
  obtain⟨q,h1,h2⟩:=h 0 u rfl;simp at h1;subst h1;exact .cons (relK h2) (U3 (P:=P) (w:=w) (by simpa using hl) λ j v hv=>by simpa using h (j+1) v (by simpa using hv))
theorem Hu (hc:X.calm=true):Dd X (.type "list") (λ xs H Q=>∃ p kvs,xs=[.ref p]/\Rd H p (.dK kvs)/\∀ l,H l=none->Q (.ref l) (upd H l (.lst (kvs.map λ q=>kV q.1)))):=by
 intro π s σ H xs us Q I r h;obtain⟨p,kvs,rfl,e,q⟩:=h;obtain⟨u,rfl,ru⟩:=r.one;cases ru;obtain⟨z,hd,vs,rel,dd⟩:=Nq I.hok e;obtain⟨ep,dd⟩:=dd.dictAt;have hl:kvs.length=vs.length:=rel.length;refine z8D (z8E (knd:=Aq X.prog X.w) (kvs:=vs) (ep:=ep) hd) (I.ok.hd hc) dd (by omega) λ h' tk acc c' kp hn hi=>?_;have va:Vals (kvs.map λ q=>kV q.1) acc.toList:=by
  refine U3 (P:=X.prog) (w:=X.w) (by simp[hi.1,hl]) λ j u hu=>?_;obtain⟨k,x,h1,h2⟩:=hi.2 j u (by simpa using hu);have hj:j<kvs.length:=by rw[hl];exact (z1r.mp h1).1
  refine⟨kvs[j],by simp[hj],?_⟩;rw[(Ly rel (by simp[hj]) h1).1];exact h2
 exact⟨.ref s.heap.objs.size,_,I.laid (t':=tk) kp (z06 _) (show BV X.prog X.w _ h' _ (.lst (kvs.map λ q=>kV q.1)) from⟨by rw[z07];exact z,acc.toList,c',va,by simpa using hn⟩),rfl,q _ (I.hok.fresh (z06 _))⟩
def listE:D->Option D
 | .dk kds=>some (.lst (kds.map λ p=>kDt p.1))
 | d=>fG d
theorem gJ {H:Hp}:∀ {kvs:List (Key×V)}{kds:List (Key×D)},kvs.map (·.1)=kds.map (·.1)->RepL G H (kvs.map λ q=>kV q.1) (kds.map λ p=>kDt p.1)
 | [],[],_=>RepL.nil
 | [],_::_,h=>by simp at h
 | _::_,[],h=>by simp at h
 | p::kvs,q::kds,h=>by
  rw[z0c,z0c] at h;injection h with h1 h2
  exact .cons (by show Rep G H (kV p.1) (kDt q.1);rw[h1];exact Q5 _) (gJ h2)
theorem cC:SndC G (λ xs H Q=>(∃ p ys,xs=[.ref p]/\(SqL G.K H p ys∨SqT G.K H p ys)/\∀ l,H l=none->Q (.ref l) (upd H l (.lst ys)))∨∃ p kvs,xs=[.ref p]/\Rd H p (.dK kvs)/\∀ l,H l=none->Q (.ref l) (upd H l (.lst (kvs.map λ q=>kV q.1)))) listE:=by
 intro A H x dx d Q lv rx h k;unfold listE at h;split at h
 ·cases h;obtain⟨p,kvs,rfl,h1,h2,r⟩:=rx.dk;exact .inr ⟨p,kvs,rfl,h1,λ l hl=>k _ _ (Al hl _) (De lv hl (gJ h2))⟩
 ·exact .inl (fW A H x dx d Q lv rx h k)
def Nz (x:D) (ds:List D) (v:D):Option D:=match x with
 | .dt kds=>(Kz ds).bind λ k=>if kds.length<sizeLine/\ds.length<=sizeLine then some (.dt (putL k v kds)) else none
 | _=>none
def Wb (i:Nat) (fk:FA) (fv:FE):FS:=λ ρ=>(fv ρ).bind λ v=>(fk ρ).bind λ y=>(ownO ρ i).bind λ x=>(Nz x y v).map λ z=>.nx (ρ.set i (.ow z))
theorem YB {ρ:Rho}{o:Out}(h:Wb i fs fb ρ=some o):∃ v y x z,fb ρ=some v/\fs ρ=some y/\ρ[i]?=some (.ow x)/\Nz x y v=some z/\o=.nx (ρ.set i (.ow z)):=by
 unfold Wb at h;cases e1:fb ρ with
 | none=>simp[e1] at h
 | some v=>
  cases e2:fs ρ with
  | none=>simp[e1,e2] at h
  | some y=>
   cases e3:ownO ρ i with
   | none=>simp[e1,e2,e3] at h
   | some x=>
    cases e4:Nz x y v with
    | none=>simp[e1,e2,e3,e4] at h
    | some z=>
     simp[e1,e2,e3,e4] at h;exact⟨v,y,x,z,rfl,rfl,Pg e3,e4,h.symm⟩
theorem gK (hu:X.A.units+1<z0h) (hv:PE X (.Name x xpos) (tVar i)) (ha:PFA X G es fs) (hb:PF X G b fb)
  (hs:z1o b (some (.Subscript (.Name x xpos) (.Tuple es x1 tp) spos)) pos.line X.env=pure false:=by rfl):PSD X G (.Assign [.Subscript (.Name x xpos) (.Tuple es x1 tp) spos] b pos) (Wb i fs fb):=λ A0 He π s σ H D I ⟨ρ,o,⟨A,w⟩,e,k⟩=>by
 obtain⟨v,y,x0,z,e1,e2,hi,e3,rfl⟩:=YB e;refine Us hu hv (Xo (@ha A)) (@hb A) hs π s σ H D I ?_;unfold Nz at e3;split at e3
 ·rename_i kds;cases e4:Kz y with
  | none=>simp[e4] at e3
  | some q=>
   simp only[e4,z0M] at e3;split at e3
   ·rename_i hz;cases e3;obtain⟨p,h1,hA,kvs,h2,hk,r⟩:=w.ok.ow i _ hi;refine⟨ρ,v,w.ok,e1,λ u H1 s1 r1=>⟨_,h1,ρ,y,(w.mono s1).ok,e2,λ vs H2 s2 r2=>⟨by rw[r2.1];exact hz.2,λ T hT=>?_⟩⟩⟩;have ek:=Ph r2 e4;subst ek;have hl:kvs.length<sizeLine:=by
     have:=congrArg z0P hk;rw[z07,z07] at this;omega
    have s3:Same H2 (upd H2 T (.tup (q.map kV))):=Al hT _;refine⟨p,_,rfl,DPut.t (s3 _ _ (s2 _ _ (s1 _ _ h2))) Aj hl,?_⟩;have w2:=((w.mono s1).mono s2).mono s3;have pk:=U0 (k:=q) (r1.mono (A_ (s2.trans s3))) hk (r.mono (A_ (s1.trans (s2.trans s3))));refine k _ _ ⟨A,w2.wr hi h1 ⟨_,Aj,pk.1,?_⟩⟩;rw[Fq hA];exact pk.2
   ·cases e3
 ·cases e3
end
section
variable {G:Gx}{a b c:Expr}{fa fb fc:FE}{es:List Expr}{fs:FA}{src:FI}
theorem PFI.top (h:PFI X G false tg a src):PFI X G true tg a src:=λ A=>Nu (@h A) λ σ H R ⟨ρ,ds,o,e,k⟩=>
 ⟨ρ,ds,o,e,λ J H1 s1 sr=>k J H1 s1 ⟨λ i H s hi=>sr.go i H (Ar.trans s) hi,λ i H x H' d s hd y=>sr.yld i H x H' d (Ar.trans s) hd y,λ i H s hi=>sr.stop i H (Ar.trans s) hi⟩⟩
theorem RepT.ob {A:List Addr}{H:Hp}{v:V}{c:Str}{gs:List (Str×D)}(r:RepT G A H v (.ob c gs)):∃ a C dx fs,v=.ref a/\G.cl c=some C/\H a=some (.ins C dx fs)/\fs.map (·.1)=gs.map (·.1)/\RepL G (hid A H) (fs.map (·.2)) (gs.map (·.2)):=by
 rcases r with r | ⟨a,e,C,dx,fs,h,k,r⟩
 ·cases r with
  | ob hc h l r=>
   have hl:=congrArg z0P l;rw[z07,z07] at hl;exact⟨_,_,_,_,rfl,hc,Ar _ _ h,l,by rw[z07,z07];exact hl,r⟩
 ·exact⟨a,C,dx,fs,e,k.1,h,k.2,r⟩
def fldD (f:Str):D->Option D
 | .ob _ gs=>gs.lookup f
 | _=>none
theorem Pn {H:Hp}{f:Str}{d:D}:∀ {gs:List (Str×D)}{fs:List (Str×V)},fs.map (·.1)=gs.map (·.1)->RepL G H (fs.map (·.2)) (gs.map (·.2))->gs.lookup f=some d->∃ v,fs.lookup f=some v/\Rep G H v d
 | [],fs,e,r,h=>by simp at h
 | p::gs,[],e,r,h=>by simp at e
 | p::gs,q::fs,e,r,h=>by
  rw[z0c,z0c] at e r;injection e with e1 e2
  obtain⟨x,ys,e3,r1,r2⟩:=r.uncons;injection e3 with e4 e5
  subst e4 e5;obtain⟨p1,p2⟩:=p;obtain⟨q1,q2⟩:=q;simp only at e1 r1;subst e1
  by_cases hf:f=q1
  ·subst hf;simp only[z0r,beq_self_eq_true,z6W] at h ⊢;subst h;exact⟨q2,rfl,r1⟩
  ·have hb:(f==q1)=false:=beq_eq_false_iff_ne.mpr hf;simp only[z0r,hb] at h ⊢;exact Pn e2 r2 h
theorem BP (hcl:∀ c C,G.cl c=some C->Cls X.K C/\Bf X.K C f) (he:PU X G a fa) (hb:z1x a f X.env (eval a X.env)=eval a X.env:=by rfl):PF X G (.Attribute a f pos) (uF (fldD f) fa):=
 λ A=>Bx (Xl (@he A) hb) λ σ H Q ⟨ρ,d,o,e,k⟩=>by
  obtain⟨x0,e1,e2⟩:=G6 e;unfold fldD at e2;split at e2
  ·rename_i cn gs;refine⟨ρ,_,o,e1,λ v H1 s1 r1=>?_⟩;obtain⟨p,C,dx,fs,rfl,hc,h,l,r⟩:=r1.ob;obtain⟨v,h1,h2⟩:=Pn (f:=f) (d:=d) l r e2;exact⟨_,_,_,_,v,rfl,h,(hcl _ _ hc).1,(hcl _ _ hc).2,h1,k v H1 s1 h2⟩
  ·cases e2
end
def Its (x:Str):It:=⟨λ i _=>i<x.cps.size,λ i H y H'=>H'=H/\∃ c,x.cps[i]?=some c/\y=.str ⟨#[c]⟩,λ i _=>x.cps.size<=i⟩
theorem Wc {K:z08}(it:Addr) (x:Str) (t:Tok) (ty:String) (W:∀ A:z0a,A.handled=none->z1F P w A it [it] [it] x.cps.size (SignAt x) (λ i h=>h.IsStrIter it ty x t i))
  (hn:["enumerate","zip","dict_itemiterator","dict_reverseitemiterator","odict_iterator","itertools.zip_longest","itertools.pairwise"].contains ty=false)
  (fin:∀ (A:z0a),A.handled=none->∀ (i:Nat) (s:z03) (Q:Option z00->z03->Prop) (E:z00->z03->Prop),s.heap.IsStrIter it ty x t i->x.cps[i]?=none->(∀ h',z4u it s.heap h'->Q none { s with heap:=h' })->z02 (z04 P w) A (z0K (.ref it)) Q E s)
  (self:∀ (A:z0a) (i:Nat) (s:z03) (Q:z00->z03->Prop) (E:z00->z03->Prop),s.heap.IsStrIter it ty x t i->Q (.ref it) s->z02 (z04 P w) A (z2t (.ref it)) Q E s) :
  Turn P w K tg (Its x) [it] it (λ i h=>h.IsStrIter it ty x t i) where
 mem:=by simp
 obj:=λ i h st b hb=>by
  have e:b=it:=by simpa using hb
  subst e;obtain⟨o,e,c,d⟩:=st;exact⟨o,e,λ v z=>by rw[d] at z;cases z⟩
 keep:=λ i h h' st k=>let ⟨o,e,c,d⟩:=st;⟨o,k it (by simp) o e,c,d⟩
 item:=by
  intro X hP hw hK hc i π s σ H E I hf st hg;subst hP hw hK;obtain⟨f0,f1,f2,f3,f4,f5⟩:=hf it (by simp);refine (W X.A (I.ok.hd hc)).item i s _ _ hg st λ v h' tk hv st' kk=>?_;obtain⟨c,u,e1,rfl⟩:=hv;have I1:Inv X π σ H { s with heap:=h',toks:=tk }:=I.turned (λ b o hb e=>kk b o (by simpa using hb) e) f0 f1 f3 f4 f5;obtain⟨o1,e2,c1,d1⟩:=id st';exact⟨_,rfl,V5 (s:={ s with heap:=h',toks:=tk }) e2 c1 d1 hn ⟨.str ⟨#[c]⟩,H,I1,⟨u,rfl⟩,⟨rfl,c,e1,rfl⟩,st',λ b hb=>(hf b hb).1⟩⟩
 done:=by
  intro X hP hw hK hc i π s σ H E I hf st hg;subst hP hw hK;obtain⟨f0,f1,f2,f3,f4,f5⟩:=hf it (by simp);exact fin X.A (I.ok.hd hc) i s _ _ st (by rw[Array.getElem?_eq_none_iff];exact hg) λ h' eb=>⟨rfl,I.turned (t':=s.toks) (λ b o hb e=>eb b o hb e) f0 f1 f3 f4 f5⟩
 self:=λ A i s Q E st h=>self A i s Q E st h
section
variable {G:Gx}{a b c:Expr}{fa fb fc:FE}{tl:TE}
def iStr (tl:TE):TI:=λ σ H R=>tl σ H λ x H1=>∃ y,x=.str y/\R (Its y) H1
theorem vK {l:Expr}(hl:PE X l tl):PI X tg l (iStr tl):=by
 intro π s σ H R I h;refine thn (hl π s σ H _ I h) λ v s1 ⟨x,H1,I1,r1,q1⟩=>?_;obtain⟨y,e,q⟩:=q1;subst e;obtain⟨t,e⟩:=(show ∃ t,v=z3D y t from r1);subst e;have fp:∀ b∈[s1.heap.objs.size],FpOk X π H1 b:=λ b hb=>by
  have e:b=s1.heap.objs.size:=by simpa using hb
  subst e;exact I1.fpOk (z06 _) (I1.hok.fresh (z06 _))
 cases ha:y.cps.all (·<128)
 ·exact wpAny_pyIter_wide ha ⟨s1.heap.objs.size,[s1.heap.objs.size],_,_,H1,rfl,I1.kept (t':=s1.toks) λ b o e=>z0e _ e,
   Wc _ y t "str_iterator" (λ A hA=>Walks.strWide hA _ y t) (by decide) (λ _ hh _ _ _ _ st hx k=>wpAny_pyNext_wide_end hh st hx k) (λ _ _ _ _ _ st h=>wpAny_pyIter_striter_wide st h),⟨_,z0l _ rfl,rfl,rfl⟩,fp,q⟩
 ·exact wpAny_pyIter_ascii ha ⟨s1.heap.objs.size,[s1.heap.objs.size],_,_,H1,rfl,I1.kept (t':=s1.toks) λ b o e=>z0e _ e,
   Wc _ y t "str_ascii_iterator" (λ A hA=>Walks.strAscii hA _ y t) (by decide) (λ _ hh _ _ _ _ st hx k=>wpAny_pyNext_ascii_end hh st hx k) (λ _ _ _ _ _ st h=>wpAny_pyIter_striter_ascii st h),⟨_,z0l _ rfl,rfl,rfl⟩,fp,q⟩
def We (x:Str):List D:=x.cps.toList.map λ c=>.str ⟨#[c]⟩
theorem oW:Src G (Its x) (We x) F1 F2:=by
 have hl:(We x).length=x.cps.size:=by unfold We;simp
 refine⟨λ i H s hi=>by rw[hl] at hi;exact hi,λ i H y H' d s hd q=>?_,λ i H s hi=>by rw[hl] at hi;exact hi⟩;obtain⟨q1,c,q2,q3⟩:=q;refine Rj ⟨q1,?_⟩;obtain⟨z,hz,rfl⟩:=gH hd;have e:x.cps[i]?=some z:=by simpa using hz
 rw[e] at q2;cases q2;rw[q3];exact .str _
def seqA (f:FE):FI:=λ ρ=>match f ρ with | some (.str x)=>some (We x) | _=>seqE f ρ
theorem BX (hG:G.K=X.K) (h:PF X G a fa):PFI X G false tg a (seqA fa):=λ A=>Nu (piOr (gF hG h (A:=A)) (vK (@h A))) λ σ H R ⟨ρ,ds,o,e,k⟩=>by
 unfold seqA at e;split at e
 ·rename_i x e1;cases e;refine .inr ⟨ρ,_,o,e1,λ v H1 s1 r1=>?_⟩;cases r1;exact⟨_,rfl,k _ H1 s1 oW⟩
 ·exact .inl ⟨ρ,_,o,e,k⟩
def blsD:List D->Option (List Bool)
 | []=>some []
 | .bl i::r=>(blsD r).map (i::·)
 | _::_=>none
theorem ZR {H:Hp}:∀ {ds:List D}{xs:List V}{bs:List Bool},RepL G H xs ds->blsD ds=some bs->xs=bs.map V.bl
 | [],xs,bs,r,h=>by cases h;exact r.nil_inv
 | d::ds,xs,bs,r,h=>by
  obtain⟨x,ys,rfl,r1,r2⟩:=r.uncons;cases d with
  | bl i=>
   cases e:blsD ds with
   | none=>simp[blsD,e] at h
   | some bs'=>
    simp[blsD,e] at h;subst h;cases r1;rw[ZR r2 e];rfl
  | _=>simp[blsD] at h
theorem Pq (hc:X.calm=true):Dd X (.builtin "all") (λ xs H Q=>∃ (p:Addr) (bs:List Bool),xs=[.ref p]/\SqL X.K H p (bs.map V.bl)/\Q (.bl (bs.all id)) H):=by
 intro π s σ H xs us Q I r h;obtain⟨p,bs,rfl,hs,k⟩:=h;obtain⟨u,rfl,ru⟩:=r.one;cases ru;obtain⟨its,rv,pl,hz⟩:=I.list hs;have hl:=pl.isList;have hlt:p≠s.heap.objs.size:=by obtain⟨o,ho,_⟩:=hl;exact z0j (z0g ho)
 have hlen:bs.length=its.length:=by have:=rv.length;rwa [z07] at this
 refine call_all_walk (z53 hl ?_);refine⟨_,_,_,_,_,_,λ i=>bs.getD i true,rfl,z3U (A:=X.A.in1) (I.ok.hd hc) s.heap.objs.size p hlt its.toArray,⟨⟨_,z0l _ rfl,rfl,rfl⟩,hl.push _⟩,?_,λ h' tk kk=>?_⟩
 ·intro i v s' Q' E' hv hq;have hi:its[i]?=some v:=by simpa using hv
  have hlt':i<bs.length:=by rw[hlen];exact (z1r.mp hi).1
  obtain⟨u',hu,ru⟩:=rv.get (i:=i) (x:=.bl (bs[i]'hlt')) (by rw[z0q];simp[hlt']);rw[hi] at hu;cases hu;cases (show v=z39 (bs[i]'hlt') from ru);have e:bs.getD i true=bs[i]'hlt':=by simp[z6X,hlt']
  have hq':Q' (bs.getD i true) s':=hq;rw[e] at hq';exact z1J hq'
 ·refine⟨.bl (bs.all id),H,I.kept (λ b o e=>kk b o ?_ (z0e _ e)),?_,k⟩
  ·intro hb;have:b=s.heap.objs.size:=by simpa using hb
   exact absurd (z0g e) (by rw[this];exact z1l _)
  ·show z39 _=z39 _;congr 1;rw[z0t,<-hlen];rw[z1W,z1c,z1c];constructor
   ·intro q b hb;obtain⟨i,hi,rfl⟩:=z5n hb;have:=q i (z0o.mpr hi);simpa [z6X,hi] using this
   ·intro q i hi;have hi':=z0o.mp hi;have:=q (bs[i]'hi') (z1d hi');simpa [z6X,hi'] using this
def allD:D->Option D
 | .lst ds=>(blsD ds).map λ bs=>.bl (bs.all id)
 | _=>none
theorem U4:SndC G (λ xs H Q=>∃ (p:Addr) (bs:List Bool),xs=[.ref p]/\SqL G.K H p (bs.map V.bl)/\Q (.bl (bs.all id)) H) allD:=by
 intro A H x dx d Q lv rx h k;unfold allD at h;split at h
 ·rename_i ds;cases e:blsD ds with
  | none=>simp[e] at h
  | some bs=>
   rw[e] at h;cases h;obtain⟨p,xs,rfl,h1,r⟩:=rx.lst;have e2:=ZR r e;subst e2;exact⟨p,bs,rfl,h1,k _ H .(23) (.bl _)⟩
 ·cases h
theorem YC:z0x "all"=some (.builtin "all"):=by decide +kernel
end
section
variable {G:Gx}{a b c:Expr}{fa fb fc:FE}
def isND (neg:Bool):D->Option D
 | .non=>some (.bl (!neg))
 | _=>some (.bl neg)
theorem oX {d:D}(r:RepT G A H v d):(decide (v=.non))=(match d with | .non=>true | _=>false):=by
 rcases r with r | ⟨p,e,r⟩
 ·cases r<;>simp
 ·subst e;cases d<;>first | exact r.elim | simp
theorem ZS {p':Pos}(ha:PU X G a fa):PFT X G (.Compare a [.Is] [.Constant .none j p'] pos) (blF (uF (isND false) fa)):=λ A=>ZC (uK (uJ (@ha A))) λ σ H Q ⟨ρ,b,o,e,k⟩=>by
 obtain⟨x0,e1,e2⟩:=G6 (WK e);refine⟨ρ,x0,o,e1,λ v H1 s1 r1=>⟨_,rfl,?_⟩⟩;rw[oX r1];cases x0<;>(cases e2;exact k H1 s1)
end
section
variable {G:Gx}{a b c:Expr}{fa fb fc:FE}
def eqTo (x d:D):Bool:=match eqK 62 d x with | some b=>b | none=>false
def knows (x d:D):Bool:=(eqK 62 d x).isSome
def rInP (G:Gx) (neg:Bool):R2:=λ x y H Q=>∃ (A:List Addr) (as ds:List D),RepT G A H x (.tup as)/\RepT G A H y (.lst ds)/\ds.all (knows (.tup as))=true/\Q (.bl (if neg then !ds.any (eqTo (.tup as)) else ds.any (eqTo (.tup as)))) H
open Classical in
theorem ZV (hG:G.K=X.K) (hu:X.A.units+64<z0h) {π:zP}{s:z03}{σ:St}{H:Hp}{A:List Addr}{x:V}{u:z00}{as ds:List D}{xs:List V}{its:List z00}(I:Inv X π σ H s) (rx:RepT G A H x (.tup as)) (ru:RelV x u)
  (r:RepL G (hid A H) xs ds) (v:Vals xs its) (hk:ds.all (knows (.tup as))=true) :
  ∃ e:z00->Bool,(∀ y,y∈its.toArray->z2n X.A.in1 s y u (e y))/\its.toArray.any e=ds.any (eqTo (.tup as)):=by
 have rx':Rep G H x (.tup as):=by
  rcases rx with q | ⟨p,_,q⟩
  ·exact q.mono Ar
  ·exact q.elim
 have one:∀ (i:Nat) y,its[i]?=some y->∃ d,ds[i]?=some d/\z2n X.A.in1 s y u (eqTo (.tup as) d):=λ i y hy=>by
  have hi:i<its.length:=(z1r.mp hy).1;have hx:i<xs.length:=by rw[v.length];exact hi
  have hd:i<ds.length:=by rw[<-r.1];exact hx
  obtain⟨y',h1,h2⟩:=v.get (i:=i) (x:=xs[i]) (by simp[hx]);rw[hy] at h1;cases h1;refine⟨ds[i],by simp[hd],?_⟩;have kn:knows (.tup as) ds[i]=true:=z1c.mp hk _ (z1d hd);unfold knows at kn;obtain⟨b,hb⟩:=z6o.mp kn;have eb:eqTo (.tup as) ds[i]=b:=by unfold eqTo;rw[hb]
  rw[eb];exact Rh I hG 62 X.A.in1 (by show X.A.units+1+62<z0h;omega) hb ((r.2 i _ _ (by simp[hx]) (by simp[hd])).mono Ar) rx' h2 ru
 refine⟨λ y=>decide (∃ (i:Nat) (d:D),its[i]?=some y/\ds[i]?=some d/\eqTo (.tup as) d=true),λ y hy=>?_,?_⟩
 ·by_cases h:∃ (i:Nat) (d:D),its[i]?=some y/\ds[i]?=some d/\eqTo (.tup as) d=true
  ·obtain⟨i,d,h1,h2,h3⟩:=id h;obtain⟨d',h4,h5⟩:=one i y h1;rw[h2] at h4;cases h4;rw[h3] at h5;show z2n X.A.in1 s y u (decide (∃ (i:Nat) (d:D),its[i]?=some y/\ds[i]?=some d/\eqTo (.tup as) d=true));rw[decide_eq_true h];exact h5
  ·obtain⟨i,hi,rfl⟩:=z5n (show y∈its by simpa using hy);have hii:its[i]?=some its[i]:=z0F hi;obtain⟨d,h4,h5⟩:=one i _ hii;have h6:eqTo (.tup as) d=false:=by
    cases q:eqTo (.tup as) d with
    | false=>rfl
    | true=>exact absurd ⟨i,d,hii,h4,q⟩ h
   rw[h6] at h5;show z2n X.A.in1 s its[i] u (decide (∃ (j:Nat) (d:D),its[j]?=some its[i]/\ds[j]?=some d/\eqTo (.tup as) d=true));rw[decide_eq_false h];exact h5
 ·rw[z1W,z8F];rw[show its.toArray.any (λ y=>decide (∃ (i:Nat) (d:D),its[i]?=some y/\ds[i]?=some d/\eqTo (.tup as) d=true))=its.any (λ y=>decide (∃ (i:Nat) (d:D),its[i]?=some y/\ds[i]?=some d/\eqTo (.tup as) d=true)) by simp,z8F];constructor
  ·rintro⟨y,hy,h⟩;obtain⟨i,d,h1,h2,h3⟩:=of_decide_eq_true h;exact⟨d,z3d h2,h3⟩
  ·rintro⟨d,hd,h⟩;obtain⟨i,hi,rfl⟩:=z5n hd;have hx:i<its.length:=by rw[<-v.length,r.1];exact hi
   exact⟨its[i],z1d hx,decide_eq_true ⟨i,_,z0F hx,z0F hi,h⟩⟩
theorem gM (hG:G.K=X.K) (hu:X.A.units+64<z0h):OpR X (z0C .In) (rInP G false):=by
 intro π s σ H x y v u Q I rx ry h;obtain⟨A,as,ds,r1,r2,hk,k⟩:=h;obtain⟨c,ys,rfl,h2,q2⟩:=r2.lst;cases ry;obtain⟨jts,v2,p2,_⟩:=I.list (by rw[<-hG];exact h2);obtain⟨e,he,ea⟩:=ZV hG hu I r1 rx q2 v2 hk;exact z8g e p2.isList he ⟨.bl _,H,I,rfl,by rw[ea];exact k⟩
theorem cD (hG:G.K=X.K) (hu:X.A.units+64<z0h):OpR X (z0C .NotIn) (rInP G true):=by
 intro π s σ H x y v u Q I rx ry h;obtain⟨A,as,ds,r1,r2,hk,k⟩:=h;obtain⟨c,ys,rfl,h2,q2⟩:=r2.lst;cases ry;obtain⟨jts,v2,p2,_⟩:=I.list (by rw[<-hG];exact h2);obtain⟨e,he,ea⟩:=ZV hG hu I r1 rx q2 v2 hk;exact z8h e p2.isList he ⟨.bl _,H,I,rfl,by rw[ea];exact k⟩
def inF (neg:Bool) (x y:D):Option D:=match x,y with
 | .tup as,.lst ds=>if ds.all (knows (.tup as))=true then some (.bl (if neg then !ds.any (eqTo (.tup as)) else ds.any (eqTo (.tup as)))) else none
 | x,y=>inE neg x y
theorem U5 (neg:Bool):Dm G (λ x y H Q=>(rInA G.K neg x y H Q∨rDIn neg x y H Q)∨rInP G neg x y H Q) (inF neg):=by
 intro A H x y dx dy d Q lv rx ry h k;unfold inF at h;split at h
 ·split at h
  ·rename_i hk;cases h;exact .inr ⟨A,_,_,rx,ry,hk,k _ H .(23) (.bl _)⟩
  ·cases h
 ·exact .inl (oO neg A H x y _ _ d Q lv rx ry h k)
end
end PV
namespace PySem
open PySem.Spec
theorem gO {A:z0a}(h:∀ h' e,.(2)->z6Y { s with heap:=h' } (.ref e) "StopIteration"->Q (.ref e) { s with heap:=h' }):z02 (z04 prog w) A (z3V (.type "StopIteration") []) Q E s:=by
 unfold z3V z5o
 wp_walk
 exact h _ _ (λ b o e=>z0e _ (z0e _ e)) ⟨_,z0l _ rfl,rfl⟩
theorem gP (it d:Addr) (i ep:Nat) (es:Array z2z) (od:Obj) (hod:od.data=.dict es ep) (hi:i<es.size) :
  Meets (z1h.«dict_keyiterator.__next__» ⟨[.ref it],[]⟩) (λ _ R s=>s.heap.get? it=some { cls:=.type "dict_keyiterator",data:=.fields #[.ref d,.int i 0,.int es.size 0,.int ep 0] }/\s.heap.get? d=some od/\R (.ok (.ret (es[i]'hi).key)) { s with heap:=s.heap.update it (z3n (·.setIfInBounds 1 (z0H ((i:Int)+1)))),toks:=s.toks }):=
 .of_wp λ prog w A R s h=>by
  obtain⟨hp,g,dr,tk,os⟩:=s;obtain⟨h1,h2,h⟩:=h
  wp_walk using z6Z h2 hod,z6_ h2 hod,z5p h1 rfl,z3o h1 rfl
  have e0:(if (i:Int)<0 then none else es[(i:Int).toNat]?)=some (es[i]'hi):=by rw[if_neg (by omega),z1a,z5q hi]
  rw[e0];dsimp only
  wp_walk using z3o h1 rfl
  ·rw[if_neg (show ¬ z70 ((z71 "dict_keyiterator").elim "dict_keyiterator" λ x=>x.tpName)=true by decide +kernel)];show 1<4;decide
  ·rw[if_neg (show ¬ z70 ((z71 "dict_keyiterator").elim "dict_keyiterator" λ x=>x.tpName)=true by decide +kernel)];rw[if_neg]
   case hnc=>decide +kernel
   rw[z1R];have ti:z6Y { heap:=hp.update it (z3n λ x=>x.setIfInBounds 1 (z0H ((i:Int)+1))),gens:=g,drawn:=dr,toks:=tk,os:=os } (.ref it) "dict_keyiterator":=
    ⟨_,z1G _ h1 (z5r (z3p rfl _)),z5s ..⟩
   wp_walk using wpAny_isOneOf_keyiter ti
   exact⟨_,rfl,h⟩
theorem YD {A:z0a}{d:Addr}{es:Array z2z}{od:Obj}{Q:Option z00->z03->Prop}(hod:od.data=.dict es ep) (hi:i<es.size)
  (h1:s.heap.get? it=some { cls:=.type "dict_keyiterator",data:=.fields #[.ref d,.int i 0,.int es.size 0,.int ep 0] }) (h2:s.heap.get? d=some od)
  (h:Q (some (es[i]'hi).key) { s with heap:=s.heap.update it (z3n (·.setIfInBounds 1 (z0H ((i:Int)+1)))) }):z02 (z04 prog w) A (z0K (.ref it)) Q E s:=by
 have ti:s.TypeIs (.ref it) "dict_keyiterator":=⟨_,h1,rfl⟩;unfold z0K;refine z01 (z3W (z2x (name:=z0E "__next__") ti z4x ?_));refine call_meets z4x ti z8G (z8H _) (gP it d i ep es od hod hi) ⟨h1,h2,?_⟩;exact z05 h
theorem TY {A:z0a}{d:Addr}{es:Array z2z}{od:Obj}{Q:Option z00->z03->Prop}(hh:A.handled=none) (hod:od.data=.dict es ep) (hi:es.size<=i)
  (h1:s.heap.get? it=some { cls:=.type "dict_keyiterator",data:=.fields #[.ref d,.int i 0,.int es.size 0,.int ep 0] }) (h2:s.heap.get? d=some od)
  (h:∀ h',z4u it s.heap h'->Q none { s with heap:=h' }):z02 (z04 prog w) A (z0K (.ref it)) Q E s:=by
 have ti:s.TypeIs (.ref it) "dict_keyiterator":=⟨_,h1,rfl⟩;unfold z0K;refine z01 (z3W (z2x (name:=z0E "__next__") ti z4x
  (z1k z4x ti z8G ?_ (z8H _))))
 have hh1:A.in1.handled=none:=hh
 wp_walk using z6Z h2 hod,z6_ h2 hod,z5p h1 rfl,z3o h1 rfl
 have e0:(if (i:Int)<0 then none else es[(i:Int).toNat]?)=none:=by rw[if_neg (by omega),z1a,z72 hi]
 rw[e0];dsimp only
 wp_walk using z3o h1 rfl
 ·rw[if_neg (show ¬ z70 ((z71 "dict_keyiterator").elim "dict_keyiterator" λ x=>x.tpName)=true by decide +kernel)];show 0<4;decide
 ·refine z01 ?_;refine gO λ h' e kp ty=>wpAny_raiseNew_none hh1 ?_;refine z01 (z35 ty z73 (z05 (h h' λ b o hb z=>kp b o ?_)));exact ((z3X ..).2 b hb).trans z
theorem YF {A:z0a}{d:Addr}{es:Array z2z}{od:Obj}(hd:(d==z16)=false) (hx:od.ExactDict) (hod:od.data=.dict es ep) (h2:s.heap.get? d=some od)
  (h:Q .(6) { s with heap:=s.heap.push { cls:=.type "dict_keyiterator",data:=.fields #[.ref d,.int 0 0,.int es.size 0,.int ep 0] } }):z02 (z04 prog w) A (z2t (.ref d)) Q E s:=by
 have ti:s.TypeIs (.ref d) "dict":=⟨_,h2,hx.1⟩;refine z74 ti z8I (z1k z8I ti F.entry_dict_iter ?_ (F.args_dict_iter_1 _));unfold z1h.«dict.__iter__»
 wp_walk using z6Z h2 hod,z6_ h2 hod,wpAny_notOrdered_dict ti
 exact⟨_,rfl,"dict_keyiterator",_,⟨_,z0l _ rfl,rfl⟩,z4x.lookup,h⟩
section
variable {A:z0a}{I d:Addr}{es:Array z2z}{od:Obj}
def xZ (h:Heap) (I d:Addr) (i n ep:Nat) (od:Obj):Prop:=h.get? I=some { cls:=.type "dict_keyiterator",data:=.fields #[.ref d,.int i 0,.int n 0,.int ep 0] }/\h.get? d=some od
theorem Walks.raw (hh:A.handled=none) (hne:d≠I) (hod:od.data=.dict es ep):z1F prog w A I [I,d] [I] es.size (λ i v=>∃ hi:i<es.size,v=(es[i]'hi).key) (λ i h=>xZ h I d i es.size ep od) where
 sub:=λ b hb=>by simp at hb;simp[hb]
 frame:=λ _ _ _ st hk=>⟨hk I (by simp) _ st.1,hk d (by simp) _ st.2⟩
 item:=λ i s Q E hi st hQ=>by
  refine YD hod hi st.1 st.2 ?_;have e1:(s.heap.update I (z3n (·.setIfInBounds 1 (z0H ((i:Int)+1))))).get? I=some { cls:=.type "dict_keyiterator",data:=.fields #[.ref d,.int ((i+1:Nat):Int) 0,.int es.size 0,.int ep 0] }:=z1G _ st.1 rfl;exact hQ _ _ s.toks ⟨hi,rfl⟩ ⟨e1,(z0_ _ _ (z0n hne)).trans st.2⟩ λ b o hb e=>(z0_ _ _ (λ z=>hb (by simp[<-z]))).trans e
 done:=λ s Q E st hQ=>TY hh hod (z06 _) st.1 st.2 λ h' he=>hQ h' s.toks λ b o hb e=>he b o (λ z=>hb (by simp[z])) e
 self:=λ _ _ _ _ st hQ=>z8B ⟨_,st.1,rfl,rfl⟩ hQ
theorem oY (hd:(d==z16)=false) (hx:od.ExactDict) (hod:od.data=.dict es ep):z8J prog w "dict" d d es.size (λ i v=>∃ hi:i<es.size,v=(es[i]'hi).key) (λ h=>h.get? d=some od) where
 type:=λ _ hm=>⟨_,hm,hx.1⟩
 there:=λ _ hm=>⟨z0g hm,z0g hm⟩
 keep:=λ _ _ hm hk=>hk d (.inl rfl) _ hm
 notList:=by decide
 notTuple:=by decide
 hint:=λ _ _ _ _ hm hq=>PySem.W.kdl_hint_dict ⟨_,hm,hx.1⟩ hq
 iter:=λ A s hh hm=>⟨_,_,λ E Q hq=>YF hd hx hod hm hq,Walks.raw hh (z0j (z0g hm)) hod,z0l _ rfl,z0e _ hm⟩
end
end PySem
namespace PV
open PySem PySem.Spec L2
open PyProof.Rows hiding St
section
variable {G:Gx}
theorem Hv (hc:X.calm=true):Dd X (.type "list") (λ xs H Q=>∃ p kvs,xs=[.ref p]/\Rd H p (.dT kvs)/\∀ l (cs:List Addr),H l=none->cs.length=kvs.length->(∀ (i:Nat) (c:Addr) (q:List Key×V),cs[i]?=some c->kvs[i]?=some q->H c=some (.tup (q.1.map kV)))->Q (.ref l) (upd H l (.lst (cs.map V.ref)))):=by
 intro π s σ H xs us Q I r h;obtain⟨p,kvs,rfl,e,q⟩:=h;obtain⟨u,rfl,ru⟩:=r.one;cases ru;obtain⟨z,hd,ys,rel,o,es,ep,ho,hx,hod,hes,nd⟩:=(show BV X.prog X.w H s.heap p (.dT kvs) from eQ I.hok e);have hl:kvs.length=ys.length:=rel.length;have hn:es.size=ys.length:=by rw[<-z0Y,hes,z07]
 refine z8D (PySem.oY hd hx hod) (I.ok.hd hc) ho (by omega) λ h' tk acc c' kp hnew hi=>?_;have va:Vals ((ys.map (·.2.1)).map V.ref) acc.toList:=by
  have hla:acc.toList.length=ys.length:=by rw[z0Y,hi.1,hn]
  have g:∀ (j:Nat) u,acc.toList[j]?=some u->∃ y,ys[j]?=some y/\u=.ref y.2.1:=λ j u hu=>by
   obtain⟨h1,h2⟩:=hi.2 j u (by simpa using hu);have hj:j<ys.length:=by omega
   refine⟨ys[j],by simp[hj],?_⟩;have e1:es[j]=z48 (z3a (Aq X.prog X.w)) ys[j]:=by
    have:es.toList[j]?=some (z48 (z3a (Aq X.prog X.w)) ys[j]):=by rw[hes];simp[hj]
    have h3:es.toList[j]?=some es[j]:=by simp[h1]
    rw[h3] at this;exact z0w this
   rw[h2,e1];rfl
  have build:∀ {ys:List (List Key×Addr×z00)}{us:List z00},us.length=ys.length->(∀ (j:Nat) u,us[j]?=some u->∃ y,ys[j]?=some y/\u=.ref y.2.1)->Vals ((ys.map (·.2.1)).map V.ref) us:=by
   intro ys
   induction ys with
   | nil=>intro us h1 _;rw[z4w h1];exact .nil
   | cons y r ih=>
    intro us h1 h2;cases us with
    | nil=>simp at h1
    | cons u us=>
     obtain⟨y',a1,a2⟩:=h2 0 u rfl;simp at a1;subst a1;exact .cons a2 (ih (by simpa using h1) λ j v hv=>by simpa using h2 (j+1) v (by simpa using hv))
  exact build hla g
 refine⟨.ref s.heap.objs.size,_,I.laid (t':=tk) kp (z06 _) (show BV X.prog X.w _ h' _ (.lst ((ys.map (·.2.1)).map V.ref)) from⟨by rw[z07,z07];omega,acc.toList,c',va,by simpa using hnew⟩),rfl,q _ _ (I.hok.fresh (z06 _)) (by rw[z07];exact hl.symm) λ i c qq h1 h2=>?_⟩;rw[z0q] at h1;cases e3:ys[i]? with
 | none=>rw[e3] at h1;cases h1
 | some y=>
  rw[e3] at h1;cases h1;exact (Ly rel h2 e3).2.1
def K1:D->Option D
 | .dt kds=>some (.lst (kds.map λ p=>.tup (p.1.map kDt)))
 | d=>listE d
theorem Wf {H:Hp}:∀ (k:List Key),RepL G H (k.map kV) (k.map kDt)
 | []=>.nil
 | k::r=>.cons (Q5 k) (Wf r)
theorem RepT.dt {A:List Addr}{H:Hp}{v:V}{kds:List (List Key×D)}(r:RepT G A H v (.dt kds)):∃ a kvs,v=.ref a/\Rd H a (.dT kvs)/\kvs.map (·.1)=kds.map (·.1)/\RepL G (hid A H) (kvs.map (·.2)) (kds.map (·.2)):=by
 rcases r with r | ⟨a,e,kvs,h,k,r⟩
 ·cases r with
  | dt h k r=>
   refine⟨_,_,rfl,.inr ⟨_,Ar _ _ h⟩,k,?_,r⟩;have:=congrArg z0P k;rw[z07,z07] at this ⊢;exact this
 ·exact⟨a,kvs,e,.of h,k,r⟩
theorem Lz:SndC G (λ xs H Q=>((∃ p ys,xs=[.ref p]/\(SqL G.K H p ys∨SqT G.K H p ys)/\∀ l,H l=none->Q (.ref l) (upd H l (.lst ys)))∨∃ p kvs,xs=[.ref p]/\Rd H p (.dK kvs)/\∀ l,H l=none->Q (.ref l) (upd H l (.lst (kvs.map λ q=>kV q.1)))) ∨
  ∃ p kvs,xs=[.ref p]/\Rd H p (.dT kvs)/\∀ l (cs:List Addr),H l=none->cs.length=kvs.length->(∀ (i:Nat) (c:Addr) (q:List Key×V),cs[i]?=some c->kvs[i]?=some q->H c=some (.tup (q.1.map kV)))->Q (.ref l) (upd H l (.lst (cs.map V.ref)))) K1:=by
 intro A H x dx d Q lv rx h k;unfold K1 at h;split at h
 ·rename_i kds;cases h;obtain⟨p,kvs,rfl,h1,h2,r⟩:=rx.dt;have hl:kvs.length=kds.length:=by have:=congrArg z0P h2;rwa [z07,z07] at this
  refine .inr ⟨p,kvs,rfl,h1,λ l cs hfree hcs hc=>k _ _ (Al hfree _) (De lv hfree ⟨by rw[z07,z07];omega,λ i v dd e1 e2=>?_⟩)⟩;rw[z0q] at e1 e2;cases g1:cs[i]? with
  | none=>rw[g1] at e1;cases e1
  | some c=>
   cases g2:kds[i]? with
   | none=>rw[g2] at e2;cases e2
   | some qd=>
    rw[g1] at e1;rw[g2] at e2;cases e1;cases e2;have hi:i<kvs.length:=by rw[hl];exact (z1r.mp g2).1
    have g3:kvs[i]?=some kvs[i]:=by simp[hi]
    have ek:(kvs[i]).1=qd.1:=by
     have a1:(kvs.map (·.1))[i]?=some (kvs[i]).1:=by rw[z0q,g3];rfl
     rw[h2,z0q,g2] at a1;exact (z0w a1).symm
    have ht:=hc i c _ g1 g3;rw[ek] at ht;have nA:c∉A:=λ z=>(lv c z).tup _ ht;have kr:=Wf (G:=G) (H:=hid A H) qd.1;exact .tup (.of (by rw[CP nA];exact ht)) kr.1 kr.2
 ·exact .inl (cC A H x dx d Q lv rx h k)
end
end PV
namespace PV
open PySem L2
theorem gQ {α:Type}(l:List α) (k:Nat):cutD l none (some (k:Int))=l.take k:=by
 unfold cutD HT.sIx;simp;rw[if_neg (by omega)]
 first | omega | (rw[List.take_eq_take_iff];omega)
theorem gR {α:Type}(l:List α) (k:Nat):cutD l (some (k:Int)) none=l.drop k:=by
 unfold cutD HT.sIx;simp;rw[if_neg (by omega)]
 by_cases h:k<=l.length
 ·rw[z8K h,z6K (by simp)]
 ·rw[z8L (by omega),z8M (by omega),z8M (by omega)];simp
theorem vL {α:Type}{xs:List α}{i:Int}(h0:0<=i) (h1:i<xs.length):atI xs i=xs[i.toNat]?:=by
 unfold atI ixN;rw[if_pos h0,if_pos h1];rfl
theorem F_ (i j:Int) (h:0<j):modD (.int i) (.int j)=some (.int (i%j)):=by
 show (if 0<j then some (D.int (i%j)) else none)=_;rw[if_pos h]
theorem Em (i j:Int) (h:0<j) (h2:j<1073741824):JD (.int i) (.int j)=some (.int (i/j)):=by
 show (if CDiv i j then some (D.int (i/j)) else none)=_;rw[if_pos ⟨h,h2⟩]
theorem oZ (i j:Int) (h : -(2^64)<j/\j<2^64):mulD (.int i) (.int j)=some (.int (i*j)):=by
 show (if Mi i j then some (D.int (i*j)) else none)=_;rw[if_pos (.inl (.inr h))]
theorem U6 (i j:Int) (h : -(2^64)<i/\i<2^64):mulD (.int i) (.int j)=some (.int (i*j)):=by
 show (if Mi i j then some (D.int (i*j)) else none)=_;rw[if_pos (.inl (.inl h))]
theorem K3 (i j:Int):addD (.int i) (.int j)=some (.int (i+j)):=zE_ _
theorem Pu (i j:Int):subD (.int i) (.int j)=some (.int (i-j)):=zE_ _
theorem T7 (i j:Int):ltD (.int i) (.int j)=some (.bl (decide (i<j))):=zE_ _
theorem ZW (i j:Int):gtD (.int i) (.int j)=some (.bl (decide (j<i))):=zE_ _
theorem ZX (i j:Int):leD (.int i) (.int j)=some (.bl (decide (i<=j))):=zE_ _
theorem ZZ (i j:Int):geD (.int i) (.int j)=some (.bl (decide (j<=i))):=zE_ _
theorem Qf (i j:Int):eqD false (.int i) (.int j)=some (.bl (decide (i=j))):=zE_ _
theorem Za (i j:Int):eqD true (.int i) (.int j)=some (.bl (!decide (i=j))):=zE_ _
theorem N5 (h:n<=10000000):n<=sizeLine:=z0A h (by decide)
theorem U7 {i j:List D}(h:i.length+j.length<=10000000):addD (.lst i) (.lst j)=some (.lst (i++j)):=by
 show (if _ then _ else _)=_;rw[if_pos (N5 h)]
theorem N6 {b:D->FS}{P:Nat->Rho->Prop}:∀ {ds:List D}{ρ:Rho}(k:Nat),P k ρ->(∀ (i:Nat) d ρ,ds[i]?=some d->P (k+i) ρ->∃ ρ',b d ρ=some (.nx ρ')/\P (k+i+1) ρ')->∃ ρ',forF b ds ρ=some (.nx ρ')/\P (k+ds.length) ρ'
 | [],ρ,k,h0,_=>⟨ρ,rfl,by simpa using h0⟩
 | d::r,ρ,k,h0,hs=>by
  obtain⟨ρ1,e1,p1⟩:=hs 0 d ρ rfl (by simpa using h0);obtain⟨ρ2,e2,p2⟩:=N6 (ds:=r) (ρ:=ρ1) (k+1) (by simpa using p1) λ i d' ρ' hd hp=>by
   have:=hs (i+1) d' ρ' (by simpa using hd) (by rw[show k+(i+1)=k+1+i by omega];exact hp);rw[show k+(i+1)+1=k+1+i+1 by omega] at this;exact this
  refine⟨ρ2,?_,by rw[z0u,show k+(r.length+1)=k+1+r.length by omega];exact p2⟩;unfold forF;rw[e1];exact e2
theorem Q7 {src:FI}{ga:FT}{fe:FE}{ρ:Rho}{ds out:List D}(h:src ρ=some ds) (hz:ds.length<=10000000) (hc:Jh ρ ga fe ds=some out):Bb src ga fe ρ=some (.lst out):=by
 unfold Bb;rw[h];show (if ds.length<=sizeLine then (Jh ρ ga fe ds).map D.lst else none)=_;rw[if_pos (N5 hz),hc];rfl
def gU (o:Option Out) (gs:FS):Option Out:=match o with | some (.nx ρ')=>gs ρ' | o=>o
theorem E_ (g gs:FS) (ρ:Rho):seqF g gs ρ=gU (g ρ) gs:=zE_ _
theorem e_nx (gs:FS) (ρ:Rho):gU (some (.nx ρ)) gs=gs ρ:=zE_ _
theorem e_rt (gs:FS) (d:D) (ρ:Rho):gU (some (.rt d ρ)) gs=some (.rt d ρ):=zE_ _
theorem rT (ρ:Rho):nxF ρ=some (.nx ρ):=zE_ _
def iteO (o:Option Bool) (g gs:FS) (ρ:Rho):Option Out:=match o with | some true=>g ρ | some false=>gs ρ | none=>none
theorem e_if (t:FT) (g gs:FS) (ρ:Rho):ifS t g gs ρ=iteO (t ρ) g gs ρ:=zE_ _
theorem rW (g gs:FS) (ρ:Rho):iteO (some true) g gs ρ=g ρ:=zE_ _
theorem rY (g gs:FS) (ρ:Rho):iteO (some false) g gs ρ=gs ρ:=zE_ _
def setO (i:Nat) (ρ:Rho) (o:Option D):Option Out:=o.map λ d=>.nx (ρ.set i (.fz d))
theorem Zb (i:Nat) (f:FE) (ρ:Rho):setF i f ρ=setO i ρ (f ρ):=zE_ _
theorem U8 (i:Nat) (ρ:Rho) (d:D):setO i ρ (some d)=some (.nx (ρ.set i (.fz d))):=zE_ _
def retO (ρ:Rho) (o:Option D):Option Out:=o.map λ d=>.rt d ρ
theorem rZ (f:FE) (ρ:Rho):retF f ρ=retO ρ (f ρ):=zE_ _
theorem gW (d:D) (ρ:Rho):retO ρ (some d)=some (.rt d ρ):=zE_ _
def sE (ρ:Rho) (o:Option D):Option Out:=o.map λ _=>.nx ρ
theorem gY (f:FE) (ρ:Rho):Fw f ρ=sE ρ (f ρ):=zE_ _
theorem Zc (ρ:Rho) (d:D):sE ρ (some d)=some (.nx ρ):=zE_ _
def b2 (g:D->D->Option D) (x y:Option D):Option D:=x.bind λ x=>y.bind λ y=>g x y
theorem e_b (g:D->D->Option D) (fa fb:FE) (ρ:Rho):bF g fa fb ρ=b2 g (fa ρ) (fb ρ):=zE_ _
theorem e_bs (g:D->D->Option D) (x y:D):b2 g (some x) (some y)=g x y:=zE_ _
def b1 (g:D->Option D) (x:Option D):Option D:=x.bind g
theorem e_u (g:D->Option D) (fa:FE) (ρ:Rho):uF g fa ρ=b1 g (fa ρ):=zE_ _
theorem e_us (g:D->Option D) (x:D):b1 g (some x)=g x:=zE_ _
def cl1 (g:List D->Option D) (x:Option (List D)):Option D:=x.bind g
theorem gZ (g:List D->Option D) (fs:FA) (ρ:Rho):Am g fs ρ=cl1 g (fs ρ):=zE_ _
theorem Zd (g:List D->Option D) (ds:List D):cl1 g (some ds)=g ds:=zE_ _
def sG (x:Option D) (y:Option (List D)):Option (List D):=x.bind λ d=>y.map (d::·)
theorem gf (fa:FE) (fs:FA) (ρ:Rho):Aa fa fs ρ=sG (fa ρ) (fs ρ):=zE_ _
theorem Ze (d:D) (ds:List D):sG (some d) (some ds)=some (d::ds):=zE_ _
theorem gj (ρ:Rho):nilA ρ=some []:=zE_ _
def tupO (o:Option (List D)):Option D:=o.bind λ ds=>if ds.length<=sizeLine then some (.tup ds) else none
def lstO (o:Option (List D)):Option D:=o.bind λ ds=>if ds.length<=sizeLine then some (.lst ds) else none
theorem sH (fs:FA) (ρ:Rho):tupF fs ρ=tupO (fs ρ):=zE_ _
theorem gk (fs:FA) (ρ:Rho):lstF fs ρ=lstO (fs ρ):=zE_ _
theorem gr (a:D):tupO (some [a])=some (.tup [a]):=zE_ _
theorem gw (a b:D):tupO (some [a,b])=some (.tup [a,b]):=zE_ _
theorem YG:lstO (some [])=some (.lst []):=zE_ _
theorem g8 (a:D):lstO (some [a])=some (.lst [a]):=zE_ _
theorem g_ (a b:D):lstO (some [a,b])=some (.lst [a,b]):=zE_ _
theorem h_ (a b c:D):lstO (some [a,b,c])=some (.lst [a,b,c]):=zE_ _
def blO (o:Option D):Option Bool:=match o with | some (.bl b)=>some b | _=>none
theorem e_bl (f:FE) (ρ:Rho):blF f ρ=blO (f ρ):=zE_ _
theorem sI (b:Bool):blO (some (.bl b))=some b:=zE_ _
def andO (o:Option Bool) (fb:FT) (ρ:Rho):Option Bool:=match o with | some true=>fb ρ | some false=>some false | none=>none
def orO (o:Option Bool) (fb:FT) (ρ:Rho):Option Bool:=match o with | some true=>some true | some false=>fb ρ | none=>none
theorem iB (a b:FT) (ρ:Rho):andT a b ρ=andO (a ρ) b ρ:=zE_ _
theorem Zf (b:FT) (ρ:Rho):andO (some true) b ρ=b ρ:=zE_ _
theorem Zg (b:FT) (ρ:Rho):andO (some false) b ρ=some false:=zE_ _
theorem sJ (a b:FT) (ρ:Rho):orT a b ρ=orO (a ρ) b ρ:=zE_ _
theorem iC (b:FT) (ρ:Rho):orO (some true) b ρ=some true:=zE_ _
theorem iG (b:FT) (ρ:Rho):orO (some false) b ρ=b ρ:=zE_ _
theorem iH (a:FT) (ρ:Rho):notT a ρ=(a ρ).map (!·):=zE_ _
def andP (o:Option D) (fb:FE) (ρ:Rho):Option D:=match o with | some (.bl true)=>fb ρ | some (.bl false)=>some (.bl false) | _=>none
def notP (o:Option D):Option D:=match o with | some (.bl b)=>some (.bl (!b)) | _=>none
theorem iJ (a b:FE) (ρ:Rho):andF a b ρ=andP (a ρ) b ρ:=zE_ _
theorem Zh (b:FE) (ρ:Rho):andP (some (.bl true)) b ρ=b ρ:=zE_ _
theorem iK (a:FE) (ρ:Rho):notF a ρ=notP (a ρ):=zE_ _
theorem Zi (b:Bool):notP (some (.bl b))=some (.bl (!b)):=zE_ _
def ifP (o:Option Bool) (fa fb:FE) (ρ:Rho):Option D:=match o with | some true=>fa ρ | some false=>fb ρ | none=>none
theorem sO (t:FT) (a b:FE) (ρ:Rho):ifF t a b ρ=ifP (t ρ) a b ρ:=zE_ _
theorem iM (a b:FE) (ρ:Rho):ifP (some true) a b ρ=a ρ:=zE_ _
theorem iQ (a b:FE) (ρ:Rho):ifP (some false) a b ρ=b ρ:=zE_ _
def sl3 (f:Option D) (l h:Option (Option Int)):Option D:=f.bind λ x=>l.bind λ lo=>h.bind λ hi=>slD x lo hi
theorem e_sl (f:FE) (l h:FO) (ρ:Rho):slF f l h ρ=sl3 (f ρ) (l ρ) (h ρ):=zE_ _
theorem sS (x:D) (l h:Option Int):sl3 (some x) (some l) (some h)=slD x l h:=zE_ _
theorem sU (ρ:Rho):noO ρ=some none:=zE_ _
def somO (o:Option D):Option (Option Int):=match o with | some (.int i)=>some (some i) | _=>none
theorem Zj (f:FE) (ρ:Rho):someO f ρ=somO (f ρ):=zE_ _
theorem Wg (i:Int):somO (some (.int i))=some (some i):=zE_ _
def getO (o:Option Slot):Option D:=match o with | some (.fz d)=>some d | _=>none
def getU (o:Option Slot):Option D:=match o with | some (.fz d)=>some d | some (.ow d)=>some d | _=>none
theorem e_v (i:Nat) (ρ:Rho):vF i ρ=getO (ρ[i]?):=zE_ _
theorem e_vs (d:D):getO (some (.fz d))=some d:=zE_ _
theorem e_vU (i:Nat) (ρ:Rho):vU i ρ=getU (ρ[i]?):=zE_ _
theorem sV (d:D):getU (some (.ow d))=some d:=zE_ _
theorem e_k (d:D) (ρ:Rho):kF d ρ=some d:=zE_ _
def rngO (o:Option D):Option (List D):=match o with | some (.int j)=>if -(2^62)<=j/\j<2^62 then some (rngD j.toNat) else none | _=>none
theorem Rp (f:FE) (ρ:Rho):rngI f ρ=rngO (f ρ):=zE_ _
theorem U9 (j:Int) (h : -(2^62)<=j/\j<2^62):rngO (some (.int j))=some (rngD j.toNat):=by
 show (if _ then _ else _)=_;rw[if_pos h]
def forO (o:Option (List D)) (tg:FG) (b:FS) (ρ:Rho):Option Out:=o.bind λ ds=>forF (tgB tg b) ds ρ
theorem Rq (src:FI) (tg:FG) (b:FS) (ρ:Rho):forS src tg b ρ=forO (src ρ) tg b ρ:=zE_ _
theorem M3 (ds:List D) (tg:FG) (b:FS) (ρ:Rho):forO (some ds) tg b ρ=forF (tgB tg b) ds ρ:=zE_ _
def ccO (o:Option Bool) (e:Option D) (r:Option (List D)):Option (List D):=match o with | some true=>e.bind λ y=>r.map (y::·) | some false=>r | none=>none
theorem J2 (ρ:Rho) (ga:FT) (fe:FE) (d:D) (r:List D):Jh ρ ga fe (d::r)=ccO (ga (ρ++[.fz d])) (fe (ρ++[.fz d])) (Jh ρ ga fe r):=zE_ _
theorem iR (ρ:Rho):allT ρ=some true:=zE_ _
def runO (o:Option Out):Option D:=match o with | some (.rt d _)=>some d | some (.nx _)=>some .non | _=>none
theorem Jm {np:Nat}{b:FS}{ds:List D}(h:ds.length=np):runF n np b ds=runO (b (Ew n ds)):=by
 unfold runF;rw[if_pos h];rfl
theorem iT (d:D) (ρ:Rho):runO (some (.rt d ρ))=some d:=zE_ _
theorem iU (ρ:Rho):runO (some (.nx ρ))=some .non:=zE_ _
theorem K4 {α β:Type}(f:α->β) (x:α):Option.map f (some x)=some (f x):=zE_ _
theorem iV {α β:Type}(f:α->Option β) (x:α):Option.bind (some x) f=f x:=zE_ _
theorem DP (n:Nat) (ds:List D):Ew n ds=ds.map .fz++z4i (n-ds.length) .un:=zE_ _
theorem truB (b:Bool):truD (.bl b)=some b:=zE_ _
theorem YH {α:Type}(l:List α) (k:Nat):atI l (k:Int)=l[k]?:=by
 unfold atI ixN;rw[if_pos (by omega)]
 by_cases h:k<l.length
 ·rw[if_pos (by omega)];simp
 ·rw[if_neg (by omega),z2R (by omega)];rfl
theorem e_tr (f:FE) (ρ:Rho):trF f ρ=(f ρ).bind truD:=zE_ _
theorem xf (z:Str) (h:z.length<=10000000):lenD (.str z)=some (.int z.length):=by
 show (if z.length<=sizeLine then some (D.int z.length) else none)=_;rw[if_pos (N5 h)]
theorem sX (l:List D):lenD (.lst l)=some (.int l.length):=zE_ _
theorem oh (x:Str) (ys:List Str):inD false (.str x) (.lst (ys.map .str))=some (.bl (ys.any (λ y=>y==x))):=by
 have h:∀ ys:List Str,flVs (ys.map .str)=some (ys.map V.str):=λ ys=>by
  induction ys with
  | nil=>rfl
  | cons y r ih=>simp[flVs,flV,ih]
 show ((flV (.str x)).bind λ v=>(flVs (ys.map .str)).map λ vs=>D.bl (inV v vs))=_;rw[h];show some (D.bl (inV (.str x) (ys.map V.str)))=_;simp[inV,z75,z0V,eqV]
theorem K5 (n:Nat):(rngD n).length=n:=by simp[rngD]
theorem cF (ys:List Str):Mj (ys.map .str)=some ys:=by
 induction ys with
 | nil=>rfl
 | cons y r ih=>simp[Mj,ih]
def sY (i:Nat) (ρ:Rho) (o:Option D):Option Out:=o.map λ d=>.nx (ρ.set i (.ow d))
theorem iW (i:Nat) (f:FE) (ρ:Rho):setW i f ρ=sY i ρ (f ρ):=zE_ _
theorem Zk (i:Nat) (ρ:Rho) (d:D):sY i ρ (some d)=some (.nx (ρ.set i (.ow d))):=zE_ _
def mutO (g:D->D->Option D) (i:Nat) (ρ:Rho) (x v:Option D):Option Out:=v.bind λ v=>x.bind λ x=>(g x v).map λ y=>.nx (ρ.set i (.ow y))
def getW (o:Option Slot):Option D:=match o with | some (.ow d)=>some d | _=>none
theorem sZ (g:D->D->Option D) (i:Nat) (f:FE) (ρ:Rho):mutF g i f ρ=mutO g i ρ (getW ρ[i]?) (f ρ):=zE_ _
theorem iY (g:D->D->Option D) (i:Nat) (ρ:Rho) (x v:D):mutO g i ρ (some x) (some v)=(g x v).map λ y=>.nx (ρ.set i (.ow y)):=zE_ _
theorem Px (d:D):getW (some (.ow d))=some d:=zE_ _
def forB (o:Option Out) (b:D->FS) (r:List D):Option Out:=match o with
  | some (.nx ρ')=>forF b r ρ'
  | some (.ct ρ')=>forF b r ρ'
  | some (.bk ρ')=>some (.nx ρ')
  | some (.rt e ρ')=>some (.rt e ρ')
  | none=>none
theorem En (b:D->FS) (d:D) (r:List D) (ρ:Rho):forF b (d::r) ρ=forB (b d ρ) b r:=zE_ _
theorem Dv (b:D->FS) (r:List D) (ρ:Rho):forB (some (.nx ρ)) b r=forF b r ρ:=zE_ _
theorem N7 (b:D->FS) (r:List D) (d:D) (ρ:Rho):forB (some (.rt d ρ)) b r=some (.rt d ρ):=zE_ _
def bndO (o:Option Rho) (b:FS):Option Out:=o.bind b
theorem e_tg (tg:FG) (b:FS) (d:D) (ρ:Rho):tgB tg b d ρ=bndO (tg d ρ) b:=zE_ _
theorem KR (ρ:Rho) (b:FS):bndO (some ρ) b=b ρ:=zE_ _
theorem J3 (i:Nat) (d:D) (ρ:Rho):Bv i d ρ=some (ρ.set i (.fz d)):=zE_ _
abbrev FZ:=Rho->Option (D×Rho)
abbrev FZA:=Rho->Option (List D×Rho)
abbrev Ef:=List (Str×Bool×D)
abbrev FEs:=Rho->Ef->Option (Rho×Ef)
abbrev FTE:=Rho->Ef->Option Bool
def noOw (ρ:Rho):Bool:=ρ.all λ z=>match z with | .ow _=>false | _=>true
def pureE (g:FS):FEs:=λ ρ ε=>match g ρ with | some (.nx ρ')=>if noOw ρ'=true then some (ρ',ε) else none | _=>none
def IW (f:Str) (fe:FE):FEs:=λ ρ ε=>(fe ρ).bind λ d=>if (ε.lookup f).isNone=true/\ε.length<1000 then some (ρ,ε++[(f,false,d)]) else none
def Qg (f:Str) (fe:FE):FEs:=λ ρ ε=>(fe ρ).bind λ d=>if (ε.lookup f).isNone=true/\ε.length<1000 then some (ρ,ε++[(f,true,d)]) else none
def repE (f:Str) (d:D):Ef->Ef
 | []=>[]
 | (g,b,x)::r=>if g=f then (g,b,d)::r else (g,b,x)::repE f d r
def Qh (f:Str) (fk fv:FE):FEs:=λ ρ ε=>(fv ρ).bind λ v=>(fk ρ).bind λ k=>match ε.lookup f with | some (true,d)=>(Df d k v).map λ d'=>(ρ,repE f d' ε) | _=>none
def Rr (t:FT):FTE:=λ ρ _=>t ρ
def inTE (f:Str) (fk:FE):FTE:=λ ρ ε=>(fk ρ).bind λ k=>match ε.lookup f with | some (true,.dk kds)=>(keyD k).map λ q=>(getK q kds).isSome | _=>none
def orTE (a b:FTE):FTE:=λ ρ ε=>match a ρ ε with | some true=>some true | some false=>b ρ ε | none=>none
def ifE (t:FTE):FEs:=λ ρ ε=>match t ρ ε with | some false=>some (ρ,ε) | _=>none
def nilE:FEs:=λ ρ ε=>some (ρ,ε)
def GC (g gs:FEs):FEs:=λ ρ ε=>(g ρ ε).bind λ r=>gs r.1 r.2
def JH (tg:FG) (b:FEs):List D->FEs
 | [],ρ,ε=>some (ρ,ε)
 | d::r,ρ,ε=>(tg d ρ).bind λ ρ1=>if noOw ρ1=true then (b ρ1 ε).bind λ q=>JH tg b r q.1 q.2 else none
def forE (src:FI) (tg:FG) (b:FEs):FEs:=λ ρ ε=>(src ρ).bind λ ds=>JH tg b ds ρ ε
def Rt (n:Nat) (x:Addr) (ds:List D):Rho:=Ew n (.adr x::ds)
def runI (n np:Nat) (b:FEs) (x:Addr) (ds:List D):Option Ef:=if ds.length+1=np then (b (Rt n x ds) []).map (·.2) else none
def finE (c:Str) (ε:Ef):D:=.ob c (ε.map λ p=>(p.1,p.2.2))
open Classical in
noncomputable def mkI (c:Str) (g:Addr->List D->Option Ef) (fs:FA):FE:=λ ρ=>(fs ρ).bind λ ds=>(g 0 ds).bind λ ε=>if ∀ x,g x ds=some ε then some (finE c ε) else none
end PV
variable {g:List PV.D->Option PV.D}{d:PV.D}{G:PV.Gx}{ds:List PV.D}{ρ:PV.Rho}{kds:List (L2.Key×PV.D)}{src:PV.FI}{ga ft:PV.FT}{fe fr:PV.FE}{ε:PV.Ef}
namespace PV
open PySem PySem.Spec L2
open PyProof.Rows hiding St
theorem Ru:z0x "tuple"=some (.type "tuple"):=by decide +kernel
section
variable {x:Addr}
def Qi (x:Addr) (H H':Hp):Prop:=∀ b o,b≠x->H b=some o->H' b=some o
theorem Jo (hx:x∈A) (s:Qi x H H'):Same (hid A H) (hid A H'):=λ b o h=>by
 unfold hid at h ⊢;split at h
 ·cases h
 ·rename_i hb;rw[if_neg hb];exact s b o (λ z=>hb (z▸hx)) h
theorem Top.other (t:Top G A H q d) (nq:q≠x) (hx:x∈A) (s:Qi x H H'):Top G A H' q d:=by
 have sm:=Jo hx s;cases d with
 | lst ds=>obtain⟨xs,q1,q2⟩:=t;exact⟨xs,s _ _ nq q1,q2.mono sm⟩
 | dk ds=>obtain⟨xs,q1,q2,q3⟩:=t;exact⟨xs,s _ _ nq q1,q2,q3.mono sm⟩
 | dt ds=>obtain⟨xs,q1,q2,q3⟩:=t;exact⟨xs,s _ _ nq q1,q2,q3.mono sm⟩
 | ob c gs=>obtain⟨C,dx,xs,q1,q2,q3⟩:=t;exact⟨C,dx,xs,s _ _ nq q1,q2,q3.mono sm⟩
 | _=>exact t.elim
end
section
variable {a b c:Expr}{fa fb fc:FE}{px rp p:Pos}{es:List Expr}{fs:FA}{h:FZ}{hs:FZA}
end
theorem Cm (h:noOw ρ=true) (i:Nat) (d:D):ρ[i]?≠some (.ow d):=λ e=>by
 unfold noOw at h;rw[z1c] at h;have:=h _ (z3d e);cases this
inductive FsOk (G:Gx) (A0 A:List Addr) (H:Hp) (x:Addr):List (Str×V)->Ef->List Addr->Prop
 | nil:FsOk G A0 A H x [] [] []
 | pl {f:Str}{v:V}{d:D}{fs:List (Str×V)}{ε:Ef}{as:List Addr}:Rep G (hid A H) v d->FsOk G A0 A H x fs ε as->FsOk G A0 A H x ((f,v)::fs) ((f,false,d)::ε) as
 | ow {f:Str}{a:Addr}{d:D}{fs:List (Str×V)}{ε:Ef}{as:List Addr}:a∈A->a∉A0->a≠x->a∉as->Top G A H a d->FsOk G A0 A H x fs ε as->FsOk G A0 A H x ((f,.ref a)::fs) ((f,true,d)::ε) (a::as)
section
variable {A':List Addr}{x:Addr}{fs:List (Str×V)}{as:List Addr}
theorem FsOk.mp (h:FsOk G A0 A H x fs ε as) (r:∀ v d,Rep G (hid A H) v d->Rep G (hid A' H') v d) (t:∀ a∈as,∀ d,Top G A H a d->Top G A' H' a d) (s:∀ a∈as,a∈A->a∈A'):FsOk G A0 A' H' x fs ε as:=by
 induction h with
 | nil=>exact .nil
 | pl rv _ ih=>exact .pl (r _ _ rv) (ih t s)
 | ow h1 h2 h3 h4 h5 _ ih=>exact .ow (s _ z0O h1) h2 h3 h4 (t _ z0O _ h5) (ih (λ a ha=>t a (z0y _ ha)) (λ a ha=>s a (z0y _ ha)))
theorem FsOk.names (h:FsOk G A0 A H x fs ε as):fs.map (·.1)=ε.map (·.1):=by
 induction h with
 | nil=>rfl
 | pl _ _ ih=>simp[ih]
 | ow _ _ _ _ _ _ ih=>simp[ih]
theorem FsOk.len (h:FsOk G A0 A H x fs ε as):fs.length=ε.length:=by
 have:=congrArg z0P h.names;simpa using this
theorem FsOk.ne (h:FsOk G A0 A H x fs ε as):∀ a∈as,a∈A/\a∉A0/\a≠x:=by
 induction h with
 | nil=>intro a ha;cases ha
 | pl _ _ ih=>exact ih
 | ow h1 h2 h3 _ _ _ ih=>
  intro a ha
  rcases z0i.mp ha with z | z
  ·subst z;exact⟨h1,h2,h3⟩
  ·exact ih a z
theorem Py {f:Str}{v:V}:∀ {fs:List (Str×V)},fs.lookup f=none->L2.putF f v fs=fs++[(f,v)]
 | [],_=>rfl
 | (g,y)::r,h=>by
  by_cases hf:f=g
  ·subst hf;simp[z0r] at h
  ·have hb:(f==g)=false:=beq_eq_false_iff_ne.mpr hf;simp only[z0r,hb] at h;show (if g=f then (g,v)::r else (g,y)::L2.putF f v r)=_;rw[if_neg (λ z=>hf z.symm),Py h];rfl
theorem FsOk.none (h:FsOk G A0 A H x fs ε as) (e:ε.lookup f=none):fs.lookup f=none:=by
 induction h with
 | nil=>rfl
 | @pl g v d fs ε as _ _ ih=>
  by_cases hf:f=g
  ·subst hf;simp[z0r] at e
  ·have hb:(f==g)=false:=beq_eq_false_iff_ne.mpr hf;simp only[z0r,hb] at e ⊢;exact ih e
 | @ow g a d fs ε as _ _ _ _ _ _ ih=>
  by_cases hf:f=g
  ·subst hf;simp[z0r] at e
  ·have hb:(f==g)=false:=beq_eq_false_iff_ne.mpr hf;simp only[z0r,hb] at e ⊢;exact ih e
theorem FsOk.snocP (h:FsOk G A0 A H x fs ε as) (r:Rep G (hid A H) v d):FsOk G A0 A H x (fs++[(f,v)]) (ε++[(f,false,d)]) as:=by
 induction h with
 | nil=>exact .pl r .nil
 | pl rv _ ih=>exact .pl rv ih
 | ow h1 h2 h3 h4 h5 _ ih=>exact .ow h1 h2 h3 h4 h5 ih
theorem FsOk.snocO (h:FsOk G A0 A H x fs ε as) (h1:a∈A) (h2:a∉A0) (h3:a≠x) (h4:a∉as) (t:Top G A H a d):FsOk G A0 A H x (fs++[(f,.ref a)]) (ε++[(f,true,d)]) (as++[a]):=by
 induction h with
 | nil=>exact .ow h1 h2 h3 (λ z=>nomatch z) t .nil
 | pl rv _ ih=>exact .pl rv (ih h4)
 | @ow g b e fs ε as q1 q2 q3 q4 q5 _ ih=>
  have hb:a≠b:=λ z=>h4 (by simp[z]);refine .ow q1 q2 q3 (λ z=>?_) q5 (ih λ z=>h4 (z0y _ z))
  rcases z0U.mp z with z | z
  ·exact q4 z
  ·simp at z;exact hb z.symm
theorem FsOk.get (h:FsOk G A0 A H x fs ε as) (e:ε.lookup f=some (true,d)):∃ a,fs.lookup f=some (.ref a)/\a∈as/\a∈A/\a∉A0/\a≠x/\Top G A H a d:=by
 induction h with
 | nil=>cases e
 | @pl g v d' fs ε as _ _ ih=>
  by_cases hf:f=g
  ·subst hf;simp[z0r] at e
  ·have hb:(f==g)=false:=beq_eq_false_iff_ne.mpr hf;simp only[z0r,hb] at e ⊢;exact ih e
 | @ow g a d' fs ε as h1 h2 h3 _ h5 _ ih=>
  by_cases hf:f=g
  ·subst hf;simp only[z0r,beq_self_eq_true,z6W,z3B,true_and] at e ⊢;subst e;exact⟨a,rfl,z0O,h1,h2,h3,h5⟩
  ·have hb:(f==g)=false:=beq_eq_false_iff_ne.mpr hf;simp only[z0r,hb] at e ⊢;obtain⟨a',q1,q2,q3⟩:=ih e;exact⟨a',q1,z0y _ q2,q3⟩
theorem FsOk.wr {d':D}(h:FsOk G A0 A H x fs ε as) (e:ε.lookup f=some (true,d)) (ea:fs.lookup f=some (.ref a)) (sx:Qi a H H') (hA:a∈A) (t:Top G A H' a d'):FsOk G A0 A H' x fs (repE f d' ε) as:=by
 have sm:=Jo hA sx
 induction h with
 | nil=>cases e
 | @pl g v d2 fs ε as rv hr ih=>
  by_cases hf:f=g
  ·subst hf;simp[z0r] at e
  ·have hb:(f==g)=false:=beq_eq_false_iff_ne.mpr hf;simp only[z0r,hb] at e ea;unfold repE;rw[if_neg (λ z=>hf z.symm)];exact .pl (rv.mono sm) (ih e ea)
 | @ow g b d2 fs ε as h1 h2 h3 h4 h5 hr ih=>
  by_cases hf:f=g
  ·subst hf;simp only[z0r,beq_self_eq_true,z6W,V.ref.injEq] at ea;subst ea;unfold repE;rw[if_pos rfl];refine .ow h1 h2 h3 h4 t (hr.mp (λ v d r=>r.mono sm) (λ c hc d t'=>t'.other (λ z=>h4 (by rw[<-z];exact hc)) hA sx) λ _ _ z=>z)
  ·have hb:(f==g)=false:=beq_eq_false_iff_ne.mpr hf;simp only[z0r,hb] at e ea;obtain⟨a',q1,q2,_⟩:=hr.get e;rw[ea] at q1;cases q1;unfold repE;rw[if_neg (λ z=>hf z.symm)];exact .ow h1 h2 h3 h4 (h5.other (λ z=>h4 (z▸q2)) hA sx) (ih e ea)
end
structure EOk (G:Gx) (c:Str) (A0:List Addr) (He:Hp) (x:Addr) (A:List Addr) (σ:St) (H:Hp) (ρ:Rho) (ε:Ef):Prop where
 w:OkW G A0 He A σ H ρ
 no:noOw ρ=true
 xA:x∈A
 x0:x∉A0
 s0:ρ[0]?=some (.fz (.adr x))
 ob:∃ C dx fs as,H x=some (.ins C dx fs)/\G.cl c=some C/\FsOk G A0 A H x fs ε as
def EOkS (G:Gx) (c:Str) (A0:List Addr) (He:Hp) (x:Addr) (σ:St) (H:Hp) (ρ:Rho) (ε:Ef):Prop:=∃ A,EOk G c A0 He x A σ H ρ ε
section
variable {x:Addr}
theorem EOk.at0 (o:EOk G c A0 He x A σ H ρ ε):σ[0]?=some (some (.ref x)):=by
 obtain⟨v,h1,h2⟩:=o.w.ok.fz 0 _ o.s0;cases h2;exact h1
theorem EOk.mono (o:EOk G c A0 He x A σ H ρ ε) (s:Same H H'):EOk G c A0 He x A σ H' ρ ε:=by
 obtain⟨C,dx,fs,as,h1,h2,h3⟩:=o.ob;exact⟨o.w.mono s,o.no,o.xA,o.x0,o.s0,C,dx,fs,as,s _ _ h1,h2,h3.mp (λ v d r=>r.mono (A_ s)) (λ a ha d t=>t.mono s) λ _ _ z=>z⟩
theorem iZ (s:Same H H') (fr:∀ a∈B,a∈A∨H a=none):Same (hid A H) (hid B H'):=λ b u h=>by
 unfold hid at h;split at h
 ·cases h
 ·rename_i hb;rw[CP]
  ·exact s b u h
  ·intro z
   rcases fr b z with q | q
   ·exact hb q
   ·rw[q] at h;cases h
theorem Top.plain (t:Top G A H a d) (s:Same H H') (p:Same (hid A H) (hid B H')):Top G B H' a d:=by
 cases d with
 | lst ds=>obtain⟨xs,q1,q2⟩:=t;exact⟨xs,s _ _ q1,q2.mono p⟩
 | dk ds=>obtain⟨xs,q1,q2,q3⟩:=t;exact⟨xs,s _ _ q1,q2,q3.mono p⟩
 | dt ds=>obtain⟨xs,q1,q2,q3⟩:=t;exact⟨xs,s _ _ q1,q2,q3.mono p⟩
 | ob c gs=>obtain⟨C,dx,xs,q1,q2,q3⟩:=t;exact⟨C,dx,xs,s _ _ q1,q2,q3.mono p⟩
 | _=>exact t.elim
theorem EOk.frame (o:EOk G c A0 He x A σ H ρ ε):OkS G A H σ H ρ:=⟨A,Same.refl H,λ _ h=>h,λ a h=>.inl h,λ a ha=>(o.w.ok.live a ha).ne,o.w.ok,λ i d a h _=>absurd h (Cm o.no i d),λ y d _ h=>absurd h (Cm o.no 0 d)⟩
theorem EOk.unframe {σ':St}{ρ':Rho}(o:EOk G c A0 He x A σ H ρ ε) (w:OkS G A H σ' H' ρ') (no:noOw ρ'=true) (s0:ρ'[0]?=some (.fz (.adr x))):EOkS G c A0 He x σ' H' ρ' ε:=by
 obtain⟨B,w⟩:=w;have pl:Same (hid A H) (hid B H'):=iZ w.same w.fr;obtain⟨C,dx,fs,as,h1,h2,h3⟩:=o.ob;refine⟨B,⟨o.w.same.trans w.same,λ a ha=>w.sub a (o.w.sub a ha),λ a ha=>?_,o.w.l0,w.ok,λ i d a h _=>absurd h (Cm no i d),λ y d _ h=>absurd h (Cm no 0 d)⟩,no,w.sub x o.xA,o.x0,s0,C,dx,fs,as,w.same _ _ h1,h2,h3.mp (λ v d r=>r.mono pl) (λ a ha d t=>t.plain w.same pl) λ a _ ha=>w.sub a ha⟩
 rcases w.fr a ha with q | q
 ·exact o.w.fr a q
 ·exact .inr (o.w.same.free q)
theorem EOk.wr {ε':Ef}(o:EOk G c A0 He x A σ H ρ ε) (hp:p∈A) (h0:p∉A0) (sx:Qi p H H') (lv:Nt (H' p)) (ob:∃ C dx fs as,H' x=some (.ins C dx fs)/\G.cl c=some C/\FsOk G A0 A H' x fs ε' as):EOk G c A0 He x A σ H' ρ ε':=by
 have hep:He p=none:=(o.w.fr p hp).resolve_left h0;have sm:=Jo hp sx;refine⟨⟨λ b u h=>sx b u (Dh h hep) (o.w.same b u h),o.w.sub,o.w.fr,o.w.l0,⟨o.w.ok.len,λ b hb=>?_,λ j e h=>?_,λ j e h=>absurd h (Cm o.no j e),λ i j d e a h _ _ _=>absurd h (Cm o.no i d)⟩,λ i d a h _=>absurd h (Cm o.no i d),λ y d _ h=>absurd h (Cm o.no 0 d)⟩,o.no,o.xA,o.x0,o.s0,ob⟩
 ·by_cases z:b=p
  ·rw[z];exact lv
  ·exact (o.w.ok.live b hb).mono λ u e=>sx b u z e
 ·obtain⟨v,q1,q2⟩:=o.w.ok.fz j e h;exact⟨v,q1,q2.mono sm⟩
end
def tE (G:Gx) (c:Str) (A0:List Addr) (He:Hp) (x:Addr) (g:FEs):TS:=λ D σ H=>∃ ρ ε r,EOkS G c A0 He x σ H ρ ε/\g ρ ε=some r/\∀ σ' H',EOkS G c A0 He x σ' H' r.1 r.2->D.nx σ' H'
def PSE (X:Cx) (G:Gx) (c:Str) (st:Stmt) (g:FEs):Prop:=∀ ⦃A0⦄ He x,PS X st (tE G c A0 He x g)
def PSEs (X:Cx) (G:Gx) (c:Str) (st:List Stmt) (g:FEs):Prop:=∀ ⦃A0⦄ He x,PSs X st (tE G c A0 He x g)
def tTE (G:Gx) (c:Str) (A0:List Addr) (He:Hp) (x:Addr) (t:FTE):TT:=λ σ H Q=>∃ A ρ ε b,EOk G c A0 He x A σ H ρ ε/\t ρ ε=some b/\∀ H',Same H H'->Q b H'
def PTE (X:Cx) (G:Gx) (c:Str) (e:Expr) (t:FTE):Prop:=∀ ⦃A0⦄ He x,PT X e (tTE G c A0 He x t)
def PWE (X:Cx) (G:Gx) (c:Str) (e:Expr) (t:FTE):Prop:=∀ ⦃A0⦄ He x,PW X e (tTE G c A0 He x t)
section
variable {a b k it:Expr}{fa fb fk:FE}{p px:Pos}{rest:List Stmt}{g gs:FEs}{gp:FS}{ta tb:FTE}{tp:FT}
theorem Wh (h1:PSE X G c st g) (h2:PSEs X G c rest gs):PSEs X G c (st::rest) (GC g gs):=λ A0 He x π s σ H D I ⟨ρ,ε,r,o,e,k⟩=>by
 refine RM (@h1 A0 He x) (@h2 A0 He x) π s σ H D I ?_;unfold GC at e;cases e1:g ρ ε with
 | none=>simp[e1] at e
 | some q=>
  simp only[e1,z0M] at e;exact⟨ρ,ε,q,o,e1,λ σ' H' o'=>⟨q.1,q.2,r,o',e,k⟩⟩
theorem Zm (h1:PSE X G c st g):PSEs X G c [st] g:=λ A0 He x=>Yu (@h1 A0 He x)
theorem Rv (h:PSD X G st gp) (hk:∀ ρ ρ',gp ρ=some (.nx ρ')->ρ'[0]?=ρ[0]?):PSE X G c st (pureE gp):=λ A0 He x π s σ H D I ⟨ρ,ε,r,⟨A,o⟩,e,k⟩=>by
 unfold pureE at e;split at e
 ·rename_i ρ' e1;split at e
  ·rename_i no;cases e;refine @h A H π s σ H D I ⟨ρ,_,o.frame,e1,λ σ' H' w=>k σ' H' (o.unframe w no (by rw[hk ρ ρ' e1];exact o.s0))⟩
  ·cases e
 ·cases e
theorem Wi (h:PFT X G e tp):PTE X G c e (Rr tp):=λ A0 He x=>λ π s σ H Q I ⟨A,ρ,ε,b,o,e,k⟩=>@h A π s σ H Q I ⟨ρ,b,o.w.ok,e,k⟩
theorem ou (h:PTE X G c a ta):PWE X G c (.BoolOp .Or [a] pos) ta:=λ A0 He x=>dJ (@h A0 He x)
theorem vM {rest:List Expr}(ha:PTE X G c a ta) (hb:PWE X G c (.BoolOp .Or (b::rest) pos) tb):PWE X G c (.BoolOp .Or (a::b::rest) pos) (orTE ta tb):=λ A0 He x=>fH (rA (@ha A0 He x) (@hb A0 He x)) λ σ H Q ⟨A,ρ,ε,d,o,e,k⟩=>by
 unfold orTE at e;split at e
 ·rename_i e1;cases e;exact⟨A,ρ,ε,_,o,e1,λ H1 s1=>iteT (k H1 s1)⟩
 ·rename_i e1;exact⟨A,ρ,ε,_,o,e1,λ H1 s1=>iteF ⟨A,ρ,ε,d,o.mono s1,e,λ H2 s2=>k H2 (s1.trans s2)⟩⟩
 ·cases e
theorem PWE.pt (h:PWE X G c a ta):PTE X G c a ta:=λ A0 He x=>(@h A0 He x).pt
theorem vN {ap:Pos}(hu:X.A.units+1<z0h) (hcl:∀ c C,G.cl c=some C->Cls X.K C/\Bf X.K C f) (hv:PE X (.Name x px) (tVar 0)) (ha:PF X G a fa) (hb:z1x (.Name x px) f X.env (eval (.Name x px) X.env)=eval (.Name x px) X.env:=by rfl)
  (hm:z17 .In (.Attribute (.Name x px) f ap)=false:=by rfl):PTE X G c (.Compare a [.In] [.Attribute (.Name x px) f ap] pos) (inTE f fa):=λ A0 He y π s σ H Q I ⟨A,ρ,ε,d,o,e,k⟩=>by
 refine Y4 (X7 hu) (@ha A) (Xl hv hb) hm π s σ H Q I ?_;unfold inTE at e;cases e1:fa ρ with
 | none=>simp[e1] at e
 | some kd=>
  simp only[e1,z0M] at e;split at e
  ·rename_i kds e2;cases e3:keyD kd with
   | none=>simp[e3] at e
   | some q=>
    simp only[e3,z1z] at e;cases e;refine⟨ρ,kd,o.w.ok,e1,λ v H1 s1 r1=>?_⟩;obtain⟨C,dx,fs,as,h1,h2,h3⟩:=(o.mono s1).ob;obtain⟨p,q1,q2,q3,q4,q5,kvs,t1,t2,t3⟩:=h3.get e2;refine⟨_,o.at0,y,C,dx,fs,_,rfl,h1,(hcl _ _ h2).1,(hcl _ _ h2).2,q1,p,kvs,q,rfl,.of t1,Lx r1 e3,?_⟩;rw[(Lw (k:=q) t2 t3).2];exact⟨_,rfl,k H1 s1⟩
  ·cases e
theorem ie {s1:List Stmt}(ht:PTE X G c e ta) (h1:PSDs X G s1 badF):PSE X G c (.If e s1 [] pos) (ifE ta):=λ A0 He x π s σ H D I ⟨ρ,ε,r,⟨A,o⟩,e,k⟩=>by
 refine rB (@ht A0 He x) (@h1 A0 He) Ln π s σ H D I ?_;unfold ifE at e;split at e
 ·rename_i e1;cases e;exact⟨A,ρ,ε,_,o,e1,λ H1 s1=>iteF (k σ H1 ⟨A,o.mono s1⟩)⟩
 ·cases e
theorem K6 (hcl:∀ c C,G.cl c=some C->Cls X.K C/\Bf X.K C f) (hv:PE X (.Name x px) (tVar 0)) (ha:PF X G a fa) (hsw:z1o a (some (.Attribute (.Name x px) f pos')) pos.line X.env=pure false:=by rfl) :
  PSE X G c (.Assign [.Attribute (.Name x px) f pos'] a pos) (IW f fa):=λ A0 He y π s σ H D I ⟨ρ,ε,r,⟨A,o⟩,e,k⟩=>by
 refine du hv (@ha A) hsw π s σ H D I ?_;unfold IW at e;cases e1:fa ρ with
 | none=>simp[e1] at e
 | some d=>
  simp only[e1,z0M] at e;split at e
  ·rename_i hz;cases e;refine⟨ρ,d,o.w.ok,e1,λ u H1 s1 r1=>?_⟩;have o1:=o.mono s1;obtain⟨C,dx,fs,as,h1,h2,h3⟩:=o1.ob;have hn:=h3.none (z3q.mp hz.1);refine⟨_,o.at0,y,C,dx,fs,rfl,h1,(hcl _ _ h2).1,(hcl _ _ h2).2,by rw[h3.len];exact hz.2,?_⟩;rw[Py hn];have sx:Qi y H1 (upd H1 y (.ins C dx (fs++[(f,u)]))):=λ b w hb hw=>by rw[Ak hb];exact hw
   have sm:=Jo o1.xA sx;refine k _ _ ⟨A,o1.wr o1.xA o1.x0 sx (by rw[Aj];exact Nt.ins) ⟨C,dx,_,as,Aj,h2,?_⟩⟩;exact (h3.mp (λ v d r=>r.mono sm) (λ p hp d t=>t.other (h3.ne p hp).2.2 o1.xA sx) λ _ _ z=>z).snocP (r1.mono sm)
  ·cases e
theorem Wj (hcl:∀ c C,G.cl c=some C->Cls X.K C/\Bf X.K C f) (hv:PE X (.Name x px) (tVar 0)) (ha:PN X G a fa) (hsw:z1o a (some (.Attribute (.Name x px) f pos')) pos.line X.env=pure false:=by rfl) :
    PSE X G c (.Assign [.Attribute (.Name x px) f pos'] a pos) (Qg f fa):=λ A0 He y π s σ H D I ⟨ρ,ε,r,⟨A,o⟩,e,k⟩=>by
  refine du hv (@ha A) hsw π s σ H D I ?_;unfold Qg at e;cases e1:fa ρ with
  | none=>simp[e1] at e
  | some d=>
    simp only[e1,z0M] at e;split at e
    · rename_i hz
      cases e;refine⟨ρ,d,o.w.ok,e1,λ q H1 s1 hq t=>?_⟩;obtain⟨C,dx,fs,as,h1,h2,h3⟩:=o.ob;have nqA:q∉A:=λ z=>(o.w.ok.live q z).ne hq;have pl:Same (hid A H) (hid (q::A) H1):=Ls s1 hq;have hn:=h3.none (z3q.mp hz.1);have nq0:q∉A0:=λ z=>nqA (o.w.sub q z);have nqy:q≠y:=λ z=>nqA (z▸o.xA);have nqs:q∉as:=λ z=>nqA (h3.ne q z).1;have o1:EOk G c A0 He y (q::A) σ H1 ρ ε:=⟨⟨o.w.same.trans s1,λ a ha=>z0y _ (o.w.sub a ha),λ a ha=>by
          rcases z0i.mp ha with z | z
          · rw[z];exact .inr (o.w.same.free hq)
          · exact o.w.fr a z,o.w.l0,o.w.ok.fill s1 hq t.live,λ i d a h _=>absurd h (Cm o.no i d),λ y d _ h=>absurd h (Cm o.no 0 d)⟩,o.no,z0y _ o.xA,o.x0,o.s0,C,dx,fs,as,s1 _ _ h1,h2,
          h3.mp (λ v d r=>r.mono pl) (λ p hp d t=>t.plain s1 pl) λ p _ hp=>z0y _ hp⟩
      have g1:=s1 _ _ h1;have g2:=h2;have g3:FsOk G A0 (q::A) H1 y fs ε as:=h3.mp (λ v d r=>r.mono pl) (λ p hp d t=>t.plain s1 pl) λ p _ hp=>z0y _ hp;have hn':=g3.none (z3q.mp hz.1);refine⟨_,o.at0,y,C,dx,fs,rfl,g1,(hcl _ _ g2).1,(hcl _ _ g2).2,by rw[g3.len];exact hz.2,?_⟩;rw[Py hn'];have sx:Qi y H1 (upd H1 y (.ins C dx (fs++[(f,.ref q)]))):=λ b w hb hw=>by rw[Ak hb];exact hw
      have sm:=Jo o1.xA sx;refine k _ _ ⟨q::A,o1.wr o1.xA o1.x0 sx (by rw[Aj];exact Nt.ins) ⟨C,dx,_,as++[q],Aj,g2,?_⟩⟩;exact (g3.mp (λ v d r=>r.mono sm) (λ p hp d t=>t.other (g3.ne p hp).2.2 o1.xA sx) λ _ _ z=>z).snocO z0O nq0 nqy nqs (t.other nqy o1.xA sx)
    · cases e
theorem Wk {ap:Pos}(hu:X.A.units+1<z0h) (hcl:∀ c C,G.cl c=some C->Cls X.K C/\Bf X.K C f) (hv:PE X (.Name x px) (tVar 0)) (ha:PF X G a fa) (hb:PF X G b fb) (hbase:z1x (.Name x px) f X.env (eval (.Name x px) X.env)=eval (.Name x px) X.env:=by rfl)
  (hs:z1o b (some (.Subscript (.Attribute (.Name x px) f ap) a spos)) pos.line X.env=pure false:=by rfl):PSE X G c (.Assign [.Subscript (.Attribute (.Name x px) f ap) a spos] b pos) (Qh f fa fb):=λ A0 He y π s σ H D I ⟨ρ,ε,r,⟨A,o⟩,e,k⟩=>by
 refine Us hu (Xl hv hbase) (@ha A) (@hb A) hs π s σ H D I ?_;unfold Qh at e;cases e1:fb ρ with
 | none=>simp[e1] at e
 | some v=>
  cases e2:fa ρ with
  | none=>simp[e1,e2] at e
  | some kd=>
   simp only[e1,e2,z0M] at e;split at e
   ·rename_i d e3;cases e4:Df d kd v with
    | none=>simp[e4] at e
    | some d'=>
     simp only[e4,z1z] at e;cases e;unfold Df at e4;split at e4
     ·rename_i kds;cases e5:keyD kd with
      | none=>simp[e5] at e4
      | some q=>
       simp only[e5,z0M] at e4;split at e4
       ·rename_i hz;cases e4;refine⟨ρ,v,o.w.ok,e1,λ u H1 s1 r1=>?_⟩;have o1:=o.mono s1;obtain⟨C,dx,fs,as,h1,h2,h3⟩:=o1.ob;obtain⟨p,q1,q2,q3,q4,q5,kvs,t1,t2,t3⟩:=h3.get e3;refine⟨_,o.at0,y,C,dx,fs,_,rfl,h1,(hcl _ _ h2).1,(hcl _ _ h2).2,q1,ρ,kd,o1.w.ok,e2,λ yv H2 s2 r2=>?_⟩;have ek:=Lx r2 e5;subst ek;have o2:=o1.mono s2;obtain⟨C',dx',fs',as',g1,g2,g3⟩:=o2.ob;rw[s2 _ _ h1] at g1;cases g1;have hl:kvs.length<sizeLine:=by
         have:=congrArg z0P t2;rw[z07,z07] at this;omega
        refine⟨p,_,rfl,DPut.k (s2 _ _ t1) hl,?_⟩;have pk:=U0 (k:=q) (r1.mono (A_ s2)) t2 (t3.mono (A_ s2));have sx:Qi p H2 (upd H2 p (.dK (putK kvs q u))):=λ b w hb hw=>by rw[Ak hb];exact hw
        refine k _ _ ⟨A,o2.wr q3 q4 sx (by rw[Aj];exact Nt.dK) ⟨C,dx,fs,as',by rw[Ak (z0n q5)];exact s2 _ _ h1,g2,?_⟩⟩;refine g3.wr e3 q1 sx q3 ⟨_,Aj,pk.1,?_⟩;rw[Fq q3];exact pk.2
       ·cases e4
     ·cases e4
   ·cases e
theorem EOk.frameW {x:Addr}(o:EOk G c A0 He x A σ H ρ ε):OkW G A H A σ H ρ:=⟨Same.refl H,λ _ h=>h,λ a h=>.inl h,λ a ha=>(o.w.ok.live a ha).ne,o.w.ok,λ i d a h _=>absurd h (Cm o.no i d),λ y d _ h=>absurd h (Cm o.no 0 d)⟩
theorem Zn {fg:FG}{gb:FEs}(hp:z4a .(0) X.A X.env X.xe) (hc:X.calm=true) (hi:PFI X G false tg it src) (hg:PGD X G tg fg) (hk:∀ d ρ ρ',fg d ρ=some ρ'->ρ'[0]?=ρ[0]?) (hb:PSEs X G c body gb)
  (hs:∀ x,z3c it X.env x=pure x:=by intro _;rfl):PSE X G c (.For tg it body [] pos) (forE src fg gb):=λ A0 He x π s σ H D I ⟨ρ,ε,r,⟨A,o⟩,e,k⟩=>by
 cases e1:src ρ with
 | none=>simp[forE,e1] at e
 | some ds=>
  have e':JH fg gb ds ρ ε=some r:=by simpa [forE,e1] using e
  have hb':PSs X body (λ D σ H=>∃ A0 He x,tE G c A0 He x gb D σ H):=λ π s σ H D I ⟨A0,He,x,q⟩=>@hb A0 He x π s σ H D I q;have hg':PG X tg (λ v σ H Q=>∃ A0 He,tGD G A0 He fg v σ H Q):=λ π s σ H v u Q I r ⟨A0,He,q⟩=>@hg A0 He π s σ H v u Q I r q;refine dW hp hc (@hi A) hg' hb' hs π s σ H D I ⟨ρ,ds,o.w.ok,e1,λ J H1 s1 sr=>?_⟩;have o1:=o.mono s1;obtain⟨sHe,w2⟩:=o1.w.here;generalize hHf:hid (A.filter λ a=>decide (a∉A0)) H1=Hf at sHe w2;have k2:∀ σ' H',EOkS G c A0 Hf x σ' H' r.1 r.2->D.nx σ' H':=λ σ' H' ⟨B,q⟩=>k σ' H' ⟨B,q.w.base sHe o.w.l0,q.no,q.xA,q.x0,q.s0,q.ob⟩;refine⟨λ i m σ' H'=>m=ds.length-i/\i<=ds.length/\∃ ρ' ε',EOkS G c A0 Hf x σ' H' ρ' ε'/\JH fg gb (ds.drop i) ρ' ε'=some r,⟨ds.length,by simp,z19 _,ρ,ε,⟨A,w2,o1.no,o1.xA,o1.x0,o1.s0,o1.ob⟩,by simpa using e'⟩,?_⟩;rintro i m σ3 H3 ⟨rfl,hil,ρ3,ε3,⟨B,o3⟩,e3⟩;have pl:Same (hid A H1) (hid B H3):=by rw[<-hHf] at o3;exact OkW.plain o.w.sub o3.w
  by_cases hlt:i<ds.length
  ·right;have hd:ds[i]?=some ds[i]:=by simp[hlt]
   have ed:ds.drop i=ds[i]::ds.drop (i+1):=z4s hlt;rw[ed] at e3;unfold JH at e3;refine⟨sr.go i H3 (pl.trans Ar) hlt,λ σ' H'=>∃ ρ' ε',EOkS G c A0 Hf x σ' H' ρ' ε'/\JH fg gb (ds.drop (i+1)) ρ' ε'=some r,λ σ' H' q=>⟨ds.length-(i+1),by omega,rfl,hlt,q⟩,λ y H' yy=>?_⟩;obtain⟨sy,rx⟩:=sr.yld i H3 y H' _ (pl.trans Ar) hd yy;have o4:=o3.mono sy;cases e4:fg ds[i] ρ3 with
   | none=>simp[e4] at e3
   | some ρ4=>
    simp only[e4,z0M] at e3;split at e3
    ·rename_i no;refine⟨B,H',B,ρ3,ds[i],ρ4,o4.frameW,rx B o3.w.ok.live pl,e4,λ σ5 H5 ok5=>?_⟩;cases e5:gb ρ4 ε3 with
     | none=>simp[e5] at e3
     | some q=>
      simp only[e5,z0M] at e3;exact⟨A0,Hf,x,ρ4,ε3,q,o4.unframe ok5 no (by rw[hk _ _ _ e4];exact o4.s0),e5,λ σ' H' o'=>⟨q.1,q.2,o',e3⟩⟩
    ·cases e3
  ·left;have ei:i=ds.length:=by omega
   subst ei;rw[z6P] at e3;cases e3;exact⟨sr.stop _ H3 (pl.trans Ar) (z06 _),k2 σ3 H3 ⟨B,o3⟩⟩
end
theorem Rw:b∈A.filter (λ b=>decide (b≠p))↔b∈A/\b≠p:=by simp[z2s]
theorem o6 (I:Inv X π σ H s) (hA:a∈A) (t:Top G A H a d) :
  ∃ H',Inv X π σ H' s/\(∀ b,b≠a->H' b=H b)/\Same (hid A H) (hid (A.filter λ b=>decide (b≠a)) H')/\Rep G (hid (A.filter λ b=>decide (b≠a)) H') (.ref a) d:=by
 have key:∀ H':Hp,(∀ b,b≠a->H' b=H b)->Same (hid A H) (hid (A.filter λ b=>decide (b≠a)) H'):=λ H' hh b u h=>by
  unfold hid at h;split at h
  ·cases h
  ·rename_i hb;rw[CP (λ z=>hb (Rw.mp z).1),hh b (λ z=>hb (z▸hA))];exact h
 have at0:∀ H':Hp,hid (A.filter λ b=>decide (b≠a)) H' a=H' a:=λ H'=>CP (λ z=>(Rw.mp z).2 rfl);cases d with
 | lst ds=>
  obtain⟨xs,a1,a2⟩:=t;have sm:=key H λ _ _=>rfl;exact⟨H,I,λ _ _=>rfl,sm,.lst (.of (by rw[at0];exact a1)) (a2.mono sm).1 (a2.mono sm).2⟩
 | dk ds=>
  obtain⟨xs,a1,a2,a3⟩:=t;obtain⟨o,I'⟩:=Inv.frzK I a1;have sm:=key _ λ b hb=>Ak (o:=.frz o (.dK xs)) hb;exact⟨_,I',λ b hb=>Ak hb,sm,.dk (by rw[at0];exact Aj) a2 (a3.mono sm).2⟩
 | dt ds=>
  obtain⟨xs,a1,a2,a3⟩:=t;obtain⟨o,I'⟩:=Inv.frzT I a1;have sm:=key _ λ b hb=>Ak (o:=.frz o (.dT xs)) hb;exact⟨_,I',λ b hb=>Ak hb,sm,.dt (by rw[at0];exact Aj) a2 (a3.mono sm).2⟩
 | ob c gs=>
  obtain⟨C,dx,xs,a1,a2,a3⟩:=t;have sm:=key H λ _ _=>rfl;exact⟨H,I,λ _ _=>rfl,sm,.ob a2.1 (by rw[at0];exact a1) a2.2 (a3.mono sm).2⟩
 | _=>exact t.elim
theorem FsOk.frz {X:Cx}{G:Gx}{A0 A:List Addr}{π:zP}{s:z03}{σ:St}{H:Hp}{x:Addr}{fs:List (Str×V)}{ε:Ef}{as:List Addr}(h:FsOk G A0 A H x fs ε as) (I:Inv X π σ H s) :
  ∃ H' A',Inv X π σ H' s/\(∀ b,b∉as->H' b=H b)/\(∀ b,b∈A'↔b∈A/\b∉as)/\Same (hid A H) (hid A' H')/\RepL G (hid A' H') (fs.map (·.2)) (ε.map λ p=>p.2.2):=by
 induction h with
 | nil=>exact⟨H,A,I,λ _ _=>rfl,λ b=>by simp,Same.refl _,.nil⟩
 | pl rv _ ih=>
  obtain⟨H',A',i1,i2,i3,i4,i5⟩:=ih;exact⟨H',A',i1,i2,i3,i4,.cons (rv.mono i4) i5⟩
 | @ow f a d fs ε as h1 h2 h3 h4 t _ ih=>
  obtain⟨H1,A1,i1,i2,i3,i4,i5⟩:=ih;have ha:a∈A1:=(i3 a).mpr ⟨h1,h4⟩;have e1:H1 a=H a:=i2 a h4;have t1:Top G A1 H1 a d:=by
   cases d with
   | lst ds=>obtain⟨xs,q1,q2⟩:=t;exact⟨xs,by rw[e1];exact q1,q2.mono i4⟩
   | dk ds=>obtain⟨xs,q1,q2,q3⟩:=t;exact⟨xs,by rw[e1];exact q1,q2,q3.mono i4⟩
   | dt ds=>obtain⟨xs,q1,q2,q3⟩:=t;exact⟨xs,by rw[e1];exact q1,q2,q3.mono i4⟩
   | ob c gs=>obtain⟨C,dx,xs,q1,q2,q3⟩:=t;exact⟨C,dx,xs,by rw[e1];exact q1,q2,q3.mono i4⟩
   | _=>exact t.elim
  obtain⟨H2,j1,j2,j3,j4⟩:=o6 i1 ha t1;refine⟨H2,A1.filter λ b=>decide (b≠a),j1,λ b hb=>?_,λ b=>?_,i4.trans j3,.cons j4 (i5.mono j3)⟩
  ·rw[j2 b (λ z=>hb (by simp[z])),i2 b (λ z=>hb (z0y _ z))]
  ·rw[Rw,i3 b];simp only[z0i,not_or];exact⟨λ ⟨⟨p1,p2⟩,p3⟩=>⟨p1,p3,p2⟩,λ ⟨p1,p3,p2⟩=>⟨⟨p1,p2⟩,p3⟩⟩
theorem EOk.whole {x:Addr}(o:EOk G c A0 He x A σ H ρ ε) (I:Inv X π σ H s) :
  ∃ H',Inv X π σ H' s/\Same He H'/\Rep G (hid A0 H') (.ref x) (finE c ε):=by
 obtain⟨C,dx,fs,as,h1,h2,h3⟩:=o.ob;obtain⟨H',A',i1,i2,i3,i4,i5⟩:=h3.frz I;have nx:x∉as:=λ z=>(h3.ne x z).2.2 rfl;refine⟨H',i1,λ b u hb=>?_,?_⟩
 ·rw[i2 b (λ z=>?_)]
  ·exact o.w.same b u hb
  ·obtain⟨q1,q2,_⟩:=h3.ne b z;rw[(o.w.fr b q1).resolve_left q2] at hb;cases hb
 ·have sb:∀ a∈A0,a∈A':=λ a ha=>(i3 a).mpr ⟨o.w.sub a ha,λ z=>(h3.ne a z).2.1 ha⟩;have en:fs.map (·.1)=(ε.map λ p=>(p.1,p.2.2)).map (·.1):=by
   rw[h3.names,z0p];rfl
  have es:(ε.map λ p=>(p.1,p.2.2)).map (·.2)=ε.map λ p=>p.2.2:=by rw[z0p];rfl
  refine .ob h2 (by rw[CP o.x0,i2 x nx];exact h1) en ?_;rw[es];exact (i5.mono (J0 sb)).2
def tEI (G:Gx) (c:Str) (A0:List Addr) (He:Hp) (x:Addr) (g:FEs):TS:=λ D σ H=>∃ ρ ε r,EOkS G c A0 He x σ H ρ ε/\g ρ ε=some r/\∀ σ' H',Same He H'->Rep G (hid A0 H') (.ref x) (finE c r.2)->D.nx σ' H'
def PSI (X:Cx) (G:Gx) (c:Str) (st:List Stmt) (g:FEs):Prop:=∀ ⦃A0⦄ He x,PSs X st (tEI G c A0 He x g)
theorem Zo:PSI X G c [] nilE:=λ A0 He x π s σ H D I ⟨ρ,ε,r,⟨A,o⟩,e,k⟩=>by
 cases e;obtain⟨H',I',q1,q2⟩:=o.whole I;exact Ln π s σ H' D I' (k σ H' q1 q2)
theorem Do {rest:List Stmt}{g gs:FEs}(h1:PSE X G c st g) (h2:PSI X G c rest gs):PSI X G c (st::rest) (GC g gs):=λ A0 He x π s σ H D I ⟨ρ,ε,r,o,e,k⟩=>by
 refine RM (@h1 A0 He x) (@h2 A0 He x) π s σ H D I ?_;unfold GC at e;cases e1:g ρ ε with
 | none=>simp[e1] at e
 | some q=>
  simp only[e1,z0M] at e;exact⟨ρ,ε,q,o,e1,λ σ' H' o'=>⟨q.1,q.2,r,o',e,k⟩⟩
def spI (G:Gx) (c:Str) (g:Addr->List D->Option Ef):Sp:=λ vs H Q _=>∃ A x vs' ds ε C dx,vs=.ref x::vs'/\(∀ a∈A,Nt (H a))/\x∉A/\H x=some (.ins C dx [])/\G.cl c=some C/\RepL G (hid (x::A) H) vs' ds/\g x ds=some ε ∧
 ∀ H',Qi x H H'->Rep G (hid A H') (.ref x) (finE c ε)->Q .non H'
theorem M4 (n:Nat) (ds:List D):noOw (Ew n ds)=true:=by
 unfold noOw Ew;rw[z1c];intro z hz
 rcases z0U.mp hz with q | q
 ·obtain⟨d,_,rfl⟩:=z0f.mp q;rfl
 ·rw[(List.mem_replicate.mp q).2]
theorem fn_I {base:Heap}{f:Addr}{k:Nat}{b:FEs}(F:Fun G.K x qual st f fd) (S:FnScope N ps (Ab st)) (hl:ps.length<=N.length)
  (hb:∀ (cdv:z00) (A:z0a) (outer:List Env) (s:z03) (H:Hp) (E:XK),Room k (A.deeper (z1E qual (Ab st) s.heap.objs.size f cdv))->PSI (cxOf CX0 P w G.K mg base N qual (Ab st) f cdv A outer s H E).nox G c (B_ st) b) :
  FnOk P w G.K mg base CX0 (k+1) f fd ps (spI G c (runI N.length ps.length b)):=by
 refine F.ok S (λ vs H Q E h=>?_) (λ cdv A outer s H vs Q E hr h=>?_)
 ·obtain⟨A,x,vs',ds,ε,C,dx,rfl,lv,hx,hH,hc,r,e,_⟩:=h;unfold runI at e;split at e
  ·rename_i hz;rw[z0u,r.1];exact hz
  ·cases e
 ·obtain⟨A1,x,vs',ds,ε,C,dx,rfl,lv,hx,hH,hc,r,e,k⟩:=h;unfold runI at e;split at e
  ·rename_i hz;have lv':∀ a∈x::A1,Nt (H a):=λ a ha=>by
    rcases z0i.mp ha with z | z
    ·rw[z,hH];exact Nt.ins
    ·exact lv a z
   have r':RepL G (hid (x::A1) H) (.ref x::vs') (.adr x::ds):=.cons (.adr x) r;obtain⟨B,w⟩:=Rk (N:=N) lv' r' (by rw[z0u,r.1];omega);cases e1:b (Rt N.length x ds) [] with
   | none=>simp[e1] at e
   | some q=>
    simp only[e1,z1z] at e;cases e;have hzz:=hb cdv A outer s H E hr;refine⟨_,@hzz A1 (hid [x] H) x,Rt N.length x ds,[],q,?_,e1,λ σ' H' s' rv=>k H' (λ b o hb ho=>s' b o (by rw[CP (by simpa using hb)];exact ho)) rv⟩;refine⟨B,⟨Ar,λ a ha=>w.sub a (z0y _ ha),λ a ha=>?_,λ a ha=>?_,w.ok,λ i d a h _=>absurd h (Cm (M4 _ _) i d),λ y d _ h=>absurd h (Cm (M4 _ _) 0 d)⟩,M4 _ _,w.sub x z0O,hx,rfl,C,dx,[],[],hH,hc,.nil⟩
    ·rcases w.fr a ha with z | z
     ·rcases z0i.mp z with z | z
      ·right;unfold hid;rw[if_pos (by simp[z])]
      ·exact .inl z
     ·right;unfold hid;split
      ·rfl
      ·exact z
    ·rw[CP (λ z=>hx (by simp at z;rw[<-z];exact ha))];exact (lv a ha).ne
  ·cases e
section
variable {a b:Expr}{fa fb:FE}{p:Pos}{es:List Expr}{fs:FA}
theorem U_ {k:Nat}{f:Addr}{g:Addr->List D->Option Ef}{cn:Str}(hcl:G.cl cn=some C) (M:Mk X.K C f) (F:FnOk X.prog X.w X.K X.mg X.base CX0 k f fd ps (spI G cn g)) (hr:Room (k+1) X.A) (hg:Gl X x) (hm:X.mg x=some (.ref C)) (hb:Binds X.K fd ps [])
  (ha:PFA X G (a::es) fs) (hdb:.(3)=false:=by decide) (he:z09 (a::es) X.env=.(8)::z09 es X.env:=by rfl) (hpl:.(37).any (·.1)=false:=by rfl) :
  PF X G (.Call (.Name x p) (a::es) [] pos) (mkI cn g fs):=λ A=>Bx (my M F hr hg hm hb .nil WF (@ha A) hdb he hpl) λ σ H Q ⟨ρ,d,o,e,k⟩=>by
 unfold mkI at e;cases e1:fs ρ with
 | none=>simp[e1] at e
 | some ds=>
  cases e3:g 0 ds with
  | none=>simp[e1,e3] at e
  | some ε=>
   simp only[e1,e3,z0M] at e;split at e
   ·rename_i hall;cases e;refine⟨ρ,ds,o,e1,λ vs H1 s1 rv=>λ y dx hy hdx hne=>?_⟩;have sm:Same H1 (upd (upd H1 dx (.own y)) y (.ins C dx [])):=(Al hdx _).trans (Al (by rw[Ak (z0n hne)];exact hy) _);have lv1:=(o.mono s1).live;refine⟨A,y,vs,ds,ε,C,dx,by rw[z1g],λ b hb=>?_,λ z=>(lv1 y z).ne hy,Aj,hcl,rv.mono (Ls sm hy),hall y,λ H' sx rv'=>?_⟩
    ·exact (lv1 b hb).mono λ u e=>sm _ _ e
    ·refine⟨rfl,k _ H' (λ b u hb=>sx b u (λ z=>?_) (sm _ _ (s1 _ _ hb))) rv'⟩;have:=s1 _ _ hb;rw[z,hy] at this;cases this
   ·cases e
end
theorem VB {f:FE}(ρ ρ':Rho) (h:Fw f ρ=some (.nx ρ')):ρ'[0]?=ρ[0]?:=by
 unfold Fw at h;cases e:f ρ with
 | none=>simp[e] at h
 | some d=>simp[e] at h;rw[h]
def K0s (g:FGs):Prop:=∀ ds ρ ρ',g ds ρ=some ρ'->ρ'[0]?=ρ[0]?
theorem ig:K0s nilG:=λ ds ρ ρ' h=>by
 unfold nilG at h;split at h
 ·cases h;rfl
 ·cases h
theorem Q8 {g:FGs}(hi:i≠0) (hg:K0s g):K0s (BK i g):=λ ds ρ ρ' h=>by
 unfold BK at h;split at h
 ·rw[hg _ _ _ h,z1m hi]
 ·cases h
theorem ik {g:FGs}(hg:K0s g) (d:D) (ρ ρ':Rho) (h:tupG n g d ρ=some ρ'):ρ'[0]?=ρ[0]?:=by
 unfold tupG at h;split at h
 ·split at h
  ·exact hg _ _ _ h
  ·cases h
 ·split at h
  ·exact hg _ _ _ h
  ·cases h
 ·cases h
end PV
namespace PV
open PySem PySem.W PySem.Calls PyProof.Rows L2
theorem YJ:∀ (ns:List Int) (i:Int),i∈ns->z1q i<=z76 (ns.map z3P):=by
 intro ns
 induction ns with
 | nil=>intro i h;cases h
 | cons n r ih=>
  intro i h;rw[z0c];show z1q i<=z77 (.int n)+1+z76 (r.map z3P)
  rcases z0i.mp h with q | q
  ·subst q;have:z77 (.int i)=z1q i:=by unfold z77 z1q;rfl
   omega
  ·have:=ih i q;omega
theorem o7 {l:OpenLaw}{q:z0s}{XP:(Str->Option z00)->Heap->Prop}{YP:z0k->Heap->Prop}{d:DefRec}(hn:l.most=some n) (hdf:d.params.defaults=[])
  (call:∀ (w:z0k) (s₀ s₁:z03) (mg mb:Str->Option z00) (fa:Addr) (o:Obj) (pm cd doc:z00) (a:Addr) (vs:List z00) (ns:List Int),
   Ground q loose [] XP w s₀ mg mb s₁.heap->YP w s₁.heap ->
   s₁.heap.get? fa=some o->o.data=.func (docDef d.name d.params d.body d.scope pm cd doc)->s₁.heap.CodeRec cd d.name->mg d.name=some (.ref fa) ->
   s₁.heap.get? a=some { cls:=.type "list",data:=.seq vs.toArray }->z4r vs ns->ns.length<=n->(∀ i∈ns,z1q i<=1048576)->s₁.gens=#[] ->
   z0Z (z04 l.prog w) z3j (.call (.ref fa) ⟨[.ref a],[]⟩) (λ r s'=>r=.ok (.ret (.bool true))/\OldK s₁.heap s'.heap/\s'.os=s₁.os/\z2j s'.gens) s₁) :
  WalkO q loose XP YP l.row.toRowW d [] (λ f vs=>z78 f vs):=by
 intro w s₀ s₁ mg mb G Y fa o pm cd doc dV kV ho hd hcd hD hmg hg args vals as hpre hlay hrd hwl hlo;obtain rfl:dV=.none:=Dflts.none hD hdf;obtain rfl:kV=.none:=Dflts.noKw hD;obtain⟨a,vs,ns,rfl,rfl,hobj,hints,hlen⟩:=Att.bT hn hpre hwl;have hb:∀ i∈ns,z1q i<=1048576:=λ i hi=>by
  have h1:=YJ ns i hi;have h2:z76 (ns.map z3P)<=1048576:=by
   have h3:z8N (.list (ns.map z3P))=true:=z1c.mp hlay _ (z0O ..);unfold z8N at h3;rw[z0Q] at h3;exact of_decide_eq_true h3.2
  omega
 refine enter_call (z2K (call w s₀ s₁ mg mb fa o pm cd doc a vs ns G Y ho (fd_plain hd) hcd hmg hobj hints hlen hb hg) λ r s' hq=>?_);obtain⟨rfl,h2,h3,h4⟩:=hq;exact⟨.inl ⟨.bool true,.bool true,[],rfl,λ _=>rfl,.bool true,Att.bU l _,λ _=>⟨z5t,λ _ hm=>(nomatch hm)⟩⟩,h2,h3,h4⟩
theorem ir {l:PySem.W.OpenLaw}{k:Nat}{q:z0s}{XP:(Str->Option z00)->Heap->Prop}{YP:z0k->Heap->Prop}{d:DefRec}{K:Params->z08}{CX:z0k->CXT}{sp:z0k->Sp}(hn:l.most=some n) (hn2:n<=sizeLine) (hdf:d.params.defaults=[]) (hr:Room k z3j)
  (hY:∀ (w:z0k) (h:Heap),YP w h->(K w.params).In h)
  (F:∀ (w:z0k) (mg:Str->Option z00) (fa:Addr) (h:Heap),(K w.params).In h->h.Ns z0T mg->mg d.name=some (.ref fa) ->
   ∃ fd:z2l,(∀ (s:z03) (u:z00),z4g s fd ⟨[u],[]⟩ [(x,u)]) ∧
    ∀ base:Heap,(K w.params).In base->base.Ns z0T mg->FnOk l.prog w (K w.params) mg base (CX w) k fa fd [x] (sp w))
  (hsp:∀ (w:z0k) (H:Hp) (a:Addr) (ns:List Int),ns.length<=n->(∀ i∈ns,z1q i<=1048576)->Only H->SqL (K w.params) H a (ns.map V.int)->sp w [.ref a] H (λ v _=>v=.bl true) λ _ _ _=>False)
  (hCX:∀ (w:z0k) (H:Hp) (s:z03) (e:z00) (s':z03),CX w [] H s (λ _ _ _=>False) e s'->False) :
  PySem.W.WalkO q loose XP YP l.row.toRowW d [] (λ f vs=>z78 f vs):=by
 refine o7 hn hdf λ w s₀ s₁ mg mb fa o pm cd doc a vs ns G Y ho hd hcd hmg hobj hints hlen hbits hg=>?_;have KX:=hY w _ Y;obtain⟨fd,hb,hF⟩:=F w mg fa _ KX G.T.g hmg;exact fB KX G.T.g G.T.b G.T.builtins G.T.nolimit hg hobj hints (z0A hlen hn2) hr hF hb (λ H hO hS=>hsp w H a ns hlen hbits hO hS) λ H e s'=>hCX w H s₁ e s'
end PV
namespace PV
open PySem PySem.Spec L2
open PyProof.Rows hiding St
section
end
structure FunD (K:z08) (x qual:Str) (st:Stmt) (f:Addr) (fd:z2l):Prop where
 ex:∃ (oc:z00) (od:Option Addr) (dV kV doc pm:z00) (an:Option Addr) (cdv ct:z00) (osl:Array (Option z00)),
  fd=z1y x qual (El st) (B_ st) (Ab st) dV kV doc pm an cdv ct/\K.lookup f=some ⟨oc,od,.func fd,osl⟩/\z2N K cdv qual=true
 kp:z1L K (.ref f)=true
theorem o8 {K:z08}{f:Addr}{dV kV:z00}(l:K.lookup f=some ⟨oc,od,.func (z1y x qual (El st) (B_ st) (Ab st) dV kV doc pm an cdv ct),osl⟩)
  (c:z2N K cdv qual=true) (k:z1L K (.ref f)=true):FunD K x qual st f (z1y x qual (El st) (B_ st) (Ab st) dV kV doc pm an cdv ct):=⟨⟨oc,od,dV,kV,doc,pm,an,cdv,ct,osl,rfl,l,c⟩,k⟩
theorem xg {base:Heap}{f:Addr}{k:Nat}{b:FS}(F:FunD G.K x qual st f fd) (S:FnScope N ps (Ab st)) (hl:ps.length<=N.length)
  (hb:∀ (cdv:z00) (A:z0a) (outer:List Env) (s:z03) (H:Hp) (E:XK),Room k (A.deeper (z1E qual (Ab st) s.heap.objs.size f cdv))->PSDs (cxOf CX0 P w G.K mg base N qual (Ab st) f cdv A outer s H E).nox G (B_ st) b) :
  FnOk P w G.K mg base CX0 (k+1) f fd ps (spD G (runF N.length ps.length b)):=by
 obtain⟨oc,od,dV,kV,doc,pm,an,cdv,ct,osl,rfl,lk,hcd⟩:=F.ex;refine rG lk hcd S (λ vs H Q E h=>?_) (λ A outer s H vs Q E hr h=>?_)
 ·obtain⟨A,ds,d,lv,r,e,_⟩:=h;unfold runF at e;split at e
  ·rename_i hz;rw[r.1];exact hz
  ·cases e
 ·obtain⟨A0,ds,d,lv,r,e,k⟩:=h;unfold runF at e;split at e
  ·rename_i hz;have hzz:=hb cdv A outer s H E hr;refine⟨_,(@hzz A0 H).nox,Ew N.length ds,?_⟩;cases e1:b (Ew N.length ds) with
   | none=>simp[e1] at e
   | some o=>
    refine⟨o,Rk lv r (by rw[r.1,hz];exact hl),rfl,?_⟩;cases o with
    | nx ρ=>
     simp only[e1] at e;cases e;exact λ σ H' ⟨A,w⟩=>k _ H' w.same .non
    | rt d' ρ'=>
     simp only[e1] at e;cases e;exact λ v σ H' A w r'=>k v H' w.same (r'.mono (J0 w.sub))
    | bk ρ=>simp[e1] at e
    | ct ρ=>simp[e1] at e
  ·cases e
end PV
namespace PV
open PySem L2
theorem N8 (k:List (Key×D)) (x:Str):ixE (.dk k) (.str x)=getK (.inr x) k:=zE_ _
theorem Zq (l:List (Key×D)):lenE (.dk l)=some (.int l.length):=zE_ _
theorem Zr (neg:Bool) (x:Int) (k:List (Key×D)):inF neg (.int x) (.dk k)=some (.bl (if neg then !(getK (.inl x) k).isSome else (getK (.inl x) k).isSome)):=zE_ _
def N_ (o:Option D):Option (List D):=match o with | some (.str x)=>some (We x) | some (.lst ds)=>some ds | some (.tup ds)=>some ds | some (.dk kds)=>some (kds.map λ p=>kDt p.1) | _=>none
theorem DQ (f:FE) (ρ:Rho):seqA f ρ=N_ (f ρ):=by
 unfold seqA seqE N_;cases f ρ with
 | none=>rfl
 | some d=>cases d<;>rfl
theorem Ff (l:List D):N_ (some (.lst l))=some l:=zE_ _
theorem OD (l:List D):N_ (some (.tup l))=some l:=zE_ _
theorem OJ (l:List (Key×D)):N_ (some (.dk l))=some (l.map λ p=>kDt p.1):=zE_ _
def putO (i:Nat) (ρ:Rho) (x y v:Option D):Option Out:=v.bind λ v=>y.bind λ y=>x.bind λ x=>(Df x y v).map λ z=>.nx (ρ.set i (.ow z))
theorem Ry (i:Nat) (fk fv:FE) (ρ:Rho):putF i fk fv ρ=putO i ρ (getW ρ[i]?) (fk ρ) (fv ρ):=zE_ _
theorem M5 (i:Nat) (ρ:Rho) (x y v:D):putO i ρ (some x) (some y) (some v)=(Df x y v).map λ z=>.nx (ρ.set i (.ow z)):=zE_ _
def su (i:Nat) (ρ:Rho) (x:Option D) (y:Option (List D)) (v:Option D):Option Out:=v.bind λ v=>y.bind λ y=>x.bind λ x=>(Nz x y v).map λ z=>.nx (ρ.set i (.ow z))
theorem vO (i:Nat) (fk:FA) (fv:FE) (ρ:Rho):Wb i fk fv ρ=su i ρ (getW ρ[i]?) (fk ρ) (fv ρ):=zE_ _
theorem o9 (i:Nat) (ρ:Rho) (x:D) (y:List D) (v:D):su i ρ (some x) (some y) (some v)=(Nz x y v).map λ z=>.nx (ρ.set i (.ow z)):=zE_ _
def frzO (ρ:Rho) (i:Nat) (o:Option Slot):Rho:=match o with | some (.ow d)=>ρ.set i (.fz d) | _=>ρ
theorem xj (g:FS) (ρ:Rho):fzS [] g ρ=g ρ:=zE_ _
theorem xm (i:Nat) (is:List Nat) (g:FS) (ρ:Rho):fzS (i::is) g ρ=fzS is g (frzO ρ i ρ[i]?):=zE_ _
theorem vP (ρ:Rho) (i:Nat) (d:D):frzO ρ i (some (.ow d))=ρ.set i (.fz d):=zE_ _
theorem Oa (i j:Nat) (a b:D) (ρ:Rho):tupG 2 (BK i (BK j nilG)) (.tup [a,b]) ρ=some ((ρ.set i (.fz a)).set j (.fz b)):=zE_ _
theorem R1 (x:Str):kDt (.inr x)=.str x:=zE_ _
theorem Pz {κ:Type} [DecidableEq κ] {k:κ}:∀ {l:List (κ×D)},k∉l.map (·.1)->getK k l=none
 | [],_=>rfl
 | p::r,h=>by
  unfold getK;rw[z0c,z0i,not_or] at h;rw[if_neg (λ z=>h.1 z.symm)];exact Pz h.2
theorem VD {κ:Type} [DecidableEq κ] {k:κ}{d:D}:∀ {l:List (κ×D)},(l.map (·.1)).Nodup->(k,d)∈l->getK k l=some d
 | [],_,h=>by cases h
 | p::r,nd,h=>by
  unfold getK;rw[z0c,z2m] at nd
  rcases z0i.mp h with q | q
  ·subst q;rw[if_pos rfl]
  ·rw[if_neg (λ z=>nd.1 (by rw[z];exact z0f.mpr ⟨(k,d),q,rfl⟩))];exact VD nd.2 q
theorem putL_new {κ:Type} [DecidableEq κ] {k:κ}{v:D}{l:List (κ×D)}(h:k∉l.map (·.1)):putL k v l=l++[(k,v)]:=by
 unfold putL;rw[Pz h];rfl
theorem M6 (k:List (Key×D)) (x:Str) (v:D) (hl:k.length<=1000000):Df (.dk k) (.str x) v=some (.dk (putL (.inr x) v k)):=by
 show (if k.length<sizeLine then some (D.dk (putL (.inr x) v k)) else none)=_;rw[if_pos (z2Q hl (by decide))]
theorem vQ (k:List (Key×D)) (x:Int) (v:D) (hl:k.length<=1000000):Df (.dk k) (.int x) v=some (.dk (putL (.inl x) v k)):=by
 show (if k.length<sizeLine then some (D.dk (putL (.inl x) v k)) else none)=_;rw[if_pos (z2Q hl (by decide))]
theorem vR (k:List (List Key×D)) (x y:Int) (v:D) (hl:k.length<=1000000):Nz (.dt k) [.int x,.int y] v=some (.dt (putL [.inl x,.inl y] v k)):=by
 show (if k.length<sizeLine/\2<=sizeLine then some (D.dt (putL [.inl x,.inl y] v k)) else none)=_;rw[if_pos ⟨z2Q hl (by decide),by decide⟩]
theorem VF {g:FS}{ρ':Rho}(h:g ρ=some (.nx ρ')) (hn:noOw ρ'=true):pureE g ρ ε=some (ρ',ε):=by
 unfold pureE;rw[h];show (if noOw ρ'=true then some (ρ',ε) else none)=_;rw[if_pos hn]
def tD (r:Option (Rho×Ef)) (gs:FEs):Option (Rho×Ef):=r.bind λ r=>gs r.1 r.2
theorem GD (g gs:FEs) (ρ:Rho) (ε:Ef):GC g gs ρ ε=tD (g ρ ε) gs:=zE_ _
theorem Dw (gs:FEs) (ρ:Rho) (ε:Ef):tD (some (ρ,ε)) gs=gs ρ ε:=zE_ _
theorem iu (ρ:Rho) (ε:Ef):nilE ρ ε=some (ρ,ε):=zE_ _
theorem iw {tg:FG}{b:FEs}(h:src ρ=some ds):forE src tg b ρ ε=JH tg b ds ρ ε:=by
 unfold forE;rw[h];rfl
end PV
namespace PV
open PySem PySem.Spec
section
variable {A:z0a}
def btx (w:z0k):Bool:=w.params.followText "set-order"
def ObX (h:Heap) (a:Addr) (es:Array (Int×z00)) (t:SetTable):Prop:=∃ o ep,h.get? a=some o/\o.ExactSet/\o.data=.set es ep t
end
section
variable {A:z0a}{R:z2u->z03->Prop}{I:Addr}{wr:List Addr}{P:Nat->z00->Prop}{Sx:Nat->Heap->Prop}
end
section
variable {A:z0a}
theorem xn {T nid iid:String}{as:List z00}{Q1:z00->z03->Prop}(ft:TypeCalled T nid iid) (hc:checkTypeCall T ⟨as,[]⟩=pure ()) (hn:z0Z (z04 prog w) A.in1 (.call (.builtin nid) ⟨.type T::as,[]⟩) (wants Q1 E) s)
  (hi:∀ ob s1,Q1 ob s1->s1.TypeIs ob T/\z0Z (z04 prog w) A.in1 (.call (.builtin iid) ⟨ob::as,[]⟩) (wants (λ r s2=>r=.none/\Q ob s2) E) s1):z02 (z04 prog w) A (call (.type T) as) Q E s:=by
 obtain⟨m0,mr,g1⟩:=ft.mro;have g2:=ft.made;have g3:=ft.sub;have g4:=ft.notType;have g5:=ft.canCreate;refine z58 (codeAny_of_tree (show z02 _ _ (callAny (.type T) _) _ _ _ from z05 ⟨z79 _ .(34),z1A F.entry_type_call ?_⟩));rw[Around.under_plain (weight_type_call_type T as []) (units_type_call_type T as [])]
 repeat (any_goals (first | assumption | wp_step))
 refine z2K hn λ r s1 q1=>?_
 match r,q1 with
 | .error _,q1=>exact q1
 | .ok .next,q1=>exact q1.elim
 | .ok .brk,q1=>exact q1.elim
 | .ok .cont,q1=>exact q1.elim
 | .ok (.ret ob),q1=>
  obtain⟨ty,run⟩:=hi ob s1 q1;have g6:=ft.init.lookup;have g7:=ft.init.bind ob
  repeat (any_goals (first | assumption | wp_step))
  refine z2K run λ r2 s2 q2=>?_
  match r2,q2 with
  | .error _,q2=>exact q2
  | .ok .next,q2=>exact q2.elim
  | .ok .brk,q2=>exact q2.elim
  | .ok .cont,q2=>exact q2.elim
  | .ok (.ret v),⟨e,q2⟩=>
   subst e
   repeat (any_goals (first | assumption | wp_step))
theorem o_ (v:z00) {Q:z00->z03->Prop}(k:Q .(6) { s with heap:=s.heap.push { cls:=.type "set",dict:=none,data:=.set #[] 0 (.fresh 0 0 (!btx w)) } }):z0Z (z04 prog w) A (.call (.builtin "set.__new__") ⟨[.type "set",v],[]⟩) (wants Q E) s:=by
 have sb:isSubtype (.type "set") (.type "set")=pure true:=by rw[z2V];kernel_rfl
 refine codeAny_of_tree (show z02 _ A.in1 (do checkBuiltinCall "set.__new__" ⟨[.type "set",v],[]⟩;again (.builtin "set.__new__" ⟨[.type "set",v],[]⟩)) _ _ s from ?_);refine z01 (z4t (F.newCall_set_1 v) (z05 ⟨z20 z8O _,z1A F.entry_set_new ?_⟩));rw[z2p z8O _];unfold z1h.«set.__new__» Builtin.Frozenset.newClass;obtain⟨h,g,d,tk,os⟩:=s
 wp_walk
 refine z3Y (z05 ?_);dsimp only [newObj];exact z01 (wpAny_alloc (z05 (z05 k)))
end
end PV
namespace PV
open PySem
open PySem.SetTable (below insertAt Probe Met)
abbrev Rise (l:List Nat):Prop:=l.Pairwise (·<·)
theorem R3 (xs:Array Nat) (hr:Rise xs.toList) (j:Nat):∀ (f lo hi:Nat),hi-lo<=f->lo<=hi->hi<=xs.size->(∀ i (h:i<xs.size),i<lo->xs[i]<j)->(∀ i (h:i<xs.size),hi<=i->j<=xs[i]) ->
  lo<=below.go xs j f lo hi/\below.go xs j f lo hi<=hi/\(∀ i (h:i<xs.size),i<below.go xs j f lo hi->xs[i]<j)/\(∀ i (h:i<xs.size),below.go xs j f lo hi<=i->j<=xs[i])
 | 0,lo,hi,hf,hl,hs,h1,h2=>by
  have:lo=hi:=by omega
  subst this;exact⟨z06 _,z06 _,h1,h2⟩
 | f+1,lo,hi,hf,hl,hs,h1,h2=>by
  have mono:∀ a b (ha:a<xs.size) (hb:b<xs.size),a<=b->xs[a]<=xs[b]:=λ a b ha hb hab=>by
   rcases z8P hab with h | h
   ·have:=z3Z.mp hr a b (by simpa using ha) (by simpa using hb) h;simp at this;omega
   ·subst h;exact z06 _
  have e0:below.go xs j (f+1) lo hi=if lo<hi then (if xs.getD ((lo+hi)/2) j<j then below.go xs j f ((lo+hi)/2+1) hi else below.go xs j f lo ((lo+hi)/2)) else lo:=rfl
  by_cases c:lo<hi
  ·have hm:(lo+hi)/2<xs.size:=by omega
   have gd:xs.getD ((lo+hi)/2) j=xs[(lo+hi)/2]:=by simp[hm]
   rw[e0,if_pos c,gd]
   by_cases d:xs[(lo+hi)/2]<j
   ·simp only[if_pos d];obtain⟨a,b,e,g⟩:=R3 xs hr j f ((lo+hi)/2+1) hi (by omega) (by omega) hs (λ i h hi'=>z2Q (mono i _ h hm (by omega)) d) h2;exact⟨by omega,b,e,g⟩
   ·simp only[if_neg d];obtain⟨a,b,e,g⟩:=R3 xs hr j f lo ((lo+hi)/2) (by omega) (by omega) (by omega) h1 (λ i h hi'=>by have:=mono _ i hm h hi';omega);exact⟨a,by omega,e,g⟩
  ·rw[e0,if_neg c];have:lo=hi:=by omega
   subst this;exact⟨z06 _,z06 _,h1,h2⟩
theorem Ob (xs:Array Nat) (hr:Rise xs.toList) (j:Nat):below xs j<=xs.size/\(∀ i (h:i<xs.size),i<below xs j->xs[i]<j)/\(∀ i (h:i<xs.size),below xs j<=i->j<=xs[i]):=by
 have:=R3 xs hr j xs.size 0 xs.size (by omega) (by omega) (z06 _) (λ _ _ h=>by omega) (λ i h h'=>by omega);exact this.2
theorem below_at (xs:Array Nat) (hr:Rise xs.toList) {i j:Nat}(h:xs[i]?=some j):below xs j=i:=by
 obtain⟨hi,e⟩:=z7a.mp h;obtain⟨b0,b1,b2⟩:=Ob xs hr j
 rcases z5u (below xs j) i with c | c | c
 ·have h1:=b2 (below xs j) (by omega) (z06 _);have:=z3Z.mp hr (below xs j) i .(17) (by simpa using hi) c;simp at this;omega
 ·exact c
 ·have:=b1 i hi c;omega
theorem T8 {t:SetTable}(hr:Rise t.place.toList) {i j:Nat}(h:t.place[i]?=some j):t.slot j=.live i:=by
 unfold z8Q;rw[below_at _ hr h];simp[h]
theorem YK {t:SetTable}(hd:t.dummies=#[]) {j:Nat}(h:j∉t.place.toList):t.slot j=.empty:=by
 unfold z8Q;have h1:¬ (t.place[below t.place j]?==some j)=true:=λ z=>by
  have:=eq_of_beq z;exact h (by have:=Array.mem_of_getElem? this;simpa using this)
 have h2:z8R t.dummies j=false:=by rw[hd];rfl
 simp only[h1,h2];rfl
def adv (m:Nat) (p:Probe):Probe:=if p.more > 0 then { p with j:=p.j+1,more:=p.more-1 } else { p with j:=(z21 m p.i p.perturb).1,more:=z0N m (z21 m p.i p.perturb).1-(z21 m p.i p.perturb).1,i:=(z21 m p.i p.perturb).1,perturb:=(z21 m p.i p.perturb).2 }
theorem iz (t:SetTable) (p:Probe):t.advance p=adv t.mask p:=by
 unfold SetTable.advance adv;split<;>rfl
def way (m:Nat) (p:Probe):Nat->Probe
 | 0=>p
 | n+1=>way m (adv m p) n
theorem T9 (m:Nat):∀ (n:Nat) (p:Probe),(way m p n).dummy=p.dummy
 | 0,_=>rfl
 | n+1,p=>by
  show (way m (adv m p) n).dummy=_;rw[T9 m n];unfold adv;split<;>rfl
theorem Wm (t:SetTable) (ha:Nat->Int) (h:Int):∀ (n f:Nat) (p:Probe),n<f->(∀ k,k<n->∃ i,t.slot (way t.mask p k).j=.live i/\ha i≠h)->t.slot (way t.mask p n).j=.empty->z2W t ha h f p=some (.empty (way t.mask p n).j p.dummy)
 | 0,f+1,p,_,_,e=>by
  unfold z2W;have e:t.slot p.j=.empty:=e;rw[e];rfl
 | n+1,f+1,p,hn,hk,e=>by
  obtain⟨i,s,d⟩:=hk 0 (by omega);have s:t.slot p.j=.live i:=s;have ih:=Wm t ha h n f (adv t.mask p) (by omega) (λ k hk'=>hk (k+1) (by omega)) e;unfold z2W;rw[s];show (if (ha i==h)=true then _ else z2W t ha h f (t.advance p))=_;rw[if_neg (by simpa using d),iz,ih];rw[show (adv t.mask p).dummy=p.dummy from T9 t.mask 1 p];rfl
theorem Zt (t:SetTable) (ha:Nat->Int) (h:Int):∀ (n f:Nat) (p:Probe) (i:Nat),n<f->(∀ k,k<n->∃ i,t.slot (way t.mask p k).j=.live i/\ha i≠h)->t.slot (way t.mask p n).j=.live i->ha i=h->∃ nx,z2W t ha h f p=some (.candidate (way t.mask p n).j i nx)
 | 0,f+1,p,i,_,_,e,g=>by
  unfold z2W;have e:t.slot p.j=.live i:=e;rw[e];show ∃ nx,(if (ha i==h)=true then _ else _)=_;rw[if_pos (by simpa using g)];exact⟨_,rfl⟩
 | n+1,f+1,p,i',hn,hk,e,g=>by
  obtain⟨i,s,d⟩:=hk 0 (by omega);have s:t.slot p.j=.live i:=s;obtain⟨nx,ih⟩:=Zt t ha h n f (adv t.mask p) i' (by omega) (λ k hk'=>hk (k+1) (by omega)) e g;unfold z2W;rw[s];show ∃ nx,(if (ha i==h)=true then _ else z2W t ha h f (t.advance p))=_;rw[if_neg (by simpa using d),iz,ih];exact⟨nx,rfl⟩
def wayJ (m:Nat) (h:Int) (n:Nat):Nat:=(way m { j:=z1j h%(m+1),more:=z0N m (z1j h%(m+1))-z1j h%(m+1),i:=z1j h%(m+1),perturb:=z1j h,dummy:=none } n).j
def Cov (m:Nat) (h:Int):Prop:=∀ j,j<=m->∃ n,n<10*z22 m/\wayJ m h n=j
structure Tab (t:SetTable) (hs:List Int):Prop where
 len:t.place.toList.length=hs.length
 rise:Rise t.place.toList
 dum:t.dummies=#[]
 mask:∀ j∈t.place.toList,j<=t.mask
 room:hs.length<=t.mask
 far:∀ q∈t.place.toList.zip hs,∃ n,n<10*z22 t.mask/\wayJ t.mask q.2 n=q.1/\∀ k,k<n->wayJ t.mask q.2 k∈t.place.toList
theorem least {P:Nat->Prop}(h:P n):∃ m,m<=n/\P m/\∀ k,k<m->¬ P k:=by
 induction n using Nat.strongRecOn with
 | ind n ih=>
  by_cases c:∃ k,k<n/\P k
  ·obtain⟨k,hk,pk⟩:=c;obtain⟨m,a,b,d⟩:=ih k hk pk;exact⟨m,by omega,b,d⟩
  ·exact⟨n,z06 _,h,λ k hk pk=>c ⟨k,hk,pk⟩⟩
theorem VG {t:SetTable}{hs:List Int}(T:Tab t hs) {j:Nat}(h:j∈t.place.toList):∃ i,i<hs.length/\t.place.toList[i]?=some j/\t.slot j=.live i:=by
 obtain⟨i,hi,e⟩:=z3r.mp h;have e':t.place.toList[i]?=some j:=by rw[z0F hi,e]
 exact⟨i,by rw[<-T.len];exact hi,e',T8 T.rise (by simpa using e')⟩
theorem len_sub:∀ {l m:List Nat},l.Nodup->(∀ x∈l,x∈m)->l.length<=m.length
 | [],m,_,_=>z19 _
 | x::l,m,nd,h=>by
  obtain⟨n1,n2⟩:=z2m.mp nd;have hx:=h x (by simp);have ih:=len_sub (m:=m.erase x) n2 λ y hy=>(z5v (show y≠x from λ z=>n1 (z▸hy))).mpr (h y (by simp[hy]));rw[z5w hx] at ih;have:=z5x hx;simp;omega
theorem cG {m:Nat}(hr:Rise l) (hm:l.length<=m):∃ j,j<=m/\j∉l:=by
 refine z3_ λ c=>?_;have sub:∀ j,j<=m->j∈l:=λ j hj=>z3_ λ z=>c ⟨j,hj,z⟩;have nd:(z0d (m+1)).Nodup:=z4y;have:(z0d (m+1)).length<=l.length:=by
  refine len_sub nd λ x hx=>sub x ?_;have:=z0o.mp hx;omega
 rw[z2B] at this;omega
theorem VH {t:SetTable}{hs:List Int}(T:Tab t hs) (ha:Nat->Int) (he:∀ i h,hs[i]?=some h->ha i=h) (nd:hs.Nodup) {i:Nat}{h:Int}(hi:hs[i]?=some h):∃ j nx,t.probe ha h (t.probeStart h)=some (.candidate j i nx):=by
 have hl:i<t.place.toList.length:=by rw[T.len];exact (z1r.mp hi).1
 have hz:(t.place.toList[i],h)∈t.place.toList.zip hs:=by
  refine z4z.mpr ⟨i,?_⟩;rw[z4A];exact⟨z0F hl,hi⟩
 obtain⟨n,hn,hj,hb⟩:=T.far _ hz;simp only at hj hb;obtain⟨m,hm,⟨i1,s1,g1⟩,hk⟩:=least (P:=λ n=>∃ i,t.slot (wayJ t.mask h n)=.live i/\ha i=h) (n:=n) ⟨i,by rw[hj];exact T8 T.rise (by simp[hl]),he i h hi⟩;have bef:∀ k,k<m->∃ i,t.slot (wayJ t.mask h k)=.live i/\ha i≠h:=λ k hk'=>by
  obtain⟨i2,_,_,s2⟩:=VG T (hb k (by omega));exact⟨i2,s2,λ z=>hk k hk' ⟨i2,s2,z⟩⟩
 obtain⟨nx,e⟩:=Zt t ha h m (10*z22 t.mask) (t.probeStart h) i1 (by omega) bef s1 g1;have mem:wayJ t.mask h m∈t.place.toList:=by
  rcases z8P hm with c | c
  ·exact hb m c
  ·rw[c,hj];exact z1d hl
 obtain⟨i3,l3,p3,s3⟩:=VG T mem;have ei:i1=i3:=by
  have:=s1.symm.trans s3;injection this
 subst ei;have g3:=he i1 _ (z0F l3);have:i1=i:=by
  have e1:hs[i1]?=some h:=by rw[z0F l3,<-g3,g1]
  exact (z7b l3 nd).mp (e1.trans hi.symm)
 subst this;exact⟨_,nx,e⟩
theorem Wn {t:SetTable}{hs:List Int}(T:Tab t hs) (ha:Nat->Int) (he:∀ i h,hs[i]?=some h->ha i=h) {h:Int}(hi:h∉hs) (cv:Cov t.mask h):∃ n,n<10*z22 t.mask/\wayJ t.mask h n∉t.place.toList/\(∀ k,k<n->wayJ t.mask h k∈t.place.toList)/\t.probe ha h (t.probeStart h)=some (.empty (wayJ t.mask h n) none):=by
 obtain⟨j,hj,nj⟩:=cG (m:=t.mask) T.rise (by rw[T.len];exact T.room);obtain⟨n0,hn0,e0⟩:=cv j hj;obtain⟨n,hn,p,hk⟩:=least (P:=λ n=>wayJ t.mask h n∉t.place.toList) (n:=n0) (by rw[e0];exact nj);have bef:∀ k,k<n->wayJ t.mask h k∈t.place.toList:=λ k hk'=>z3_ λ z=>hk k hk' z;refine⟨n,by omega,p,bef,?_⟩;refine Wm t ha h n (10*z22 t.mask) (t.probeStart h) (by omega) (λ k hk'=>?_) (YK T.dum p);obtain⟨i,l,p',s⟩:=VG T (bef k hk');refine⟨i,s,λ z=>hi ?_⟩;have:=he i _ (z0F l);rw[z] at this;rw[this];exact z1d l
theorem R4 {α:Type}(xs:Array α) (p:Nat) (x:α):(insertAt xs p x).toList=xs.toList.take p++x::xs.toList.drop p:=by
 unfold insertAt;simp;rw[z6K];simp
theorem YL {xs:Array Nat}(hr:Rise xs.toList) {j:Nat}(nj:j∉xs.toList):(∀ a∈xs.toList.take (below xs j),a<j)/\∀ a∈xs.toList.drop (below xs j),j<a:=by
 obtain⟨b0,b1,b2⟩:=Ob xs hr j;refine⟨λ a ha=>?_,λ a ha=>?_⟩
 ·obtain⟨i,hi,rfl⟩:=z3r.mp ha;rw[z1i] at hi;rw[z8S];have:=b1 i (by simp at hi;omega) (by omega);simpa using this
 ·have hm:a∈xs.toList:=z7c ha;obtain⟨i,hi,rfl⟩:=z3r.mp ha;rw[z2P] at hi;rw[List.getElem_drop];have:=b2 (below xs j+i) (by simp at hi;omega) (by omega);have ne:¬ xs.toList[below xs j+i]'(by omega)=j:=λ z=>nj (z▸z1d _);simp at this ne ⊢;omega
theorem i_ {α β:Type}{l:List α}{m:List β}{p:Nat}{q:α×β}(h:q∈(l.take p).zip (m.take p)):q∈l.zip m:=by
 obtain⟨i,hi⟩:=z4z.mp h;rw[z4A] at hi;have hp:i<p:=by
  have:=(z1r.mp hi.1).1;rw[z1i] at this;omega
 rw[z6q hp,z6q hp] at hi;exact z4z.mpr ⟨i,z4A.mpr hi⟩
theorem jA {α β:Type}{l:List α}{m:List β}{p:Nat}{q:α×β}(h:q∈(l.drop p).zip (m.drop p)):q∈l.zip m:=by
 obtain⟨i,hi⟩:=z4z.mp h;rw[z4A,z6I,z6I] at hi;exact z4z.mpr ⟨p+i,z4A.mpr hi⟩
theorem Tab.put {t:SetTable}{hs:List Int}(T:Tab t hs) {h:Int}{n j:Nat}(hn:n<10*z22 t.mask) (ej:wayJ t.mask h n=j) (hj:j∉t.place.toList) (hm:j<=t.mask) (hb:∀ k,k<n->wayJ t.mask h k∈t.place.toList) (rm:hs.length+1<=t.mask) :
  Tab (t.put j).1 (hs.take (t.put j).2++h::hs.drop (t.put j).2)/\(t.put j).2<=hs.length:=by
 have hp:(t.put j).2=below t.place j:=rfl;have hl:(t.put j).1.place.toList=t.place.toList.take (below t.place j)++j::t.place.toList.drop (below t.place j):=R4 _ _ _;have hk:(t.put j).1.mask=t.mask:=rfl;have hd:(t.put j).1.dummies=#[]:=by
  show (if z8R t.dummies j then _ else t.dummies)=_;rw[T.dum];rfl
 obtain⟨b0,b1,b2⟩:=Ob t.place T.rise j;obtain⟨s1,s2⟩:=YL T.rise hj;have len:=T.len;have b0':below t.place j<=hs.length:=by rw[<-len];simpa using b0
 have sub:∀ x∈t.place.toList,x∈(t.put j).1.place.toList:=λ x hx=>by
  rw[hl];rw[<-z5y (below t.place j) t.place.toList] at hx
  rcases z0U.mp hx with hx | hx
  ·exact z66 _ hx
  ·exact z28 _ (z0y _ hx)
 refine⟨⟨?_,?_,hd,?_,?_,?_⟩,by rw[hp];exact b0'⟩
 ·rw[hl,hp];simp only[z0L,z1i,z0u,z2P];omega
 ·rw[hl];have r:=T.rise;rw[<-z5y (below t.place j) t.place.toList] at r;obtain⟨r1,r2,r3⟩:=z8T.mp r;refine z8T.mpr ⟨r1,z23.mpr ⟨s2,r2⟩,λ a ha b hb'=>?_⟩
  rcases z0i.mp hb' with z | z
  ·rw[z];exact s1 a ha
  ·exact r3 a ha b z
 ·intro x hx;rw[hl] at hx;rw[hk]
  rcases z0U.mp hx with hx | hx
  ·exact T.mask x (z5z hx)
  ·rcases z0i.mp hx with z | z
   ·rw[z];exact hm
   ·exact T.mask x (z7c z)
 ·rw[hk,hp];simp only[z0L,z1i,z0u,z2P];omega
 ·intro q hq;rw[hl,hp,List.zip_append (by simp only[z1i];omega),z4S] at hq;rw[hk];have old:∀ q∈t.place.toList.zip hs,∃ n,n<10*z22 t.mask/\wayJ t.mask q.2 n=q.1/\∀ k,k<n->wayJ t.mask q.2 k∈(t.put j).1.place.toList:=λ q hq=>by
   obtain⟨n,a,b,c⟩:=T.far q hq;exact⟨n,a,b,λ k hk=>sub _ (c k hk)⟩
  rcases z0U.mp hq with hq | hq
  ·exact old q (i_ hq)
  ·rcases z0i.mp hq with z | z
   ·rw[z];exact⟨n,hn,ej,λ k hk=>sub _ (hb k hk)⟩
   ·exact old q (jA z)
def stA (m i pt:Nat):Probe:={ j:=i,more:=z0N m i-i,i:=i,perturb:=pt,dummy:=none }
theorem Oc (m:Nat):∀ (a b:Nat) (p:Probe),way m p (a+b)=way m (way m p a) b
 | 0,b,p=>by rw[z1R];rfl
 | a+1,b,p=>by
  rw[Nat.add_right_comm];exact Oc m a b (adv m p)
theorem VJ (m i pt:Nat):∀ (k L:Nat),k<=L->∀ c,way m { j:=i+c,more:=L,i:=i,perturb:=pt,dummy:=none } k={ j:=i+c+k,more:=L-k,i:=i,perturb:=pt,dummy:=none }
 | 0,L,_,c=>rfl
 | k+1,L,h,c=>by
  show way m (adv m _) k=_;have:adv m { j:=i+c,more:=L,i:=i,perturb:=pt,dummy:=none }={ j:=i+(c+1),more:=L-1,i:=i,perturb:=pt,dummy:=none }:=by
   unfold adv;rw[if_pos (show L > 0 by omega)];simp[z4Q]
  rw[this,VJ m i pt k (L-1) (by omega) (c+1)];simp;omega
theorem R5 (m i pt:Nat):way m (stA m i pt) (z0N m i-i+1)=stA m (z21 m i pt).1 (z21 m i pt).2:=by
 rw[Oc];have:=VJ m i pt (z0N m i-i) (z0N m i-i) (z06 _) 0;rw[z8U] at this;unfold stA;rw[this];show adv m _=_;unfold adv;rw[if_neg (by simp)]
theorem VL (m i pt k:Nat) (h:k<=z0N m i-i):(way m (stA m i pt) k).j=i+k:=by
 have:=VJ m i pt k (z0N m i-i) h 0;rw[z8U] at this;unfold stA;rw[this]
theorem R6 (m i:Nat):z0N m i+1-i<=10/\i<=z0N m i:=by
 unfold z0N;split<;>omega
def Full (ow:Array (Option Nat)) (j:Nat):Prop:=(ow.getD j (some 0)).isNone=false
theorem Zu (m:Nat) (ow:Array (Option Nat)):∀ (f i pt j:Nat),z4B m ow f i pt=some j->∃ n,n<10*f/\(way m (stA m i pt) n).j=j/\(ow.getD j (some 0)).isNone=true/\∀ k,k<n->Full ow (way m (stA m i pt) k).j
 | 0,i,pt,j,h=>by cases h
 | f+1,i,pt,j,h=>by
  obtain⟨r1,r2⟩:=R6 m i;unfold z4B at h;cases e:(z0d (z0N m i+1-i)).find? λ k=>(ow.getD (i+k) (some 0)).isNone with
  | some k=>
   rw[e] at h;obtain rfl:i+k=j:=z0w h;have hk:=z5A e;rw[z0o] at hk;have hp:=z7d e;refine⟨k,by omega,VL m i pt k (by omega),hp,λ k' hk'=>?_⟩;rw[VL m i pt k' (by omega)];obtain⟨as,bs,e1,e2⟩:=(List.find?_eq_some_iff_append.mp e).2;have:k'∈as:=by
    have la:as.length=k:=by
     have:=congrArg (λ l=>l[as.length]?) e1;simp only[z1Y (z06 _),z3k,z1S] at this;rw[z5B (by
      have:=congrArg z0P e1;simp at this;omega)] at this
     exact z0w this
    have:=congrArg (λ l=>l[k']?) e1;simp only[z2c (show k'<as.length by omega)] at this;rw[z5B (by omega)] at this;exact z3d this.symm
   have:=e2 k' this;unfold Full;simpa using this
  | none=>
   rw[e] at h;obtain⟨n,a,b,c,d⟩:=Zu m ow f _ _ j h;refine⟨z0N m i-i+1+n,by omega,by rw[Oc,R5];exact b,c,λ k hk=>?_⟩
   by_cases z:k<=z0N m i-i
   ·rw[VL m i pt k z];have:=z7e.mp e k (by rw[z0o];omega);exact z8V.mpr this
   ·have e2:k=z0N m i-i+1+(k-(z0N m i-i+1)):=by omega
    rw[e2,Oc,R5];exact d _ (by omega)
def M7 (m:Nat) (j:Nat):Nat->Nat->Nat->Bool
 | 0,_,_=>false
 | f+1,i,pt=>(decide (i<=j)&&decide (j<=z0N m i))||M7 m j f (z21 m i pt).1 (z21 m i pt).2
theorem T_ (m:Nat) (ow:Array (Option Nat)) (j:Nat) (hj:(ow.getD j (some 0)).isNone=true):∀ (f i pt:Nat),M7 m j f i pt=true->∃ x,z4B m ow f i pt=some x
 | 0,i,pt,h=>by cases h
 | f+1,i,pt,h=>by
  obtain⟨r1,r2⟩:=R6 m i;unfold z4B;cases e:(z0d (z0N m i+1-i)).find? λ k=>(ow.getD (i+k) (some 0)).isNone with
  | some k=>exact⟨_,rfl⟩
  | none=>
   unfold M7 at h
   rcases z8W.mp h with h | h
   ·rw[z0Q,decide_eq_true_eq,decide_eq_true_eq] at h;have:=z7e.mp e (j-i) (by rw[z0o];omega);rw[show i+(j-i)=j by omega] at this;exact absurd hj this
   ·exact T_ m ow j hj f _ _ h
theorem Zv (m j:Nat):∀ (f i pt:Nat),M7 m j f i pt=true->∃ n,n<10*f/\(way m (stA m i pt) n).j=j
 | 0,i,pt,h=>by cases h
 | f+1,i,pt,h=>by
  obtain⟨r1,r2⟩:=R6 m i;unfold M7 at h
  rcases z8W.mp h with h | h
  ·rw[z0Q,decide_eq_true_eq,decide_eq_true_eq] at h;exact⟨j-i,by omega,by rw[VL m i pt (j-i) (by omega)];omega⟩
  ·obtain⟨n,a,b⟩:=Zv m j f _ _ h;exact⟨z0N m i-i+1+n,by omega,by rw[Oc,R5];exact b⟩
def CovR (m:Nat) (h:Int):Prop:=∀ j,j<=m->M7 m j (z22 m) (z1j h%(m+1)) (z1j h)=true
theorem CovR.cov {m:Nat}{h:Int}(c:CovR m h):Cov m h:=λ j hj=>Zv m j _ _ _ (c j hj)
theorem vV {m:Nat}{p:Probe}(h:p.j+p.more<=m):(adv m p).j+(adv m p).more<=m:=by
 unfold adv;split
 ·simp;omega
 ·have hl:(z21 m p.i p.perturb).1<=m:=z4C (z5C _ (z8X m));obtain⟨r1,r2⟩:=R6 m (z21 m p.i p.perturb).1;have:z0N m (z21 m p.i p.perturb).1<=m:=by
   unfold z0N;split<;>omega
  simp;omega
theorem jB {m:Nat}:∀ (n:Nat) {p:Probe},p.j+p.more<=m->(way m p n).j<=m
 | 0,p,h=>by show p.j<=m;omega
 | n+1,p,h=>jB n (vV h)
theorem VM (m:Nat) (h:Int) (n:Nat):wayJ m h n<=m:=by
 refine jB n ?_;have hl:z1j h%(m+1)<=m:=z4C (z5C _ (z8X m));obtain⟨r1,r2⟩:=R6 m (z1j h%(m+1));have:z0N m (z1j h%(m+1))<=m:=by
  unfold z0N;split<;>omega
 show z1j h%(m+1)+(z0N m (z1j h%(m+1))-z1j h%(m+1))<=m;omega
structure Ow (m:Nat) (ow:Array (Option Nat)) (hs:List Int):Prop where
 size:ow.size=m+1
 own:∀ i,i<hs.length->∃ j:Nat,ow[j]?=some (some i)
 lt:∀ (j i:Nat),ow[j]?=some (some i)->i<hs.length
 inj:∀ (j k i:Nat),ow[j]?=some (some i)->ow[k]?=some (some i)->j=k
 far:∀ (j i:Nat) (h:Int),ow[j]?=some (some i)->hs[i]?=some h->∃ n,n<10*z22 m/\wayJ m h n=j/\∀ k,k<n->∃ x,ow[wayJ m h k]?=some (some x)
theorem UG {m:Nat}(hz:ow.size=m+1) {j:Nat}(hj:j<=m) (h:Full ow j):∃ x,ow[j]?=some (some x):=by
 have hl:j<ow.size:=by omega
 unfold Full at h;rw[show ow.getD j (some 0)=ow[j] by simp[hl]] at h;cases e:ow[j] with
 | none=>rw[e] at h;cases h
 | some x=>exact⟨x,by simp[hl,e]⟩
theorem Ow.free {m:Nat}{hs:List Int}(O:Ow m ow hs) (hl:hs.length<=m):∃ j,j<=m/\(ow.getD j (some 0)).isNone=true:=by
 refine z3_ λ c=>?_;have al:∀ j,j<=m->∃ x,ow[j]?=some (some x):=λ j hj=>UG O.size hj (by
  unfold Full;exact z8V.mpr λ z=>c ⟨j,hj,z⟩)
 have nd:((z0d (m+1)).map λ j=>(ow.getD j none).getD 0).Nodup:=by
  rw[z2e,z1B];refine z2X (R:=λ a b=>a<b) (λ {a b} ha hb hab z=>?_) z8Y;have ha:=z0o.mp ha;have hb:=z0o.mp hb;obtain⟨x,hx⟩:=al a (by omega);obtain⟨y,hy⟩:=al b (by omega);have ex:(ow.getD a none).getD 0=x:=by simp[hx]
  have ey:(ow.getD b none).getD 0=y:=by simp[hy]
  rw[ex,ey] at z;subst z;have:=O.inj a b x hx hy;omega
 have:=len_sub (m:=z0d hs.length) nd λ y hy=>by
  obtain⟨j,hj,rfl⟩:=z0f.mp hy;obtain⟨x,hx⟩:=al j (by have:=z0o.mp hj;omega);rw[show (ow.getD j none).getD 0=x by simp[hx]];exact z0o.mpr (O.lt j x hx)
 simp at this;omega
def Q9 (m:Nat) (acc:Option (Array (Option Nat)×Nat)) (h:Int):Option (Array (Option Nat)×Nat):=do
 let (owner,k) <-acc
 let j <-z4B m owner (z22 m) (z1j h%(m+1)) (z1j h)
 pure (owner.setIfInBounds j (some k),k+1)
theorem Ow.add {m:Nat}{hs:List Int}(O:Ow m ow hs) (hl:hs.length<=m) {h:Int}(cv:CovR m h):∃ ow',Q9 m (some (ow,hs.length)) h=some (ow',(hs++[h]).length)/\Ow m ow' (hs++[h]):=by
 obtain⟨j0,hj0,f0⟩:=O.free hl;obtain⟨j,e⟩:=T_ m ow j0 f0 _ _ _ (cv j0 hj0);obtain⟨n,hn,hj,fr,bf⟩:=Zu m ow _ _ _ j e;have ej:wayJ m h n=j:=hj;have jm:j<=m:=ej▸VM m h n;have jl:j<ow.size:=by rw[O.size];omega
 have nj:ow[j]?=some none:=by
  rw[show ow.getD j (some 0)=ow[j] by simp[jl]] at fr;have:ow[j]=none:=by simpa using fr
  simp[jl,this]
 have at_:∀ k,(ow.setIfInBounds j (some hs.length))[k]?=if j=k then some (some hs.length) else ow[k]?:=λ k=>by
  rw[Array.getElem?_setIfInBounds]
  by_cases c:j=k
  ·subst c;simp[jl]
  ·simp[c]
 refine⟨ow.setIfInBounds j (some hs.length),?_,⟨by simp[O.size],λ i hi=>?_,λ k i hk=>?_,λ a b i ha hb=>?_,λ k i g hk hg=>?_⟩⟩
 ·unfold Q9;simp only[z8Z,z0M,e];simp
 ·rw[z0L,z4o] at hi
  by_cases c:i=hs.length
  ·exact⟨j,by rw[at_,if_pos rfl,c]⟩
  ·obtain⟨k,hk⟩:=O.own i (by omega);refine⟨k,?_⟩;rw[at_,if_neg (λ z=>?_),hk];rw[<-z,nj] at hk;cases hk
 ·rw[at_] at hk;rw[z0L,z4o]
  by_cases c:j=k
  ·rw[if_pos c] at hk;have:=z0w (z0w hk);omega
  ·rw[if_neg c] at hk;have:=O.lt k i hk;omega
 ·rw[at_] at ha hb
  by_cases c:j=a
  ·by_cases d:j=b
   ·omega
   ·rw[if_pos c] at ha;rw[if_neg d] at hb;have:=z0w (z0w ha);have:=O.lt b i hb;omega
  ·by_cases d:j=b
   ·rw[if_neg c] at ha;rw[if_pos d] at hb;have:=z0w (z0w hb);have:=O.lt a i ha;omega
   ·rw[if_neg c] at ha;rw[if_neg d] at hb;exact O.inj a b i ha hb
 ·rw[at_] at hk;have up:∀ k:Nat,(∃ x,ow[k]?=some (some x))->∃ x,(ow.setIfInBounds j (some hs.length))[k]?=some (some x):=λ k ⟨x,hx⟩=>by
   rw[at_]
   by_cases c:j=k
   ·exact⟨_,if_pos c⟩
   ·exact⟨x,by rw[if_neg c,hx]⟩
  by_cases c:j=k
  ·rw[if_pos c] at hk;have ei:=z0w (z0w hk);subst ei;rw[z1Y (z06 _),z3k] at hg;have eg:h=g:=by simpa using hg
   subst eg;exact⟨n,hn,by rw[ej];exact c,λ k hk=>up _ (UG O.size (VM m h k) (bf k hk))⟩
  ·rw[if_neg c] at hk;have hi:=O.lt k i hk;rw[z2c hi] at hg;obtain⟨n',a,b,d⟩:=O.far k i g hk hg;exact⟨n',a,b,λ k hk=>up _ (d k hk)⟩
theorem Wo (m:Nat):∀ (r hs:List Int) (ow:Array (Option Nat)),Ow m ow hs->hs.length+r.length<=m->(∀ h∈r,CovR m h)->∃ ow',r.foldl (Q9 m) (some (ow,hs.length))=some (ow',(hs++r).length)/\Ow m ow' (hs++r)
 | [],hs,ow,O,_,_=>⟨ow,by simp,by simpa using O⟩
 | h::r,hs,ow,O,hl,hc=>by
  simp only[z0u] at hl;obtain⟨ow1,e1,O1⟩:=O.add (by omega) (hc h (by simp));obtain⟨ow2,e2,O2⟩:=Wo m r (hs++[h]) ow1 O1 .(17) λ g hg=>hc g (by simp[hg]);refine⟨ow2,?_,by simpa using O2⟩;rw[List.foldl_cons,e1,e2];simp
theorem cH (m:Nat) (hs:Array Int) (hl:hs.size<=m) (hc:∀ h∈hs.toList,CovR m h):∃ ow,z8_ m hs=some ow/\Ow m ow hs.toList:=by
 have no:∀ (j i:Nat),(z4D (m+1) (none:Option Nat))[j]?=some (some i)->False:=λ j i hj=>by
  rw[Array.getElem?_replicate] at hj;split at hj
  ·cases hj
  ·cases hj
 have O0:Ow m (z4D (m+1) none) []:=⟨by simp,λ i hi=>by simp at hi,λ j i hj=>(no j i hj).elim,λ j k i hj=>(no j i hj).elim,λ j i h hj=>(no j i hj).elim⟩;obtain⟨ow,e,O⟩:=Wo m hs.toList [] _ O0 (by simpa using hl) hc;refine⟨ow,?_,by simpa using O⟩;have:z8_ m hs=(hs.foldl (Q9 m) (some (z4D (m+1) none,0))).map (·.1):=rfl;rw[this,<-Array.foldl_toList];rw[show (some (z4D (m+1) none,0):Option (Array (Option Nat)×Nat))=some (z4D (m+1) none,([]:List Int).length) from rfl,e];rfl
theorem pA (m fi mv:Nat) (ld pl:Bool) (es:Array (Int×z00)) (hl:es.size<=m) (hc:∀ e∈es.toList,CovR m e.1):∃ t ord,z90 m fi mv ld pl (es.map (·.1))=some (t,ord)/\t.mask=m/\t.led=ld/\t.plain=pl/\(ord.filterMap (es[·]?)).toList.Perm es.toList/\Tab t ((ord.filterMap (es[·]?)).toList.map (·.1)):=by
 obtain⟨ow,e,O⟩:=cH m (es.map (·.1)) (by simpa using hl) (λ h hh=>by
  rw[z8z] at hh;obtain⟨x,hx,rfl⟩:=z0f.mp hh;exact hc x hx)
 have hlen:(es.map (·.1)).toList.length=es.size:=by simp
 generalize hlive:((z0d (m+1)).filterMap λ j=>(ow.getD j none).map (j,·))=live;have mem:∀ (j i:Nat),(j,i)∈live↔ow[j]?=some (some i):=λ j i=>by
  rw[<-hlive,z6b];constructor
  ·rintro⟨k,hk,ek⟩;have hk:=z0o.mp hk;have hs:k<ow.size:=by rw[O.size];exact hk
   rw[show ow.getD k none=ow[k] by simp[hs]] at ek;cases ec:ow[k] with
   | none=>rw[ec] at ek;cases ek
   | some x=>
    rw[ec] at ek;have:=z0w ek;simp only[z3B] at this;obtain⟨rfl,rfl⟩:=this;simp[hs,ec]
  ·intro h;obtain⟨hs,eh⟩:=z7a.mp h;refine⟨j,z0o.mpr (by rw[<-O.size];exact hs),?_⟩;rw[show ow.getD j none=ow[j] by simp[hs],eh];rfl
 have rise:Rise (live.map (·.1)):=by
  rw[<-hlive,Rise,z1B];refine List.Pairwise.filterMap _ (R:=λ a b=>a<b) (λ a b hab x hx y hy=>?_) z8Y;obtain⟨u,_,rfl⟩:=z1U.mp hx;obtain⟨v,_,rfl⟩:=z1U.mp hy;exact hab
 have nd:(live.map (·.2)).Nodup:=by
  rw[z2e,z1B];rw[Rise,z1B] at rise;refine z2X (λ {a b} ha hb hab z=>?_) rise;have h1:=(mem a.1 a.2).mp ha;have h2:=(mem b.1 b.2).mp hb;rw[<-z] at h2;have:=O.inj _ _ _ h1 h2;omega
 have lt:∀ q∈live,q.2<es.size:=λ q hq=>by
  have:=O.lt q.1 q.2 ((mem q.1 q.2).mp hq)
  rwa [hlen] at this
 have per:(live.map (·.2)).Perm (z0d es.size):=by
  refine (List.perm_ext_iff_of_nodup nd z4y).mpr λ i=>?_;rw[z0o];constructor
  ·intro h;obtain⟨q,hq,rfl⟩:=z0f.mp h;exact lt q hq
  ·intro h;obtain⟨j,hj⟩:=O.own i (by rw[hlen];exact h);exact z0f.mpr ⟨(j,i),(mem j i).mpr hj,rfl⟩
 have fm:((live.map (·.2)).toArray.filterMap (es[·]?)).toList=live.map λ q=>es.getD q.2 (0,.none):=by
  rw[Array.toList_filterMap];show (live.map (·.2)).filterMap _=_;rw[z6y];have:∀ l:List (Nat×Nat),(∀ q∈l,q.2<es.size)->l.filterMap ((λ i=>es[i]?) ∘ λ x=>x.2)=l.map λ q=>es.getD q.2 (0,.none):=λ l=>by
   induction l with
   | nil=>intro _;rfl
   | cons q r ih=>
    intro h;have hq:=h q (by simp);rw[List.filterMap_cons_some (b:=es.getD q.2 (0,.none)) (by simp[hq]),ih λ y hy=>h y (by simp[hy])];rfl
  exact this live lt
 refine⟨{ mask:=m,place:=(live.map (·.1)).toArray,dummies:=#[],finger:=fi,led:=ld,moves:=mv,plain:=pl },(live.map (·.2)).toArray,?_,rfl,rfl,rfl,?_,?_⟩
 ·unfold z90;rw[e];simp only[z8Z,z0M,hlive];rfl
 ·rw[fm];have e1:(live.map λ q=>es.getD q.2 (0,.none))=(live.map (·.2)).map λ i=>es.getD i (0,.none):=by rw[z0p];rfl
  have e2:(z0d es.size).map (λ i=>es.getD i (0,.none))=es.toList:=by
   apply z91
   ·simp
   ·intro i h1 h2;simp at h1;simp[h1]
  rw[e1,<-e2];exact per.map _
 ·rw[fm,z0p];have zl:∀ l:List (Nat×Nat),(l.map (·.1)).zip (l.map ((λ x:Int×z00=>x.1) ∘ λ q=>es.getD q.2 (0,.none)))=l.map λ q=>(q.1,(es.getD q.2 (0,.none)).1):=λ l=>by
   induction l with
   | nil=>rfl
   | cons q r ih=>rw[z0c,z0c,z4S,ih];rfl
  refine⟨by simp,rise,rfl,λ j hj=>?_,?_,λ q hq=>?_⟩
  ·have hj:j∈live.map (·.1):=hj;obtain⟨p,hp,rfl⟩:=z0f.mp hj;have:=(z7a.mp ((mem p.1 p.2).mp hp)).1;rw[O.size] at this;show p.1<=m;omega
  ·rw[z07];have:=per.length_eq;rw[z07,z2B] at this;show live.length<=m;omega
  ·have hq:q∈(live.map (·.1)).zip (live.map ((λ x:Int×z00=>x.1) ∘ λ q=>es.getD q.2 (0,.none))):=hq;rw[zl] at hq;obtain⟨p,hp,rfl⟩:=z0f.mp hq;have hm:=(mem p.1 p.2).mp hp;have hlt:=lt p hp;obtain⟨n,a,b,c⟩:=O.far p.1 p.2 (es.getD p.2 (0,.none)).1 hm (by simp[hlt]);refine⟨n,a,b,λ k hk=>?_⟩;obtain⟨x,hx⟩:=c k hk;exact z0f.mpr ⟨(_,x),(mem _ x).mpr hx,rfl⟩
end PV
namespace PV
open PySem PySem.Spec L2
abbrev Pr5:=Nat×Nat
def kk (p:Pr5):List Key:=[.inl (p.1:Int),.inl (p.2:Int)]
def hP (p:Pr5):Int:=z5W (z4P [(p.1:Int),(p.2:Int)])
def In5 (p:Pr5):Prop:=p.1<5/\p.2<5
def covB (m:Nat) (h:Int):Bool:=(z0d (m+1)).all λ j=>M7 m j (z22 m) (z1j h%(m+1)) (z1j h)
theorem all5:((z0d 5).all λ a=>(z0d 5).all λ b=>covB 7 (hP (a,b))&&covB 31 (hP (a,b)))=true:=by decide +kernel
theorem dif5:((z0d 25).all λ a=>(z0d 25).all λ b=>a==b||!(hP (a/5,a%5)==hP (b/5,b%5)))=true:=by decide +kernel
theorem cov5 {p:Pr5}(h:In5 p):CovR 7 (hP p)/\CovR 31 (hP p):=by
 have:=z1c.mp (z1c.mp all5 p.1 (z0o.mpr h.1)) p.2 (z0o.mpr h.2);rw[z0Q] at this;exact⟨λ j hj=>z1c.mp this.1 j (z0o.mpr (by omega)),λ j hj=>z1c.mp this.2 j (z0o.mpr (by omega))⟩
theorem inj5 {p q:Pr5}(h:In5 p) (k:In5 q) (e:hP p=hP q):p=q:=by
 obtain⟨a,b⟩:=p;obtain⟨c,d⟩:=q;obtain⟨h1,h2⟩:a<5/\b<5:=h;obtain⟨k1,k2⟩:c<5/\d<5:=k;have:=z1c.mp (z1c.mp dif5 (5*a+b) (z0o.mpr (by omega))) (5*c+d) (z0o.mpr (by omega));rw[show (5*a+b)/5=a by omega,show (5*a+b)%5=b by omega,show (5*c+d)/5=c by omega,show (5*c+d)%5=d by omega,e] at this;simp at this;have e1:a=c:=by omega
 have e2:b=d:=by omega
 rw[e1,e2]
section
variable {A:z0a}
theorem pB {p:Pr5}(h:In5 p):z43 (Aq prog w) (kk p)=hP p:=by
 have e:∀ n:Nat,n<5->(Aq prog w).hash (.inl (n:Int))=(n:Int):=λ n hn=>by
  match n,hn with
  | 0,_=>rfl
  | 1,_=>rfl
  | 2,_=>rfl
  | 3,_=>rfl
  | 4,_=>rfl
 unfold z43 hP kk;simp only[z0c,z1b,e p.1 h.1,e p.2 h.2]
theorem vW {p q:Pr5}(e:kk p=kk q):p=q:=by
 unfold kk at e;injection e with e1 e2
 injection e2 with e2 _
 have h1:=z47 e1;have h2:=z47 e2;exact z3e (by omega) (by omega)
abbrev IsP (prog:z0s) (w:z0k) (h:Heap) (p:Pr5) (b:Addr):Prop:=In5 p/\z4O (Aq prog w) h (kk p) b
theorem IsP.keep {g:Heap}{p:Pr5}(x:IsP prog w h p b) (k:∀ o,h.get? b=some o->g.get? b=some o):IsP prog w g p b:=by
 obtain⟨i,o,us,n,g0,r⟩:=x;exact⟨i,o,us,n,k o g0,r⟩
theorem IsP.ne {p:Pr5}{t:SetTable}(x:IsP prog w h p b) (g:h.get? a=some o) (d:o.data=.set es ep t):b≠a:=λ z=>by
 subst z;obtain⟨_,o2,us,n,g2,_,d2,_⟩:=x;cases g.symm.trans g2;cases d.symm.trans d2
structure FP (prog:z0s) (w:z0k) (h:Heap) (es:Array (Int×z00)) (t:SetTable) (qs:List .(39)):Prop where
 ent:es.toList=qs.map λ x=>(hP x.1,z0b x.2)
 isp:∀ x∈qs,IsP prog w h x.1 x.2
 nd:(qs.map (·.1)).Nodup
 tab:Tab t (es.toList.map (·.1))
 msk:(t.mask=7/\qs.length<=4)∨(t.mask=31/\qs.length<=18)
 led:btx w=false->t.led=true
 pln:t.plain=true
def SetP (prog:z0s) (w:z0k) (B:Addr->Prop) (h:Heap) (a:Addr) (ps:List Pr5):Prop:=∃ es t qs,ObX h a es t/\FP prog w h es t qs/\(qs.map (·.1)).Perm ps/\∀ x∈qs,B x.2
theorem FP.len {t:SetTable}{qs:List .(39)}(f:FP prog w h es t qs):es.size=qs.length:=by
 have:=congrArg z0P f.ent;simpa using this
theorem FP.fits {h:Heap}{es:Array (Int×z00)}{t:SetTable}{qs:List .(39)}(f:FP prog w h es t qs):t.fits es.size=true:=by
 have l:=f.tab.len;rw[z07,z0Y,z0Y] at l;have r:=f.tab.room;rw[z07,z0Y] at r;unfold z92 z93;rw[f.tab.dum];simp[l,r]
theorem FP.hs {t:SetTable}{qs:List .(39)}(f:FP prog w h es t qs):es.toList.map (·.1)=qs.map λ x=>hP x.1:=by
 rw[f.ent,z0p];rfl
theorem FP.hnd {t:SetTable}{qs:List .(39)}(f:FP prog w h es t qs):(es.toList.map (·.1)).Nodup:=by
 rw[f.hs];have nd:=f.nd;rw[z2e,z1B] at nd ⊢;exact z2X (λ {a b} ha hb hab z=>hab (inj5 (f.isp a ha).1 (f.isp b hb).1 z)) nd
theorem FP.keep {h g:Heap}{es:Array (Int×z00)}{t:SetTable}{qs:List .(39)}(f:FP prog w h es t qs) (k:∀ x∈qs,∀ o,h.get? x.2=some o->g.get? x.2=some o):FP prog w g es t qs:=⟨f.ent,λ x hx=>(f.isp x hx).keep (k x hx),f.nd,f.tab,f.msk,f.led,f.pln⟩
theorem FP.odd {t:SetTable}{qs:List .(39)}(f:FP prog w h es t qs):t.gaveWay=false:=by
 unfold SetTable.gaveWay
 rcases f.msk with ⟨e,_⟩ | ⟨e,_⟩<;>rw[e]<;>rfl
theorem FP.cov {t:SetTable}{qs:List .(39)}(f:FP prog w h es t qs) {p:Pr5}(hp:In5 p):CovR t.mask (hP p):=by
 rcases f.msk with ⟨e,_⟩ | ⟨e,_⟩<;>rw[e]
 ·exact (cov5 hp).1
 ·exact (cov5 hp).2
theorem Zw (n:Nat) {p:Pr5}{b:Addr}{Q:Bool->z03->Prop}(x:IsP prog w s.heap p b) (k:Q false s):z02 (z04 prog w) A (z5D (n+1) (.ref b)) Q E s:=by
 have ty:=x.2.typeIs;obtain⟨_,o,us,m,g,_,d,i⟩:=x;unfold z5D;refine z01 (z4l ty ?_);show z02 _ _ (if ("tuple"=="tuple")=true then _ else _) _ _ s;rw[if_pos (show (("tuple":String)=="tuple")=true by decide)];refine z01 (z05 ?_);simp only[z25,z0G,if_false];refine z01 (z1T g d ?_);dsimp only;refine z01 ?_;rw[<-z45];refine z33 _ (λ r q z=>q.1=none/\z=s/\∀ v∈r,z5Z v=true) _ ?_ ?_ _ _ ⟨rfl,rfl,i.byValue⟩
 ·rintro v r q z ⟨e,rfl,al⟩;have cv:=al v (by simp);have:z5D n v=pure false:=by
   cases v with
   | ref a=>cases cv
   | _=>first | rfl | (unfold z5D;rfl)
  rw[this];refine z01 (z05 ?_);simp only[z0G,if_false];exact z05 ⟨rfl,rfl,λ u hu=>al u (by simp[hu])⟩
 ·rintro⟨q1,q2⟩ z ⟨e,rfl,_⟩;simp only at e;subst e;exact z05 k
theorem vX {p:Pr5}(x:IsP prog w s.heap p b):∀ (vs:List z00) {Q:Bool->z03->Prop},(∀ v∈vs,∃ q c,v=.ref c/\IsP prog w s.heap q c)->Q false s->z02 (z04 prog w) A (z94 (.ref b) vs) Q E s:=by
 intro vs Q hv k;unfold z94;refine z01 ?_;refine z33 _ (λ r q z=>q.1=none/\z=s/\∀ v∈r,∃ q c,v=.ref c/\IsP prog w s.heap q c) _ ?_ ?_ _ _ ⟨rfl,rfl,hv⟩
 ·rintro v r q z ⟨e,rfl,al⟩;obtain⟨q2,c,rfl,y⟩:=al v (by simp);have al':∀ v∈r,∃ q c,v=.ref c/\IsP prog w z.heap q c:=λ u hu=>al u (by simp[hu]);dsimp only
  by_cases bc:(b==c)=true
  ·rw[if_pos (by simp[bc])];exact z05 ⟨rfl,rfl,al'⟩
  ·rw[if_neg (by simp[bc,z5Z])];refine z01 (z95 x.2 ?_);simp only[z25,z0G,if_false];refine z01 (z95 y.2 ?_);simp only[z25,z0G,if_false];refine z01 (Zw 7 x ?_);simp only[z0G,if_false];refine z01 (Zw 7 y ?_);simp only[z0G,if_false];exact z05 ⟨rfl,rfl,al'⟩
 ·rintro⟨q1,q2⟩ z ⟨e,rfl,_⟩;simp only at e;subst e;exact z05 k
theorem xq {p:Pr5}{Q:Bool->z03->Prop}(x:IsP prog w s.heap p b) (k:Q true s):z02 (z04 prog w) A (z5E 8 (.ref b)) Q E s:=by
 have ty:=x.2.typeIs;obtain⟨_,o,us,m,g,_,d,i⟩:=x;unfold z5E;refine z01 (z2r ty z44.lookup ?_);dsimp only;refine z01 (z1T g d ?_);refine z01 ?_;show z02 _ _ (forIn us _ _) _ _ s;rw[<-z45];refine z33 _ (λ r q z=>q.1=none/\z=s/\∀ v∈r,∃ i t,v=.int i t) _ ?_ ?_ _ _ ⟨rfl,rfl,?_⟩
 ·rintro v r q z ⟨e,rfl,al⟩;obtain⟨j,t,rfl⟩:=al v (by simp);have:z5E 7 (.int j t)=pure true:=by unfold z5E;rfl
  rw[this];refine z01 (z05 ?_);simp only[z25,z0G,if_false];exact z05 ⟨rfl,rfl,λ u hu=>al u (by simp[hu])⟩
 ·rintro⟨q1,q2⟩ z ⟨e,rfl,_⟩;simp only at e;subst e;exact z05 k
 ·have:∀ {ks:List Key}{vs:List z00},ItemsAre (Aq prog w) ks vs->(∀ k∈ks,∃ i,k=.inl i)->∀ v∈vs,∃ i t,v=z37 i t:=λ {ks vs} it=>by
   induction it with
   | nil=>intro _ v hv;simp at hv
   | @cons k0 v0 ks0 vs0 h1 _ ih=>
    intro hk v hv
    rcases z0i.mp hv with rfl | hv
    ·obtain⟨i,rfl⟩:=hk k0 (by simp)
     rcases Bo (show QX (.inl i) v=true from h1) with ⟨j,t,_,e⟩ | ⟨y,t,e,_⟩
     ·exact⟨j,t,e⟩
     ·cases e
    ·exact ih (λ k hk'=>hk k (by simp[hk'])) v hv
  exact this i λ k hk=>by
   unfold kk at hk;simp only[z0i,z8u,or_false] at hk
   rcases hk with rfl | rfl
   ·exact⟨_,rfl⟩
   ·exact⟨_,rfl⟩
end
section
variable {A:z0a}
abbrev nK (X:Cx):=RL (Aq X.prog X.w)
theorem Q_:∀ {bs:List Addr}{us:List z00},Vals (bs.map V.ref) us->us=bs.map z0b
 | [],_,.nil=>rfl
 | c::bs,_,.cons r t=>by
  obtain rfl:=(show _=z0b c from r);rw[Q_ t];rfl
theorem tup_is (I:Inv X π σ H s) {k:List Key}{c:Addr}(h:TupAt X.K H c (k.map kV)):z4O (Aq X.prog X.w) s.heap k c:=by
 obtain⟨its,r,⟨o,g,cl,n,d⟩,_⟩:=I.tuple (show SqT X.K H c (k.map kV) from h);exact⟨o,its.toArray,n,g,cl,d,PL r⟩
theorem L_ (I:Inv X π σ H s) {ks:List (List Key)}{b:Addr}(h:MemK X.K H ks b):Nest (Aq X.prog X.w) s.heap ks b:=by
 obtain⟨bs,h1,h2⟩:=h;obtain⟨its,r,⟨o,g,cl,n,d⟩,hz⟩:=I.tuple (show SqT X.K H b (bs.map V.ref) from h1);refine⟨o,its.toArray,n,g,cl,d,?_⟩;rw[Q_ r];show NkI (Aq X.prog X.w) s.heap ks (bs.map z0b);clear h1 r d hz
 induction h2 with
 | nil=>exact .nil
 | cons h _ ih=>exact .cons (tup_is I h) ih
theorem YM (I:Inv X π σ H s) (ha:H a=some (.mem F X.K)):(a==z16)=false/\∃ xs,s.heap.DictOfH (nK X) a xs/\∀ q∈xs,MemK X.K H q.1 q.2.1/\Kin q.1/\RelV (.int (F q.1)) q.2.2:=by
 obtain⟨hs,xs,al,o,es,ep,g,ex,d,e,nd⟩:=(show BV X.prog X.w H s.heap a (.mem F X.K) from I.hok a _ ha);exact⟨hs,xs,⟨o,es,ep,g,ex,d,e,λ q hq=>L_ I (al q hq).1,nd⟩,al⟩
def num:List (Nat×Nat)->Nat
 | []=>0
 | p::r=>(5*p.1+p.2+1)+26*num r
theorem jC:∀ {ps:List (Nat×Nat)}{n:Nat},ps.length<=n->(∀ p∈ps,p.1<5/\p.2<5)->num ps<26^n
 | [],n,_,_=>z96 (by simp)
 | p::r,0,h,_=>by simp at h
 | p::r,n+1,h,hp=>by
  have ih:=jC (ps:=r) (n:=n) (by simpa using h) λ q hq=>hp q (by simp[hq]);have:=hp p (by simp);unfold num;rw[Nat.pow_succ];omega
theorem Zx:∀ {ps qs:List (Nat×Nat)},(∀ p∈ps,p.1<5/\p.2<5)->(∀ p∈qs,p.1<5/\p.2<5)->num ps=num qs->ps=qs
 | [],[],_,_,_=>rfl
 | [],q::s,_,hq,e=>by unfold num at e;omega
 | p::r,[],hp,_,e=>by unfold num at e;omega
 | p::r,q::s,hp,hq,e=>by
  have a:=hp p (by simp);have b:=hq q (by simp);unfold num at e;have e0:5*p.1+p.2=5*q.1+q.2:=by omega
  have e1:p.1=q.1:=by omega
  have e2:p.2=q.2:=by omega
  have e3:num r=num s:=by omega
  rw[Zx (λ x hx=>hp x (by simp[hx])) (λ x hx=>hq x (by simp[hx])) e3];rw[show p=q from z3e e1 e2]
theorem jD {ks:List (List (List Key))}(nd:ks.Nodup) (h:∀ k∈ks,Kin k):ks.length<=sizeLine:=by
 have:∀ k:List (List Key),∃ n:Nat,Kin k->∃ ps:List (Nat×Nat),k=ps.map (λ p=>[.inl (p.1:Int),.inl (p.2:Int)])/\ps.length<=5/\(∀ p∈ps,p.1<5/\p.2<5)/\n=num ps:=λ k=>by
  by_cases hk:Kin k
  ·obtain⟨ps,h1,h2,h3⟩:=hk;exact⟨num ps,λ _=>⟨ps,h1,h2,h3,rfl⟩⟩
  ·exact⟨0,λ z=>absurd z hk⟩
 obtain⟨f,hg⟩:=Classical.axiomOfChoice this;have hf:∀ k,Kin k->f k<26^5/\∀ k',Kin k'->f k=f k'->k=k':=λ k hk=>by
  obtain⟨ps,h1,h2,h3,h4⟩:=hg k hk;refine⟨by rw[h4];exact jC h2 h3,λ k' hk' e=>?_⟩;obtain⟨qs,g1,g2,g3,g4⟩:=hg k' hk';rw[h4,g4] at e;rw[h1,g1,Zx h3 g3 e]
 have nd':(ks.map f).Nodup:=by
  rw[z2e,z1B];exact z2X (λ {a b} ha hb hab z=>hab ((hf a (h a ha)).2 b (h b hb) z)) nd
 have:=len_sub (m:=z0d (26^5)) nd' λ y hy=>by
  obtain⟨k,hk,rfl⟩:=z0f.mp hy;exact z0o.mpr (hf k (h k hk)).1
 rw[z07,z2B] at this;rw[z1u];exact z0A this (by decide)
theorem P0 (hu:A.units+4<z0h) (I:Inv X π σ H s) (ha:H a=some (.mem F X.K)) (hk:MemK X.K H ks b)
  (h:∀ xs tk,s.heap.DictOfH (nK X) a xs->(∀ q∈xs,MemK X.K H q.1 q.2.1/\Kin q.1/\RelV (.int (F q.1)) q.2.2)->Q (.bool (!(z0I xs ks).isSome)) { s with toks:=tk }):z02 .(0) A (z0C .NotIn (.ref b) (.ref a)) Q E s:=by
 obtain⟨hs,xs,dd,al⟩:=YM I ha;exact z97 (knd:=nK X) (by show A.units+1+1<z0h;omega) (L_ I hk) hs dd (h xs _ dd al)
theorem jE (ha:H a=some (.mem F X.K)):upd H a (.mem F X.K)=H:=by
 funext c;unfold upd;split
 ·rename_i e;rw[e,ha]
 ·rfl
theorem mem_set {v:z00}{Q:Unit->z03->Prop}(hu:A.units+4<z0h) (I:Inv X π σ H s) (ha:H a=some (.mem F X.K)) (hk:MemK X.K H ks b) (hi:Kin ks) (rv:RelV (.int (F ks)) v)
  (h:∀ xs s',Inv X π σ H s'->s'.heap.DictOfH (nK X) a xs->(∀ q∈xs,MemK X.K H q.1 q.2.1/\Kin q.1/\RelV (.int (F q.1)) q.2.2)->(z0I xs ks).isSome=true->Q () s'):z02 .(0) A (setItem (.ref a) (.ref b) v) Q E s:=by
 obtain⟨hs,xs,dd,al⟩:=YM I ha;have nd:(xs.map (·.1)).Nodup:=let ⟨_,_,_,_,_,_,_,_,z⟩:=dd;z;have few:=jD nd λ k hk=>by
  obtain⟨q,hq,rfl⟩:=z0f.mp hk;exact (al q hq).2.1
 rw[z07] at few;refine z8m (knd:=nK X) (by show A.units+1+1<z0h;omega) (L_ I hk) dd (λ h' dd' sb=>?_) few;have al':∀ q∈z4p xs ks b v,MemK X.K H q.1 q.2.1/\Kin q.1/\RelV (.int (F q.1)) q.2.2:=λ q hq=>by
  unfold z4p at hq;split at hq
  ·obtain⟨x,hx,e⟩:=z0f.mp hq;have ax:=al x hx;unfold putAt at e;split at e
   ·rename_i ek;rw[<-e];exact⟨ax.1,ax.2.1,ek▸rv⟩
   ·rw[<-e];exact ax
  ·rcases z0U.mp hq with hq | hq
   ·exact al q hq
   ·obtain rfl:q=(ks,b,v):=by simpa using hq
    exact⟨hk,hi,rv⟩
 have pres:(z0I (z4p xs ks b v) ks).isSome=true:=by
  cases hc:z0I xs ks with
  | none=>
   rw[storedH_new hc];unfold z0I;rw[z4q,z98];exact⟨(ks,b,v),by simp,by simp⟩
  | some p=>
   rw[storedH_old hc];unfold z0I at hc ⊢;obtain⟨x,hx,e⟩:=z1U.mp hc;rw[z4q,z98];have hx1:=z5A hx;have hx2:=z7d hx;refine⟨putAt ks v x,z0f.mpr ⟨x,hx1,rfl⟩,?_⟩;have:x.1=ks:=of_decide_eq_true hx2;unfold putAt;rw[if_pos this];simpa using this
 obtain⟨o',es',ep',g',ex',d',e',is',nd'⟩:=id dd';have I':=I.write (x:=a) (e:=a) (o:=.mem F X.K) (t':=s.toks+(nK X).draws ks) (by rw[ha];exact trivial) (.inl rfl) (λ c q hc z=>(sb.2 c hc).trans z) ⟨o',g'⟩ (by
  rw[jE ha];exact⟨hs,_,al',o',es',ep',g',ex',d',e',nd'⟩)
 rw[jE ha] at I';exact h _ _ I' dd' al' pres
theorem Zy {xs:List (List (List Key)×Addr×z00)}(hu:A.units+4<z0h) (I:Inv X π σ H s) (hk:MemK X.K H ks b) (dd:s.heap.DictOfH (nK X) a xs) (al:∀ q∈xs,MemK X.K H q.1 q.2.1/\Kin q.1/\RelV (.int (F q.1)) q.2.2) (pr:(z0I xs ks).isSome=true)
  (h:∀ u tk,RelV (.int (F ks)) u->Q u { s with toks:=tk }):z02 .(0) A (z2w (.ref a) (.ref b)) Q E s:=by
 obtain⟨p,hp⟩:=z6o.mp pr;refine z8l (knd:=nK X) (by show A.units+1+1<z0h;omega) (L_ I hk) dd hp (h _ _ ?_);unfold z0I at hp;obtain⟨x,hx,e⟩:=z1U.mp hp;have h1:=(al x (z5A hx)).2.2;have h0:=z7d hx;have h2:x.1=ks:=of_decide_eq_true h0;rw[<-e,<-h2];exact h1
end
open PyProof.Rows (isTrue_and isTrue_not isTrue_and_nil)
def prD:D->Option Pr5
 | .tup [.int i,.int j]=>if 0<=i/\i<5/\0<=j/\j<5 then some (i.toNat,j.toNat) else none
 | _=>none
def prsD:List D->Option (List Pr5)
 | []=>some []
 | d::r=>(prD d).bind λ p=>(prsD r).map (p::·)
def keyP:D->Option (List Pr5)
 | .tup ds=>(prsD ds).bind λ ps=>if ps.length<=5 then some ps else none
 | _=>none
abbrev kks (ps:List Pr5):List (List Key):=ps.map kk
section
theorem vY {A:List Addr}{p:Pr5}(r:Rep G H v d) (e:prD d=some p):In5 p/\∃ c,v=.ref c/\TupAt G.K H c ((kk p).map kV):=by
 unfold prD at e;split at e
 ·rename_i i j;split at e
  ·rename_i h;cases e;cases r with
   | @tup c xs ds h1 h2 h3=>
    refine⟨⟨by show i.toNat<5;omega,by show j.toNat<5;omega⟩,c,rfl,?_⟩;have:xs=[.int i,.int j]:=by
     match xs,h2,h3 with
     | [x,y],_,h3=>
      have r1:=h3 0 x (.int i) rfl rfl;have r2:=h3 1 y (.int j) rfl rfl;cases r1;cases r2;rfl
    rw[this] at h1;show SqT G.K H c [.int ((i.toNat:Nat):Int),.int ((j.toNat:Nat):Int)];rw[z7f h.1,z7f h.2.2.1];exact h1
  ·cases e
 ·cases e
theorem RB {H:Hp}:∀ {ds:List D}{xs:List V}{ps:List Pr5},RepL G H xs ds->prsD ds=some ps->(∀ p∈ps,In5 p)/\∃ bs:List Addr,xs=bs.map V.ref/\z2i (λ k c=>TupAt G.K H c (k.map kV)) (kks ps) bs
 | [],xs,ps,r,e=>by
  cases e;have:xs=[]:=z2C.mp r.1;subst this;exact⟨by simp,[],rfl,.nil⟩
 | d::ds,xs,ps,r,e=>by
  obtain⟨x,ys,rfl,r1,r2⟩:=r.uncons;unfold prsD at e;cases e1:prD d with
  | none=>rw[e1] at e;cases e
  | some p=>
   rw[e1] at e;cases e2:prsD ds with
   | none=>rw[e2] at e;cases e
   | some qs=>
    rw[e2] at e;cases e;obtain⟨i1,c,rfl,t1⟩:=vY (A:=[]) r1 e1;obtain⟨i2,bs,rfl,t2⟩:=RB r2 e2;refine⟨λ q hq=>?_,c::bs,rfl,.cons t1 t2⟩
    rcases z0i.mp hq with rfl | hq
    ·exact i1
    ·exact i2 q hq
theorem pC {ps:List Pr5}(r:Rep G H v d) (e:keyP d=some ps):∃ b,v=.ref b/\MemK G.K H (kks ps) b/\Kin (kks ps):=by
 unfold keyP at e;split at e
 ·rename_i ds;cases e1:prsD ds with
  | none=>rw[e1] at e;cases e
  | some qs=>
   rw[e1] at e;have e:(if qs.length<=5 then some qs else none)=some ps:=e;split at e
   ·rename_i h5;cases e;cases r with
    | @tup b xs _ h1 h2 h3=>
     obtain⟨i5,bs,rfl,t⟩:=RB (G:=G) (H:=H) ⟨h2,h3⟩ e1;exact⟨b,rfl,⟨bs,h1,t⟩,ps,rfl,h5,i5⟩
   ·cases e
 ·cases e
theorem H_ {K:z08}(s:Same H H') (h:MemK K H ks b):MemK K H' ks b:=by
 have tp:∀ {c:Addr}{xs:List V},TupAt K H c xs->TupAt K H' c xs:=λ {c xs} z=>by
  rcases z with (z | ⟨o,z⟩) | z
  ·exact .inl (.inl (s _ _ z))
  ·exact .inl (.inr ⟨o,s _ _ z⟩)
  ·exact .inr z
 obtain⟨bs,h1,h2⟩:=h;exact⟨bs,tp h1,Paired.mapP h2 λ _ _ z=>tp z⟩
theorem Ia (hN:X.N[i]?=some x) (hv:Vis X.env.scope x) (hd:.(3)=false) (hcd:.(27)=false) (I:Inv X π σ H s) (e:σ[i]?=some (some v)) (k:∀ u,RelV v u->Q u s):z02 .(0) X.A (eval (.Name x pos) X.env) Q E s:=by
 obtain⟨m,hn,hl⟩:=I.loc;obtain⟨u,r,l⟩:=hl i x v hN e hv
 rcases l with ⟨hk,hm⟩ | ⟨hk,c,hc,hcell⟩
 ·exact z3F (z7X I.ok.kind hk hn hm (k u r)) hd
 ·rcases hk with hk | hk
  ·exact z3F (z7Y I.ok.kind hk hc hcell (k u r)) hd
  ·exact z3F (z7Z I.ok.kind hk hc hcell (k u r) hcd) hd
structure Fm (X:Cx) (σ:St) (H:Hp) (i:Nat) (f:Str) (m:Addr) (F:List (List Key)->Int):Prop where
 at_:∃ a C dx fs,σ[i]?=some (some (.ref a))/\H a=some (.ins C dx fs)/\Cls X.K C/\Bf X.K C f/\fs.lookup f=some (.ref m)
 mem:H m=some (.mem F X.K)
theorem Fm.mono {m:Addr}(h:Fm X σ H i f m F) (s:Same H H'):Fm X σ H' i f m F:=by
 obtain⟨⟨a,C,dx,fs,h1,h2,h3⟩,h4⟩:=h;exact⟨⟨a,C,dx,fs,h1,s _ _ h2,h3⟩,s _ _ h4⟩
theorem M8 {m:Addr}(hN:X.N[i]?=some x) (hv:Vis X.env.scope x) (hd:.(3)=false) (hcd:.(27)=false)
  (hb:z1x (.Name x p1) f X.env (eval (.Name x p1) X.env)=eval (.Name x p1) X.env) (I:Inv X π σ H s) (h:Fm X σ H i f m F) (k:∀ tk,Q (.ref m) { s with toks:=tk }):z02 .(0) X.A (eval (.Attribute (.Name x p1) f p2) X.env) Q E s:=by
 obtain⟨⟨a,C,dx,fs,h1,h2,c,n,l⟩,_⟩:=h;refine Um hb (Ia hN hv hd hcd I h1 λ u r=>?_);obtain rfl:u=z0b a:=r;obtain⟨mA,O,r,_,_,_⟩:=Lp I.hok h2;obtain⟨u,hu,ru⟩:=RelO.some_of (v:=.ref m) (o:=mA f) (by rw[<-l];exact r f);obtain rfl:u=z0b m:=ru;exact Ul I.kIn O (c.get f) c.hd n hu (O_ (v:=.ref m) rfl) (k _)
theorem jF (hG:G.K=X.K) (hcl:∀ c C,G.cl c=some C->Cls X.K C/\Bf X.K C f) (o:Okp G A σ H ρ) (e:uF (fldD f) (vF i) ρ=some (.mem F)):∃ m,Fm X σ H i f m F:=by
 obtain⟨d0,e1,e2⟩:=G6 e;have hz:ρ[i]?=some (.fz d0):=by
  unfold vF at e1;split at e1
  ·rename_i z hz;cases e1;exact hz
  ·cases e1
 obtain⟨v,h1,h2⟩:=o.fz i d0 hz;unfold fldD at e2;split at e2
 ·rename_i cn gs;cases h2 with
  | @ob a C dx c fs _ q1 q2 q3 q4=>
   have hl:=congrArg z0P q3;rw[z07,z07] at hl;obtain⟨v2,l1,l2⟩:=Pn (f:=f) (d:=.mem F) (G:=G) q3 ⟨by rw[z07,z07];exact hl,q4⟩ e2;cases l2 with
   | @mem m _ hm=>exact⟨m,⟨a,C,dx,fs,h1,Ar _ _ q2,(hcl _ _ q1).1,(hcl _ _ q1).2,l1⟩,by rw[<-hG];exact Ar _ _ hm⟩
 ·cases e2
theorem K7 {ps:List Pr5}(hG:G.K=X.K) (o:Okp G A σ H ρ) (e:vF j ρ=some d) (ek:keyP d=some ps):∃ b,σ[j]?=some (some (.ref b))/\MemK X.K H (kks ps) b/\Kin (kks ps):=by
 have hz:ρ[j]?=some (.fz d):=by
  unfold vF at e;split at e
  ·rename_i z hz;cases e;exact hz
  ·cases e
 obtain⟨v,h1,h2⟩:=o.fz j d hz;obtain⟨b,rfl,h3,h4⟩:=pC h2 ek;exact⟨b,h1,by rw[<-hG];exact H_ Ar h3,h4⟩
def memR (i:Nat) (f:Str) (j:Nat) (fv:FE):FS:=λ ρ=>match uF (fldD f) (vF i) ρ,(vF j ρ).bind keyP,fv ρ with
 | some (.mem F),some ps,some (.int v)=>if v=F (kks ps) then some (.rt (.int v) ρ) else none
 | _,_,_=>none
def memZ (i:Nat) (f:Str) (j:Nat) (ft:FT):FS:=λ ρ=>match uF (fldD f) (vF i) ρ,(vF j ρ).bind keyP,ft ρ with
 | some (.mem F),some ps,some t=>if t=true∨F (kks ps)=0 then some (.nx ρ) else none
 | _,_,_=>none
theorem jG {y:Str}{value:Expr}{fv:FE}{p14 p15:Pos}(hu:X.A.units+64<z0h) (hG:G.K=X.K) (hcl:∀ c C,G.cl c=some C->Cls X.K C/\Bf X.K C f) (hN:X.N[i]?=some x) (hv:Vis X.env.scope x) (hN2:X.N[j]?=some y) (hv2:Vis X.env.scope y) (hval:PF X G value fv)
    (hs:z1o value (some (.Subscript (.Attribute (.Name x p5) f p6) (.Name y p7) p8)) p9.line X.env=pure false:=by rfl) (hm:z17 .NotIn (.Attribute (.Name x p2) f p3)=false:=by rfl) (hsl:NoSl (.Name y p13):=by intro _ _;rfl)
    (hd:.(3)=false:=by decide) (hcd:.(27)=false:=by decide) (hd2:(y==("__debug__":Str))=false:=by decide) (hcd2:(y==("__classdict__":Str))=false:=by decide)
    (hb:∀ p,z1x (.Name x p) f X.env (eval (.Name x p) X.env)=eval (.Name x p) X.env:=by intro _;rfl) :
    PSDs X G [.If (.Compare (.Name y p1) [.NotIn] [.Attribute (.Name x p2) f p3] p4) [.Assign [.Subscript (.Attribute (.Name x p5) f p6) (.Name y p7) p8] value p9] [] p10,.Return .(24) p15] (memR i f j fv):=λ A0 He π s σ H D I ⟨ρ,o,⟨A,w⟩,e,k⟩=>by
  unfold memR at e;split at e
  · rename_i F ps v ef ek ev
    split at e
    · rename_i hF
      cases e;obtain⟨dk,ek1,ek2⟩:=z4E.mp ek;obtain⟨m,fm⟩:=jF (X:=X) hG hcl w.ok ef;obtain⟨b,hb1,mk,kin⟩:=K7 (X:=X) hG w.ok ek1 ek2;have fin:∀ (H':Hp) (s':z03) (xs:List (List (List Key)×Addr×z00)),Same H H'->Inv X π σ H' s'->s'.heap.DictOfH (nK X) m xs->(∀ q∈xs,MemK X.K H' q.1 q.2.1/\Kin q.1/\RelV (.int (F q.1)) q.2.2)->(z0I xs (kks ps)).isSome=true ->
          z02 .(0) X.A (exec (.Return .(24) p15) X.env) (SP X π D) X.xe s':=λ H' s' xs sm I' dd al pr=>by
        refine z4_ (Y8 z6U.lookup hsl (M8 hN hv hd hcd (hb _) I' (fm.mono sm) λ tk=>Ia hN2 hv2 hd2 hcd2 (I'.tok tk) hb1 λ u r=>⟨dd.typeIs,?_⟩));obtain rfl:u=z0b b:=r;refine Zy (F:=F) (by omega) (I'.tok tk) (H_ sm mk) dd al pr λ u tk2 ru=>⟨.int v,σ,H',(I'.tok tk).tok tk2,by rw[hF];exact ru,?_⟩;exact k (.int v) σ H' A (w.mono sm) (.int v)
      have rest:∀ (H':Hp) (s':z03) (xs:List (List (List Key)×Addr×z00)),Same H H'->Inv X π σ H' s'->s'.heap.DictOfH (nK X) m xs->(∀ q∈xs,MemK X.K H' q.1 q.2.1/\Kin q.1/\RelV (.int (F q.1)) q.2.2)->(z0I xs (kks ps)).isSome=true ->
          z02 .(0) X.A (z1K [.Return .(24) p15] X.env) (SP X π D) X.xe s':=λ H' s' xs sm I' dd al pr=>by
        refine z27 (thn (fin H' s' xs sm I' dd al pr) λ fl s1 q=>?_);cases fl with
        | next=>
          obtain⟨σ',H2,I2,q⟩:=q;exact Ln (X:=X) π s1 σ' H2 D I2 q
        | ret v=>exact q
        | brk=>exact q
        | cont=>exact q
      refine z27 (z49 (z3G (Ia hN2 hv2 hd2 hcd2 I hb1 λ u r=>M8 hN hv hd hcd (hb _) I fm λ tk=>?_) hm));obtain rfl:u=z0b b:=r;refine P0 (F:=F) (by omega) (I.tok tk) fm.mem mk λ xs tk2 dd al=>z1J ?_;cases pr:(z0I xs (kks ps)).isSome with
      | true=>
        show z02 _ _ (z1K [] X.env) _ _ _;exact z1V (rest H _ xs .(23) ((I.tok tk).tok tk2) dd al pr)
      | false=>
        show z02 _ _ (z1K [_] X.env) _ _ _;have I2:=(I.tok tk).tok tk2;refine z27 (z5f (thn (@hval A π _ σ H (λ x H1=>Same H H1/\x=.int v) I2 ⟨ρ,_,w.ok,ev,λ v1 H1 s1 r1=>⟨s1,by cases r1;rfl⟩⟩) λ r1 s1 ⟨v1,H1,I1,rv,sm,ev1⟩=>?_) hs);subst ev1;refine M8 hN hv hd hcd (hb _) I1 (fm.mono sm) λ tk3=>Ia hN2 hv2 hd2 hcd2 (I1.tok tk3) hb1 λ u r=>?_;obtain rfl:u=z0b b:=r;refine mem_set (F:=F) (by omega) (I1.tok tk3) (sm _ _ fm.mem) (H_ sm mk) kin (by rw[<-hF];exact rv) λ xs' s' I' dd' al' pr'=>?_;exact z1V (rest H1 s' xs' sm I' dd' al' pr')
    · cases e
  · cases e
theorem jH {y:Str}{test:Expr}{jj:Nat}(hu:X.A.units+64<z0h) (hG:G.K=X.K) (hcl:∀ c C,G.cl c=some C->Cls X.K C/\Bf X.K C f) (hN:X.N[i]?=some x) (hv:Vis X.env.scope x) (hN2:X.N[j]?=some y) (hv2:Vis X.env.scope y) (ht:PFT X G test ft)
  (hs:z1o (.Constant (.int 0) jj p9) (some (.Subscript (.Attribute (.Name x p5) f p6) (.Name y p7) p8)) p10.line X.env=pure false:=by rfl) (hm:z17 .NotIn (.Attribute (.Name x p2) f p3)=false:=by rfl)
  (hd:.(3)=false:=by decide) (hcd:.(27)=false:=by decide) (hd2:(y==("__debug__":Str))=false:=by decide) (hcd2:(y==("__classdict__":Str))=false:=by decide)
  (hb:∀ p,z1x (.Name x p) f X.env (eval (.Name x p) X.env)=eval (.Name x p) X.env:=by intro _;rfl) :
  PSD X G (.If (.BoolOp .And [.Compare (.Name y p1) [.NotIn] [.Attribute (.Name x p2) f p3] p4,.UnaryOp .Not test p11] p12) [.Assign [.Subscript (.Attribute (.Name x p5) f p6) (.Name y p7) p8] (.Constant (.int 0) jj p9) p10] [] p13) (memZ i f j ft):=λ A0 He π s σ H D I ⟨ρ,o,⟨A,w⟩,e,k⟩=>by
 unfold memZ at e;split at e
 ·rename_i F ps t ef ek et;split at e
  ·rename_i hF;cases e;obtain⟨dk,ek1,ek2⟩:=z4E.mp ek;obtain⟨m,fm⟩:=jF (X:=X) hG hcl w.ok ef;obtain⟨b,hb1,mk,kin⟩:=K7 (X:=X) hG w.ok ek1 ek2;have done:∀ (H':Hp) (s':z03),Same H H'->Inv X π σ H' s'->SP X π D .next s':=λ H' s' sm I'=>⟨σ,H',I',k σ H' ⟨A,w.mono sm⟩⟩;have put:∀ (H':Hp) (s':z03),Same H H'->Inv X π σ H' s'->F (kks ps)=0->z02 .(0) X.A (z1K [.Assign [.Subscript (.Attribute (.Name x p5) f p6) (.Name y p7) p8] (.Constant (.int 0) jj p9) p10] X.env) (SP X π D) X.xe s':=λ H' s' sm I' h0=>by
    refine z27 (z5f (z67 ?_) hs);have I2:=I'.tok (s'.toks+1);refine M8 hN hv hd hcd (hb _) I2 (fm.mono sm) λ tk3=>Ia hN2 hv2 hd2 hcd2 (I2.tok tk3) hb1 λ u r=>?_;obtain rfl:u=z0b b:=r;refine mem_set (F:=F) (by omega) (I2.tok tk3) (sm _ _ fm.mem) (H_ sm mk) kin (by rw[h0];exact⟨_,rfl⟩) λ xs' s2 I3 dd' al' pr'=>?_;exact z1V (done H' s2 sm I3)
   refine z49 (z3H (z3G (Ia hN2 hv2 hd2 hcd2 I hb1 λ u r=>M8 hN hv hd hcd (hb _) I fm λ tk=>?_) hm));obtain rfl:u=z0b b:=r;refine P0 (F:=F) (by omega) (I.tok tk) fm.mem mk λ xs tk2 dd al=>z1J ?_;have I2:=(I.tok tk).tok tk2;cases pr:(z0I xs (kks ps)).isSome with
   | true=>
    show z02 _ _ (z1K [] X.env) _ _ _;exact z1V (done H _ .(23) I2)
   | false=>
    show z02 _ _ (z2G _ _ _) _ _ _;refine z3H (z69 (thn (@ht A π _ σ H (λ b H1=>Same H H1/\b=t) I2 ⟨ρ,_,w.ok,et,λ H1 s1=>⟨s1,rfl⟩⟩) λ b s1 ⟨H1,I1,sm,eb⟩=>?_));subst eb;cases b with
    | true=>
     show z02 _ _ (z1K [] X.env) _ _ _;exact z1V (done H1 s1 sm I1)
    | false=>
     refine z68 ?_;show z02 _ _ (z1K [_] X.env) _ _ _;exact put H1 s1 sm I1 (hF.resolve_left (by simp))
  ·cases e
 ·cases e
def memE (Φ:Rho->Option (List (List Key)->Int)):FE:=λ ρ=>(Φ ρ).map .mem
theorem vZ {Φ:Rho->Option (List (List Key)->Int)}(hG:G.K=X.K):PF X G (.Dict [] [] pos) (memE Φ):=λ A π s σ H Q I ⟨ρ,d,o,e,k⟩=>by
 unfold memE at e;obtain⟨F,_,rfl⟩:=z1U.mp e;have hd:(s.heap.objs.size==z16)=false:=(show BV X.prog X.w (upd H s.heap.objs.size (.dK [])) _ _ (.dK []) from WD s.heap I.big).2.1;have hn:H s.heap.objs.size=none:=I.hok.fresh (z06 _);obtain⟨o1,es,ep,g1,ex,d1,e1,_,nd⟩:=Heap.DictOfH.new (knd:=nK X) s.heap;refine z6G ⟨.ref s.heap.objs.size,_,I.laid (a:=s.heap.objs.size) (o:=.mem F X.K) (t':=s.toks) (λ _ _ q=>z0e _ q) (z06 _) ⟨hd,[],by simp,o1,es,ep,g1,ex,d1,e1,nd⟩,rfl,k _ _ (Al hn _) (.mem ?_)⟩;unfold hid;rw[if_neg,hG]
 ·exact Aj
 ·intro hm;have:=o.live _ hm;rw[hn] at this;exact absurd rfl this.1
end
def addQ (ps:List Pr5) (p:Pr5):List Pr5:=if p∈ps then ps else ps++[p]
section
variable {A:z0a}
theorem vd {h:Int}(e:(es.toList.map (·.1))[i]?=some h):∃ v,es[i]?=some (h,v):=by
 rw[z0q] at e;obtain⟨x,hx,rfl⟩:=z1U.mp e;exact⟨x.2,by rw[<-z7g];exact hx⟩
theorem pD {t:SetTable}{qs:List .(39)}{p:Pr5}{Q:SetFound->z03->Prop}(hu:A.units<z0h) (g:s.heap.get? a=some o) (d:o.data=.set es ep t) (f:FP prog w s.heap es t qs) (y:IsP prog w s.heap p b)
    (k1:p∈qs.map (·.1)->Q (.there none) s)
    (k2:p∉qs.map (·.1)->∀ n,n<10*z22 t.mask->wayJ t.mask (hP p) n∉t.place.toList->(∀ k,k<n->wayJ t.mask (hP p) k∈t.place.toList)->Q (.free (wayJ t.mask (hP p) n) false) s):z02 (z04 prog w) A (setSearch a (.ref b) (hP p) (adding:=true)) Q E s:=by
  unfold setSearch z7h;refine z01 (z2E g d f.fits ?_);dsimp only;rw[f.odd];simp only[z0G,if_false];have ha:∀ (i:Nat) (h:Int),(es.toList.map (·.1))[i]?=some h->(es[i]?.map (·.1)).getD 0=h:=λ i h e=>by
    obtain⟨v,hv⟩:=vd e;rw[hv];rfl
  by_cases m:p∈qs.map (·.1)
  · obtain⟨x,hx,ex⟩:=z0f.mp m
    obtain⟨i,hi,ei⟩:=z3r.mp hx;have hh:(es.toList.map (·.1))[i]?=some (hP p):=by
      rw[f.hs,z0q,z0F hi,ei,<-ex];rfl
    obtain⟨j,nx,e⟩:=VH f.tab _ ha f.hnd hh;have e':t.probe (λ i=>(es[i]?.map (·.1)).getD 0) (hP p) (z5F none (t.probeStart (hP p)))=some (.candidate j i nx):=e;have ev:es[i]?=some (hP x.1,z0b x.2):=by
      rw[<-z7g,f.ent,z0q,z0F hi,ei];rfl
    have yx:=f.isp x hx;have rest:z02 (z04 prog w) A (do
        let some (_,y):=es[i]? | z7i "internal:set-entry"
        let equal <-z1v [y] (eqBool y (.ref b))
        let (es',_,t') <-setState a
        if true&&equal then return SetFound.there none
        let some same:=t'.sameMemory t.moves t.mask | z7i "set.changed-during-lookup:is-the-new-block-at-the-old-address"
        let still <-match (if same then t'.slot j else .empty) with
          | .live i'=>match es'[i']? with
            | some (_,y')=>do pure (if <-isSame y' y then some i' else none)
            | none=>pure none
          | _=>pure none
        match still with
        | none=>rule "set.search.anew";z7h a (.ref b) (hP p) true 99999 none
        | some i'=>if equal then return .there (some i') else z7h a (.ref b) (hP p) true 99999 (some nx)) Q E s:=by
      rw[ev];dsimp only;refine z01 (wpAny_holding (z7P hu yx.2 y.2 ?_));rw[decide_eq_true (show kk x.1=kk p by rw[ex])];refine z01 (z2E g d f.fits ?_);dsimp only;simp only[Bool.and_self,if_true];exact z05 (k1 m)
    show z02 _ _ (match t.probe (λ i=>(es[i]?.map (·.1)).getD 0) (hP p) (z5F none (t.probeStart (hP p))) with | some met=>_ | _=>_) _ _ _;rw[e'];dsimp only
    by_cases ld:t.led=true
    · rw[ld]
      simp only[z25,z0G,if_false];exact rest
    · have ld':t.led=false:=by simpa using ld
      rw[ld'];simp only[z7Q,if_true];refine z01 (vX y _ (λ v hv=>?_) ?_)
      · obtain⟨e1,he1,rfl⟩:=z0f.mp hv
        have:e1∈es.toList:=by
          have:=z6c.mp he1;rw[Array.mem_filter] at this;exact z6c.mpr this.1
        rw[f.ent] at this;obtain⟨z,hz,rfl⟩:=z0f.mp this;exact⟨z.1,z.2,rfl,f.isp z hz⟩
      · simp only[z0G,if_false]
        exact rest
  · have hn:hP p∉es.toList.map (·.1):=λ z=>by
      rw[f.hs] at z;obtain⟨x,hx,ex⟩:=z0f.mp z;exact m (z0f.mpr ⟨x,hx,inj5 (f.isp x hx).1 y.1 ex⟩)
    obtain⟨n,hn1,hn2,hn3,e⟩:=Wn f.tab _ ha hn (f.cov y.1).cov;have e':t.probe (λ i=>(es[i]?.map (·.1)).getD 0) (hP p) (z5F none (t.probeStart (hP p)))=some (.empty (wayJ t.mask (hP p) n) none):=e;show z02 _ _ (match t.probe (λ i=>(es[i]?.map (·.1)).getD 0) (hP p) (z5F none (t.probeStart (hP p))) with | some met=>_ | _=>_) _ _ _;rw[e'];dsimp only;exact z05 (k2 m n hn1 hn2 hn3)
end
end PV
namespace PV
open PySem PySem.Spec L2
open PySem.SetTable (insertAt)
section
variable {A:z0a}
theorem jJ {es':Array (Int×z00)}{t t':SetTable}{Q:Unit->z03->Prop}(g:s.heap.get? a=some o) (ex:o.ExactSet) (d:o.data=.set es ep t) (z:es'.size<=100)
  (k:∀ h' o',z14 a s.heap h'->h'.get? a=some o'->o'.ExactSet->o'.data=.set es' (ep+1) t'->Q () { s with heap:=h' }):z02 (z04 prog w) A (storeSet a es' t') Q E s:=by
 refine wpAny_storeSet_of g d (k _ { o with data:=.set es' (ep+1) t' } (z3X _ _ _) ?_ ex rfl) (z0A z (by decide));have u:=z1G (Obj.putSet es' t') g (by rw[putSet_of es' t' d];rfl)
 rwa [putSet_of es' t' d] at u
theorem xr (n:Nat) (h:n<=18):z99 n=n*4:=by
 unfold z99;rw[if_neg (by omega)]
theorem jK:z7j 20=32:=by decide +kernel
theorem Wq {α β:Type}{f:α->β}{l:List β}{m:List α}(h:l.Perm (m.map f)):∃ k:List α,l=k.map f/\k.Perm m:=by
 generalize e:m.map f=x at h
 induction h generalizing m with
 | nil=>
  have:m=[]:=by simpa using e
  subst this;exact⟨[],rfl,z4F _⟩
 | @cons a l1 l2 _ ih=>
  cases m with
  | nil=>cases e
  | cons y r=>
   rw[z0c] at e;injection e with e1 e2
   obtain⟨k,ek,pk⟩:=ih e2;exact⟨y::k,by rw[z0c,e1,ek],z5G _ pk⟩
 | swap a c l1=>
  match m,e with
  | y::z::r,e=>
   rw[z0c,z0c] at e;injection e with e1 e2
   injection e2 with e2 e3
   exact⟨z::y::r,by rw[z0c,z0c,e1,e2,e3],z9a _ _ _⟩
 | trans _ _ ih1 ih2=>
  obtain⟨k2,ek2,pk2⟩:=ih2 e;obtain⟨k1,ek1,pk1⟩:=ih1 ek2.symm;exact⟨k1,ek1,pk1.trans pk2⟩
theorem xu {B:Addr->Prop}{ps:List Pr5}{p:Pr5}{Q:Bool->z03->Prop}(hu:A.units<z0h) (x:SetP prog w B s.heap a ps) (y:IsP prog w s.heap p b) (yb:B b) (r:ps.length<=17) (c:∀ v h',z14 a s.heap h'->SetP prog w B h' a (addQ ps p)->Q v { s with heap:=h' }):z02 (z04 prog w) A (setAddHashed a (.ref b) (hP p)) Q E s:=by
 obtain⟨es,t,qs,⟨o,ep,g,ex,d⟩,f,pm,bq⟩:=x;have lq:qs.length=ps.length:=by have:=pm.length_eq;simpa using this
 have le:=f.len;unfold setAddHashed setAddHashedIn;refine wpAny_holding (z01 (z2E g d f.fits ?_));dsimp only;rw[if_neg (show ¬ byScan (.ref b) es=true by unfold byScan Value.scannable;simp)];refine z01 (pD hu g d f y (λ m=>?_) λ m n hn1 hn2 hn3=>?_)
 ·dsimp only;have mp:p∈ps:=pm.mem_iff.mp m;refine z05 ?_;have:=c false s.heap (z6V a _) (by unfold addQ;rw[if_pos mp];exact⟨es,t,qs,⟨o,ep,g,ex,d⟩,f,pm,bq⟩);exact this
 ·dsimp only;have mp:p∉ps:=λ z=>m (pm.mem_iff.mpr z);refine z01 (z2E g d f.fits ?_);dsimp only;generalize hj:wayJ t.mask (hP p) n=j at hn2;have jm:j<=t.mask:=hj▸VM _ _ _;have hl:(es.toList.map (·.1)).length=qs.length:=by rw[z07,z0Y,le]
  have rm:(es.toList.map (·.1)).length+1<=t.mask:=by
   rw[hl]
   rcases f.msk with ⟨e,z⟩ | ⟨e,z⟩<;>omega
  obtain⟨T1,pl⟩:=f.tab.put hn1 hj hn2 jm hn3 rm;have pl0:(t.put j).1.plain=true:=f.pln;rw[pl0];simp only[if_true];refine z01 (xq y ?_);simp only[if_true];rw[hl] at pl;have ent1:.(22).toList=(qs.take (t.put j).2++(p,b)::qs.drop (t.put j).2).map λ x=>(hP x.1,z0b x.2):=by
   rw[R4,f.ent,<-z3s,<-z5H,z0S,z0c]
  have pq:(qs.take (t.put j).2++(p,b)::qs.drop (t.put j).2).Perm (qs++[(p,b)]):=by
   refine z9b.trans ?_;rw[z5y];exact (List.perm_append_singleton _ _).symm
  have bq1:∀ x∈qs.take (t.put j).2++(p,b)::qs.drop (t.put j).2,B x.2:=λ x hx=>by
   rcases z0U.mp (pq.mem_iff.mp hx) with hx | hx
   ·exact bq x hx
   ·obtain rfl:x=(p,b):=by simpa using hx
    exact yb
  have sz1:.(22).size=qs.length+1:=by
   have:=congrArg z0P ent1;rw[z07,pq.length_eq] at this;simpa using this
  have nbq:∀ x∈qs,x.2≠a:=λ x hx=>(f.isp x hx).ne g d;have nba:b≠a:=y.ne g d;have isp1:∀ h',z14 a s.heap h'->∀ x∈qs.take (t.put j).2++(p,b)::qs.drop (t.put j).2,IsP prog w h' x.1 x.2:=λ h' sb x hx=>by
   have hx:=pq.mem_iff.mp hx
   rcases z0U.mp hx with hx | hx
   ·exact (f.isp x hx).keep λ o' g'=>(sb.2 x.2 (nbq x hx)).trans g'
   ·obtain rfl:x=(p,b):=by simpa using hx
    exact y.keep λ o' g'=>(sb.2 b nba).trans g'
  have nd1:((qs.take (t.put j).2++(p,b)::qs.drop (t.put j).2).map (·.1)).Nodup:=by
   rw[(pq.map (·.1)).nodup_iff,z0S];refine z0W.mpr ⟨f.nd,by simp,λ u hu v hv e=>?_⟩;have:v=p:=by simpa using hv
   exact m (this▸e▸hu)
  have per1:((qs.take (t.put j).2++(p,b)::qs.drop (t.put j).2).map (·.1)).Perm (addQ ps p):=by
   unfold addQ;rw[if_neg mp];refine (pq.map (·.1)).trans ?_;rw[z0S];exact pm.append_right _
  have hs1:.(22).toList.map (·.1)=(es.toList.map (·.1)).take (t.put j).2++hP p::(es.toList.map (·.1)).drop (t.put j).2:=by
   rw[R4,z0S,z0c,z3s,z5H]
  have T1':Tab (t.put j).1 (.(22).toList.map (·.1)):=by rw[hs1];exact T1
  have fill1:(t.put j).1.fill=qs.length+1:=by
   unfold z93;rw[T1'.dum];have:=T1'.len;rw[z07,z0Y,z0Y,sz1] at this;simpa using this
  have msk0:(t.put j).1.mask=t.mask:=rfl;refine z01 (jJ g ex d (by rw[sz1];omega) λ h1 o1 sb1 g1 ex1 d1=>?_)
  by_cases full:(t.put j).1.tooFull=true
  ·rw[if_pos (by simp[full])];have m7:t.mask=7/\qs.length=4:=by
    unfold z9c at full;rw[fill1,msk0] at full;simp at full
    rcases f.msk with ⟨e,z⟩ | ⟨e,z⟩
    ·rw[e] at full;exact⟨e,by omega⟩
    ·rw[e] at full;omega
   have e5:es.size+1=5:=by omega
   rw[e5,xr 5 (by omega)];refine z01 ?_;unfold setRelay;have ft1:(t.put j).1.fits .(22).size=true:=by
    unfold z92;rw[fill1,msk0,sz1];have:=T1'.len;rw[z07,z0Y,z0Y,sz1] at this;simp[this];omega
   refine z01 (z2E g1 d1 ft1 ?_);dsimp only;rw[show z7j (5*4)=32 from jK];rw[if_neg (by decide)];have cv:∀ e∈.(22).toList,CovR 31 e.1:=λ e he=>by
    rw[ent1] at he;obtain⟨x,hx,rfl⟩:=z0f.mp he;exact (cov5 (isp1 s.heap (z6V a _) x hx).1).2
   obtain⟨t2,ord,el,l1,l2,l3,l4,l5⟩:=pA 31 (t.put j).1.finger ((t.put j).1.movedTo 31) (t.put j).1.led (t.put j).1.plain .(22) (by rw[sz1];omega) cv;have el':(t.put j).1.relaid (.(22).map (·.1)) (5*4)=some (t2,ord):=by
    unfold SetTable.relaid;rw[show z7j (5*4)=32 from jK];exact el
   have sz2:(ord.filterMap λ i=>.(22)[i]?).size=qs.length+1:=by
    have:=l4.length_eq;rw[z0Y,z0Y,sz1] at this;exact this
   generalize hes:insertAt es (t.put j).2 (hP p,z0b b)=es1 at *;rw[el'];refine z01 (show z02 _ _ (if ((ord.filterMap λ i=>es1[i]?).size != es1.size)=true then _ else pure ((ord.filterMap λ i=>es1[i]?),t2)) _ _ _ from ?_);rw[if_neg (by simp[sz2,sz1])];refine z05 ?_;dsimp only;refine jJ g1 ex1 d1 (by rw[sz2];omega) λ h2 o2 sb2 g2 ex2 d2=>z05 (c true h2 (sb1.trans sb2) ?_);obtain⟨qs2,eq2,pq2⟩:∃ qs2:List .(39),(ord.filterMap λ i=>es1[i]?).toList=qs2.map (λ x=>(hP x.1,z0b x.2))/\qs2.Perm (qs.take (t.put j).2++(p,b)::qs.drop (t.put j).2):=by
    have l4':=l4;rw[ent1] at l4';obtain⟨q2,e2,p2⟩:=Wq l4';exact⟨q2,e2,p2⟩
   refine⟨_,_,qs2,⟨o2,_,g2,ex2,d2⟩,⟨eq2,λ x hx=>isp1 h2 (sb1.trans sb2) x (pq2.mem_iff.mp hx),(pq2.map (·.1)).nodup_iff.mpr nd1,l5,?_,λ z=>l2.trans (f.led z),l3.trans pl0⟩,(pq2.map (·.1)).trans per1,λ x hx=>bq1 x (pq2.mem_iff.mp hx)⟩;right;rw[pq2.length_eq,pq.length_eq,z0L,z4o];exact⟨l1,by omega⟩
  ·rw[if_neg (by simp[full])];refine z05 (c true h1 sb1 ⟨_,_,_,⟨o1,ep+1,g1,ex1,d1⟩,⟨ent1,isp1 h1 sb1,nd1,T1',?_,f.led,pl0⟩,per1,bq1⟩);rw[pq.length_eq,z0L,z4o,msk0];unfold z9c at full;rw[fill1,msk0] at full;simp at full
   rcases f.msk with ⟨e,z⟩ | ⟨e,z⟩
   ·left;rw[e] at full;exact⟨e,by omega⟩
   ·right;exact⟨e,by omega⟩
end
section
variable {A:z0a}{R:z2u->z03->Prop}{I:Addr}{wr:List Addr}{P:Nat->z00->Prop}{Sx:Nat->Heap->Prop}{B:Addr->Prop}
theorem SetP.keep {h h':Heap}{a:Addr}{ps:List Pr5}(x:SetP prog w B h a ps) (e:∀ b,B b->∀ o,h.get? b=some o->h'.get? b=some o) (ea:∀ o,h.get? a=some o->h'.get? a=some o):SetP prog w B h' a ps:=by
 obtain⟨es,t,qs,⟨o,ep,g,q⟩,f,pm,bq⟩:=x;exact⟨es,t,qs,⟨o,ep,ea o g,q⟩,f.keep λ x hx o' g'=>e x.2 (bq x hx) o' g',pm,bq⟩
def metP (val:Nat->Pr5) (i:Nat):List Pr5:=((z0d i).map val).foldl addQ []
theorem P_ (val:Nat->Pr5) (i:Nat):metP val (i+1)=addQ (metP val i) (val i):=by simp[metP,z6L,List.foldl_append]
theorem Wr (val:Nat->Pr5):∀ i,(metP val i).length<=i
 | 0=>z06 _
 | i+1=>by
  have q:=Wr val i;rw[P_];unfold addQ;split<;>simp<;>omega
theorem xx (hu:A.units+1<z0h) (W:z1F prog w A.in1 I fp wr n P Sx) {S:Addr}(nS:S∉fp) (val:Nat->Pr5) (bs:Nat->Addr) (hv:∀ i v,P i v->v=.ref (bs i)) (hB:∀ i,i<n->B (bs i)) (nB:∀ b,B b->b∉wr/\b≠S) (hb:n<=17) :
    ∀ (m i:Nat) (s:z03),i+m=n->Sx i s.heap->SetP prog w B s.heap S (metP val i)->(∀ i,i<n->IsP prog w s.heap (val i) (bs i)) ->
      (∀ h' tk,.(36)->SetP prog w B h' S (metP val n)->R (.ok (.ret .none)) { s with heap:=h',toks:=tk }) ->
      z0Z (z04 prog w) A (.builtin "set.update.loop" ⟨[.ref S,.ref I],[]⟩) R s:=by
  have nW:S∉wr:=λ z=>nS (W.sub S z);have turn:∀ {s:z03},z02 (z04 prog w) A.in1 (do
        let some x <-z0K (.ref I) | ret .none
        let _ <-z1v [x] (setAdd S x)
        again (.builtin "set.update.loop" ⟨[.ref S,.ref I],[]⟩))
      (λ fin s'=>match fin with | .done f=>R (.ok f) s' | .again c'=>c'.quiet=true/\z0Z (z04 prog w) A c' R s') (λ e s'=>R (.error e) s') s->z0Z (z04 prog w) A (.builtin "set.update.loop" ⟨[.ref S,.ref I],[]⟩) R s:=λ q=>by
    refine z1A PyProof.Rows.F.entry_set_update_loop ?_;rw[z2p z9d _];exact q
  intro m
  induction m with
  | zero=>
    intro i s e st x _ k;have:i=n:=by omega
    subst this;exact turn (z01 (W.done s _ _ st λ h' tk kp=>z05 (k h' tk (λ b o nb _ q=>kp b o nb q) (x.keep (λ b hb o q=>kp b o (nB b hb).1 q) λ o q=>kp S o nW q))))
  | succ m ih=>
    intro i s e st x al k;refine turn (z01 (W.item i s _ _ (by omega) st λ v h1 tk pv st1 kp=>?_));obtain rfl:=hv i v pv;have x1:SetP prog w B h1 S (metP val i):=x.keep (λ b hb o q=>kp b o (nB b hb).1 q) λ o q=>kp S o nW q;have al1:∀ i,i<n->IsP prog w h1 (val i) (bs i):=λ i hi=>(al i hi).keep λ o q=>kp _ o (nB _ (hB i hi)).1 q;have hl:=Wr val i;have y:=al1 i (by omega);refine z01 (wpAny_holding (wpAny_holding (z01 (z7O (s:={ s with heap:=h1,toks:=tk }) (show A.in1.units<z0h from hu) y.2 ?_))));rw[pB y.1];refine xu (s:={ s with heap:=h1,toks:=tk+((kk (val i)).length+1) }) (w:=w) (show A.in1.units<z0h from hu) x1 y (hB i (by omega)) (by omega) λ b h2 sb x2=>z05 ⟨z20 z9d _,?_⟩;rw[<-P_] at x2;refine ih (i+1) { s with heap:=h2,toks:=tk+((kk (val i)).length+1) } (by omega) (W.frame _ _ _ st1 λ b m o q=>(sb.2 b λ z=>nS (z▸m)).trans q) x2 (λ i hi=>(al1 i hi).keep λ o q=>(sb.2 _ (nB _ (hB i hi)).2).trans q) λ h3 t3 kp3 x3=>?_;exact k h3 t3 (λ b o nb nS' q=>kp3 b o nb nS' ((sb.2 b nS').trans (kp b o nb q))) x3
structure PrsAt (prog:z0s) (w:z0k) (T:String) (l:Addr) (n:Nat) (bs:Nat->Addr) (h0:Heap):Prop where
 ty:∀ s:z03,(∀ o,h0.get? l=some o->s.heap.get? l=some o)->s.TypeIs (.ref l) T
 ns:isSubtype (.type T) (.type "set")=pure false
 nf:isSubtype (.type T) (.type "frozenset")=pure false
 nd:(z2h T==z2h "dict")=false
 lt:l<h0.objs.size
 it:∀ (A:z0a) (E:z00->z03->Prop) (s:z03) (Q:z00->z03->Prop),A.handled=none->(∀ o,h0.get? l=some o->s.heap.get? l=some o)->l<s.heap.objs.size ->
  (∀ (oI:Obj) (Sx:Nat->Heap->Prop) (P:Nat->z00->Prop),(∀ A':z0a,A'.handled=none->z1F prog w A' s.heap.objs.size [s.heap.objs.size,l] [s.heap.objs.size] n P Sx)->Sx 0 (s.heap.push oI)->(∀ i v,P i v->v=.ref (bs i))->Q .(6) { s with heap:=s.heap.push oI }) ->
  z02 (z04 prog w) A (z2t (.ref l)) Q E s
theorem YQ (h:Heap):SetP prog w B (h.push { cls:=.type "set",dict:=none,data:=.set #[] 0 (.fresh 0 0 (!btx w)) }) h.objs.size []:=
 ⟨#[],_,[],⟨_,0,z0l _ rfl,⟨rfl,rfl,rfl⟩,rfl⟩,⟨rfl,by simp,by simp,⟨rfl,by simp[z7k,Rise],rfl,by simp[z7k],by simp,by simp⟩,.inl ⟨rfl,by simp⟩,λ b=>by simp[z7k,b],rfl⟩,by simp,by simp⟩
theorem pF {B:Addr->Prop}{T:String}{l:Addr}{val:Nat->Pr5}{bs:Nat->Addr}(hu:A.units+4<z0h) (hh:A.handled=none) (X:PrsAt prog w T l n bs s.heap) (al:∀ i,i<n->IsP prog w s.heap (val i) (bs i)) (hb:n<=17) (hB:∀ i,i<n->B (bs i)) (lB:∀ b,B b->b<s.heap.objs.size)
  (k:∀ h' tk,SetP prog w B h' s.heap.objs.size (metP val n)->.(2)->Q .(6) { s with heap:=h',toks:=tk }):z02 (z04 prog w) A (call (.type "set") [.ref l]) Q E s:=by
 refine xn (Q1:=λ ob s1=>ob=.ref s.heap.objs.size/\s1={ s with heap:=s.heap.push { cls:=.type "set",dict:=none,data:=.set #[] 0 (.fresh 0 0 (!btx w)) } }) F.called_set (F.typeCall_set_1 _) (o_ _ ⟨rfl,rfl⟩) λ ob s1 ⟨e1,e2⟩=>?_;subst e1 e2;have ob:=z0l s.heap (o:={ cls:=.type "set",dict:=none,data:=.set #[] 0 (.fresh 0 0 (!btx w)) }) rfl;refine⟨⟨_,ob,rfl⟩,codeAny_call_builtin F.called_set.init.plain F.entry_set_init (check_set_init_1 ⟨_,ob,rfl⟩ ?_)⟩;have kl:∀ o,s.heap.get? l=some o->(s.heap.push { cls:=.type "set",dict:=none,data:=.set #[] 0 (.fresh 0 0 (!btx w)) }).get? l=some o:=λ o q=>z0e _ q;have ty:=X.ty { s with heap:=s.heap.push { cls:=.type "set",dict:=none,data:=.set #[] 0 (.fresh 0 0 (!btx w)) } } kl;have s1:=X.ns;have s2:=X.nf;have s3:=X.nd;unfold z1h.«set.__init__» noKeywords Builtin.Frozenset.updateFrom;generalize hp:z2t=PI
 wp_walk
 subst hp;refine X.it _ _ _ _ (by simp[hh]) kl (by rw[z1w];exact z2o X.lt) λ oI Sx P W st hv=>?_;refine z01 (z5I ?_);have szI:(s.heap.push { cls:=.type "set",dict:=none,data:=.set #[] 0 (.fresh 0 0 (!btx w)) }).objs.size=s.heap.objs.size+1:=z1w _ _;have x0:SetP prog w B ((s.heap.push { cls:=.type "set",dict:=none,data:=.set #[] 0 (.fresh 0 0 (!btx w)) }).push oI) s.heap.objs.size (metP val 0):=(YQ s.heap).keep (λ b _ o q=>z0e _ q) λ o q=>z0e _ q;refine xx .(17) (W _ (by simp[hh])) (S:=s.heap.objs.size) (λ z=>?_) val bs hv hB (λ b hb=>⟨λ z=>?_,z0j (lB b hb)⟩) hb n 0 _ (by omega) st x0 (λ i hi=>(al i hi).keep λ o q=>z0e _ (z0e _ q)) λ h' tk kp x=>?_
 ·rcases z0i.mp z with z | z
  ·rw[szI] at z;exact absurd z (z0j (z4f _))
  ·exact absurd (z2d.mp z) (z2I X.lt)
 ·have e:=z2d.mp z;rw[szI] at e;exact absurd e (z0j (z2o (lB b hb)))
 ·show z02 _ _ _ _ _ _;refine z05 (show z02 _ _ (ret z15) _ _ _ from z05 ⟨rfl,k h' tk x λ b o q=>?_⟩);have lb:b<s.heap.objs.size:=z0g q;exact kp b o (λ z=>by have e:=z2d.mp z;rw[szI] at e;exact absurd e (z0j (z2o lb))) (z0j lb) (z0e _ (z0e _ q))
end
end PV
namespace PV
open PySem PySem.W PyProof.Rows
section
variable {key:Nat->Nat}
def Sat (n:Nat) (key:Nat->Nat) {α:Type}:KasT α->(α->Prop)->Prop
 | .ret a,Q=>Q a
 | .ask i j k,Q=>i<n/\j<n/\Sat n key (k (decide (key i<key j))) Q
theorem Sat.bind {α β:Type}{f:α->KasT β}{Q:β->Prop}{R:α->Prop}:∀ {t:KasT α},Sat n key t R->(∀ a,R a->Sat n key (f a) Q)->Sat n key (t.bind f) Q
 | .ret a,h,k=>k a h
 | .ask i j g,h,k=>⟨h.1,h.2.1,Sat.bind h.2.2 k⟩
theorem Sat.wp {α:Type}{cmp:Nat->Nat->(Bool->z03->Prop)->z03->Prop}{s:z03}(hc:∀ i j C,i<n->j<n->C (decide (key i<key j)) s->cmp i j C s) {Q:α->Prop}{R:α->z03->Prop}(hr:∀ a,Q a->R a s):∀ {t:KasT α},Sat n key t Q->t.kasWp cmp R s
 | .ret a,h=>hr a h
 | .ask i j k,h=>hc i j _ h.1 h.2.1 (Sat.wp hc hr h.2.2)
structure Od (n:Nat) (p:Array Nat):Prop where
 sz:p.size=n
 pm:p.toList.Perm (z0d n)
theorem Od.lt {p:Array Nat}(o:Od n p) {i:Nat}(h:i<n):p.getD i 0<n:=by
 have hi:i<p.size:=by rw[o.sz];exact h
 rw[show p.getD i 0=p[i] by simp[hi]];have:p[i]∈p.toList:=by simp
 exact z0o.mp (o.pm.mem_iff.mp this)
theorem Od.inj {p:Array Nat}(o:Od n p) {i j:Nat}(hi:i<n) (hj:j<n) (e:p.getD i 0=p.getD j 0):i=j:=by
 have hi':i<p.size:=by rw[o.sz];exact hi
 have hj':j<p.size:=by rw[o.sz];exact hj
 rw[show p.getD i 0=p[i] by simp[hi'],show p.getD j 0=p[j] by simp[hj']] at e;have nd:p.toList.Nodup:=o.pm.nodup_iff.mpr z4y;refine (z7b (l:=p.toList) (by simpa using hi') nd).mp ?_;rw[z0F (by simpa using hi'),z0F (by simpa using hj')];simpa using e
def Asc (key:Nat->Nat) (p:Array Nat) (m:Nat):Prop:=∀ i j,i<j->j<m->key (p.getD i 0)<key (p.getD j 0)
def Dsc (key:Nat->Nat) (p:Array Nat) (m:Nat):Prop:=∀ i j,i<j->j<m->key (p.getD j 0)<key (p.getD i 0)
variable (inj:∀ i j,i<n->j<n->key i=key j->i=j)
include inj
theorem jL {p:Array Nat}(o:Od n p) {i j:Nat}(hi:i<n) (hj:j<n) (h:i≠j):key (p.getD i 0)≠key (p.getD j 0):=λ e=>h (o.inj hi hj (inj _ _ (o.lt hi) (o.lt hj) e))
theorem YS {p:Array Nat}(o:Od n p):∀ (f m:Nat),1<=m->m+f<=n->Asc key p m->Sat n key (kas_asc p f m) λ r=>m<=r/\r<=m+f/\Asc key p r/\(r<m+f->key (p.getD r 0)<key (p.getD (r-1) 0))
 | 0,m,h1,h2,a=>⟨z06 _,z06 _,a,λ z=>absurd z (by omega)⟩
 | f+1,m,h1,h2,a=>by
  refine⟨o.lt (by omega),o.lt (by omega),?_⟩
  by_cases c:key (p.getD m 0)<key (p.getD (m-1) 0)
  ·rw[decide_eq_true c];dsimp only;rw[if_pos rfl];exact⟨z06 _,by omega,a,λ _=>c⟩
  ·rw[decide_eq_false c];dsimp only;rw[if_neg (by simp)];have ne:=jL inj o (i:=m) (j:=m-1) (by omega) (by omega) (by omega);have a':Asc key p (m+1):=λ i j hij hj=>by
    by_cases e:j=m
    ·subst e
     by_cases e2:i=j-1
     ·subst e2;omega
     ·have:=a i (j-1) (by omega) (by omega);omega
    ·exact a i j hij (by omega)
   have:=YS o f (m+1) (by omega) (by omega) a';have up:∀ {t:KasT Nat},Sat n key t (λ r=>m+1<=r/\r<=m+1+f/\Asc key p r/\(r<m+1+f->key (p.getD r 0)<key (p.getD (r-1) 0)))->Sat n key t λ r=>m<=r/\r<=m+(f+1)/\Asc key p r/\(r<m+(f+1)->key (p.getD r 0)<key (p.getD (r-1) 0)):=λ {t}=>by
    induction t with
    | ret r=>exact λ h=>⟨by have:=h.1;omega,by have:=h.2.1;omega,h.2.2.1,λ z=>h.2.2.2 (by omega)⟩
    | ask i j k ih=>exact λ h=>⟨h.1,h.2.1,ih _ h.2.2⟩
   exact up this
theorem Zz {p:Array Nat}(o:Od n p):∀ (f m:Nat),1<=m->m+f<=n->Dsc key p m->Sat n key (kas_desc f p m 0) λ r=>r.1=p/\r.2.2=0/\m<=r.2.1/\r.2.1<=m+f/\Dsc key p r.2.1
 | 0,m,h1,h2,a=>⟨rfl,rfl,z06 _,z06 _,a⟩
 | f+1,m,h1,h2,a=>by
  refine⟨o.lt (by omega),o.lt (by omega),?_⟩;have ne:=jL inj o (i:=m) (j:=m-1) (by omega) (by omega) (by omega)
  by_cases c:key (p.getD m 0)<key (p.getD (m-1) 0)
  ·rw[decide_eq_true c];dsimp only;rw[if_pos rfl,if_neg (by omega)];have a':Dsc key p (m+1):=λ i j hij hj=>by
    by_cases e:j=m
    ·subst e
     by_cases e2:i=j-1
     ·subst e2;omega
     ·have:=a i (j-1) (by omega) (by omega);omega
    ·exact a i j hij (by omega)
   have:=Zz o f (m+1) (by omega) (by omega) a';have up:∀ {t:KasT (Array Nat×Nat×Nat)},Sat n key t (λ r=>r.1=p/\r.2.2=0/\m+1<=r.2.1/\r.2.1<=m+1+f/\Dsc key p r.2.1)->Sat n key t λ r=>r.1=p/\r.2.2=0/\m<=r.2.1/\r.2.1<=m+(f+1)/\Dsc key p r.2.1:=λ {t}=>by
    induction t with
    | ret r=>exact λ h=>⟨h.1,h.2.1,by have:=h.2.2.1;omega,by have:=h.2.2.2.1;omega,h.2.2.2.2⟩
    | ask i j k ih=>exact λ h=>⟨h.1,h.2.1,ih _ h.2.2⟩
   exact up this
  ·rw[decide_eq_false c];dsimp only;rw[if_neg (by simp)];refine⟨o.lt (by omega),o.lt (by omega),?_⟩;rw[decide_eq_true (show key (p.getD (m-1) 0)<key (p.getD m 0) by omega)];dsimp only;rw[if_pos rfl];exact⟨rfl,rfl,z06 _,Nat.le_add_right m (f+1),a⟩
omit inj
theorem Od.rev {p:Array Nat}(o:Od n p) (m:Nat):Od n (z4G p 0 m):=⟨(mirror_size _ _ _ _).trans o.sz,(z9e.mp (mirror_perm p 0 m _)).trans o.pm⟩
theorem jM {p:Array Nat}{m:Nat}(hm:m<=p.size) {k:Nat}(hk:k<m):(z4G p 0 m).getD k 0=p.getD (m-1-k) 0:=by
 have e:=getElem?_mirror (xs:=p) (i:=0) (j:=m) hm ((m-0)/2) (by omega) k;have:(z4G p 0 m)[k]?=p[m-1-k]?:=by
  unfold z4G;rw[e];split
  ·congr 1;omega
  ·congr 1;omega
 simp only[z9f,this]
include inj
theorem jN {p:Array Nat}(o:Od n p) (m:Nat) (h1:1<=m) (h2:m<=n) (d:Dsc key p m):Sat n key (kas_tail3 m n p) λ r=>Od n r.2/\1<=r.1/\r.1<=n/\Asc key r.2 r.1:=by
 have o':=o.rev m;have a:Asc key (z4G p 0 m) m:=λ i j hij hj=>by
  rw[jM (by rw[o.sz];exact h2) (by omega:i<m),jM (by rw[o.sz];exact h2) hj];exact d _ _ (by omega) (by omega)
 unfold kas_tail3;exact Sat.bind (YS inj o' (n-m) m h1 (by omega) a) λ r hr=>⟨o',by omega,by omega,hr.2.2.1⟩
theorem jO (h1:1<=n) {p:Array Nat}(o:Od n p):Sat n key (kas_count n p) λ r=>Od n r.2/\1<=r.1/\r.1<=n/\Asc key r.2 r.1:=by
 unfold kas_count;refine Sat.bind (YS inj o (n-1) 1 (z06 _) (by omega) λ i j hij hj=>by omega) λ m hm=>?_;obtain⟨m1,m2,a,ls⟩:=hm
 by_cases c:(m==n)=true
 ·rw[if_pos c];exact⟨o,m1,by omega,a⟩
 ·rw[if_neg c];have c':m≠n:=by simpa using c
  by_cases c1:m > 1
  ·rw[if_pos c1];refine⟨o.lt (by omega),o.lt (by omega),?_⟩;rw[decide_eq_true (a 0 (m-1) (by omega) (by omega))];dsimp only;rw[if_pos rfl];exact⟨o,m1,by omega,a⟩
  ·rw[if_neg c1];have e1:m=1:=by omega
   subst e1;have l0:=ls (by omega);unfold kas_descPart;have d:Dsc key p 2:=λ i j hij hj=>by
    have:i=0:=by omega
    have:j=1:=by omega
    subst i j;exact l0
   refine Sat.bind (Zz inj o (n-(1+1)) (1+1) (by omega) (by omega) d) λ r hr=>?_;obtain⟨r1,r2,r3,r4,r5⟩:=hr;rw[r2,if_neg (by omega),r1];exact jN inj o r.2.1 (by omega) (by omega) r5
omit inj
theorem R7 {p:Array Nat}(o:Od n p) {k:Nat}(hk:k<n) (a:Asc key p k):∀ (f l r:Nat),r-l<=f->l<=r->r<=k->(∀ i,i<l->¬ key (p.getD k 0)<key (p.getD i 0))->(∀ i,r<=i->i<k->key (p.getD k 0)<key (p.getD i 0))->Sat n key (kas_place p k f l r) λ x=>x<=k/\(∀ i,i<x->¬ key (p.getD k 0)<key (p.getD i 0))/\(∀ i,x<=i->i<k->key (p.getD k 0)<key (p.getD i 0))
 | 0,l,r,hf,hl,hr,h1,h2=>⟨by omega,h1,λ i hi hik=>h2 i (by omega) hik⟩
 | f+1,l,r,hf,hl,hr,h1,h2=>by
  unfold kas_place
  by_cases c:l≥r
  ·rw[if_pos c];exact⟨by omega,h1,λ i hi hik=>h2 i (by omega) hik⟩
  ·rw[if_neg c];refine⟨o.lt hk,o.lt (by omega),?_⟩
   by_cases d:key (p.getD k 0)<key (p.getD ((l+r)/2) 0)
   ·rw[decide_eq_true d];dsimp only;rw[if_pos rfl];refine R7 o hk a f l ((l+r)/2) (by omega) (by omega) (by omega) h1 λ i hi hik=>?_
    by_cases e:i=(l+r)/2
    ·subst e;exact d
    ·have:=a ((l+r)/2) i (by omega) hik;omega
   ·rw[decide_eq_false d];dsimp only;rw[if_neg (by simp)];refine R7 o hk a f ((l+r)/2+1) r (by omega) (by omega) hr (λ i hi=>?_) h2
    by_cases e:i=(l+r)/2
    ·subst e;exact d
    ·have:=a i ((l+r)/2) (by omega) (by omega);omega
include inj
theorem jP:∀ (f:Nat) {p:Array Nat}{k:Nat},Od n p->k+f=n->Asc key p k->Sat n key (kas_bin f p k) λ q=>Od n q/\Asc key q n
 | 0,p,k,o,e,a=>⟨o,by rw[<-e];exact a⟩
 | f+1,p,k,o,e,a=>by
  unfold kas_bin;refine Sat.bind (R7 o (by omega) a k 0 k (by omega) (by omega) (z06 _) (λ i hi=>by omega) λ i h1 h2=>by omega) λ l hl=>?_;obtain⟨l1,l2,l3⟩:=hl;have hs:k<p.size:=by rw[o.sz];omega
  have o':Od n (bubble p k (k-l)):=⟨(bubble_size _ _ _).trans o.sz,(z9e.mp (bubble_perm p k _)).trans o.pm⟩;have at_:∀ i,(bubble p k (k-l)).getD i 0=if i=l then p.getD k 0 else if l<i/\i<=k then p.getD (i-1) 0 else p.getD i 0:=λ i=>by
   have e:=getElem?_bubble hs (k-l) (by omega) i;rw[show k-(k-l)=l by omega] at e;simp only[z9f,e];split
   ·rfl
   ·split<;>rfl
  refine jP f o' (by omega) λ i j hij hj=>?_;rw[at_ i,at_ j];have hne:∀ x,x<k->key (p.getD k 0)≠key (p.getD x 0):=λ x hx=>jL inj o (by omega) (by omega) (by omega)
  by_cases i1:i=l
  ·rw[if_pos i1,if_neg (by omega),if_pos (by omega)];exact l3 (j-1) (by omega) (by omega)
  ·rw[if_neg i1]
   by_cases j1:j=l
   ·rw[if_pos j1,if_neg (by omega)];have:=l2 i (by omega);have:=hne i (by omega);omega
   ·rw[if_neg j1]
    by_cases i2:l<i/\i<=k
    ·rw[if_pos i2,if_pos (by omega)];exact a _ _ (by omega) (by omega)
    ·rw[if_neg i2]
     by_cases j2:l<j/\j<=k
     ·rw[if_pos j2]
      by_cases e2:i=j-1
      ·omega
      ·exact a _ _ (by omega) (by omega)
     ·rw[if_neg j2];exact a _ _ (by omega) (by omega)
theorem pG (h1:1<=n):Sat n key (kas_sort n) λ q=>Od n q/\Asc key q n:=by
 have o:Od n (z9g (z0d n)):=⟨by simp,by simp⟩;unfold kas_sort;refine Sat.bind (jO inj h1 o) λ r hr=>?_;obtain⟨r1,r2,r3,r4⟩:=hr
 by_cases c:r.1<n
 ·rw[if_pos c,show max r.1 1=r.1 by omega];exact jP inj (n-r.1) r1 (by omega) r4
 ·rw[if_neg c];have:r.1=n:=by omega
  exact⟨r1,this▸r4⟩
end
end PV
namespace PV
open PySem PySem.Spec L2 PySem.W
open PyProof.Rows (seqObj listItems_at listUpdate_at seqEpoch_at list_sort_plain sortedHeap get?_update_seq keyLt' tuples' keyKind' oneLt' oneLt_int arrOf failedOf SortSt general' pairsOf)
def cod (p:Pr5):Nat:=5*p.1+p.2
section
variable {A:z0a}
theorem IsP.items {p:Pr5}(x:IsP prog w h p b):∃ o n t u,h.get? b=some o/\o.cls=.type "tuple"/\o.data=.seq #[.int (p.1:Int) t,.int (p.2:Int) u] n:=by
 obtain⟨_,o,us,n,g,c,d,i⟩:=x;unfold kk at i;generalize e:us.toList=l at i;cases i with
 | @cons _ v1 _ vs1 h1 i=>
  cases i with
  | @cons _ v2 _ vs2 h2 i=>
   cases i;have f:∀ {k:Int}{v:z00},(Aq prog w).is (.inl k) v=true->∃ t,v=.int k t:=λ {k v} hk=>by
    rcases Bo (show QX (.inl k) v=true from hk) with ⟨j,t,e1,e2⟩ | ⟨y,t,e1,_⟩
    ·have:=z47 e1;subst this;exact⟨t,e2⟩
    ·cases e1
   obtain⟨t,rfl⟩:=f h1;obtain⟨u,rfl⟩:=f h2;refine⟨o,n,t,u,g,c,?_⟩;rw[d];congr 1;exact z6T.mp e
theorem x_ {p q:Pr5}{c:Addr}{Q:Bool->z03->Prop}(x:IsP prog w s.heap p b) (y:IsP prog w s.heap q c) (k:Q (decide (cod p<cod q)) s):z02 (z04 prog w) A (keyLt' (tuples' true) (.ref b) (.ref c)) Q E s:=by
 have p5:=x.1;have q5:=y.1;obtain⟨o,n,t,u,g,_,d⟩:=x.items;obtain⟨o2,n2,t2,u2,g2,_,d2⟩:=y.items;obtain⟨p1,p2⟩:=p;obtain⟨q1,q2⟩:=q;obtain⟨h1,h2⟩:p1<5/\p2<5:=p5;obtain⟨h3,h4⟩:q1<5/\q2<5:=q5;unfold cod at k;simp only at k;refine kat_lt g d g2 d2 ?_;show KatLex _ _ _ _ _ _ [(.int (p1:Int) t,.int (q1:Int) t2),(.int (p2:Int) u,.int (q2:Int) u2)] 0 s;refine kat_cons (z60 (kat_go (λ e=>?_) λ e=>?_))
 ·have e1:p1=q1:=by have:=eq_of_beq e;omega
  refine kat_yes (kat_cons (z60 (kat_go (λ e2=>?_) λ e2=>?_)))
  ·have e3:p2=q2:=by have:=eq_of_beq e2;omega
   refine kat_yes (kat_nil ?_);rw[decide_eq_false (by omega)] at k;exact k
  ·refine kat_no (kat_one _ _ (PyProof.Rows.lt_int ?_));show Q (decide ((p2:Int)<(q2:Int))) s;rw[show decide ((p2:Int)<(q2:Int))=decide (5*p1+p2<5*q1+q2) by rw[decide_eq_decide];omega];exact k
 ·have e1:p1≠q1:=λ z=>by rw[z] at e;simp at e
  refine kat_no (oneLt_int ?_);rw[show decide ((p1:Int)<(q1:Int))=decide (5*p1+p2<5*q1+q2) by rw[decide_eq_decide];omega];exact k
theorem jQ {h:Heap}:∀ {qs:List .(39)},(∀ x∈qs,IsP prog w h x.1 x.2)->∃ fs:List z00,KatTups h (qs.map λ x=>.ref x.2) fs/\fs.length=qs.length/\∀ v∈fs,∃ i t,v=z37 i t
 | [],_=>⟨[],KatTups.nil,rfl,by simp⟩
 | x::r,hx=>by
  obtain⟨fs,a,b,c⟩:=jQ (qs:=r) λ y hy=>hx y (by simp[hy]);obtain⟨o,n,t,u,g,cl,d⟩:=(hx x (by simp)).items;refine⟨.int (x.1.1:Int) t::fs,KatTups.cons g cl d rfl a,by simp[b],λ v hv=>?_⟩
  rcases z0i.mp hv with rfl | hv
  ·exact⟨_,_,rfl⟩
  ·exact c v hv
theorem Z0 {p q:Pr5}(a:In5 p) (b:In5 q) (e:cod p=cod q):p=q:=by
 obtain⟨p1,p2⟩:=p;obtain⟨q1,q2⟩:=q;obtain⟨h1,h2⟩:p1<5/\p2<5:=a;obtain⟨h3,h4⟩:q1<5/\q2<5:=b;unfold cod at e;simp only at e;have:p1=q1:=by omega
 have:p2=q2:=by omega
 rw[‹p1=q1›,‹p2=q2›]
theorem Z1 {α:Type}:∀ l:List α,(l.zip l).map (·.2)=l
 | []=>rfl
 | x::r=>by rw[z4S,z0c,Z1 r]
theorem R8 {qs:List .(39)}{P:Fin->z03->Prop}(ho:s.heap.get? a=some (seqObj "list" (qs.map λ x=>z0b x.2).toArray n)) (isp:∀ x∈qs,IsP prog w s.heap x.1 x.2) (nd:(qs.map (·.1)).Nodup) (h64:qs.length<64)
  (k:∀ qs':List .(39),qs'.Perm qs->(qs'.map λ x=>cod x.1).Pairwise (·<·)->P (.done (.ret .none)) { s with heap:=sortedHeap s.heap a (qs.map λ x=>z0b x.2) (qs'.map λ x=>z0b x.2).toArray }) :
  z02 (z04 prog w) A (z1h.«list.sort» ⟨[.ref a],[]⟩) P E s:=by
 generalize hvs:(qs.map λ x=>z0b x.2)=vs at ho k;have lv:vs.length=qs.length:=by rw[<-hvs,z07]
 rw[list_sort_plain];have ha:a<s.heap.objs.size:=z0g ho;refine z01 (listItems_at ho rfl ?_);refine z01 (z7l ho rfl ?_ (by rw[z0t,z1u];omega) (z19 _));obtain⟨e1,ho1⟩:∃ e1,(s.heap.update a (z1Z λ _=>#[])).get? a=some (seqObj "list" #[] e1):=⟨_,get?_update_seq ho (λ _=>#[])⟩;refine z01 (z7m ho1 rfl ?_);refine z01 (wpAny_newTuple ?_ (by show vs.length<=_;rw[z1u];omega));refine z01 (z40 ?_ (z19 _));refine wpAny_holding ?_;generalize hg:((s.heap.update a (z1Z λ _=>#[])).push (seqObj "tuple" vs.toArray 0)).push (seqObj "list" #[] 0)=g6;have ho6:g6.get? a=some (seqObj "list" #[] e1):=by
  rw[<-hg];exact z0e _ (z0e _ ho1)
 have isp6:∀ x∈qs,IsP prog w g6 x.1 x.2:=λ x hx=>(isp x hx).keep λ o g=>by
  rw[<-hg];have ne:x.2≠a:=λ z=>by
   obtain⟨o2,_,_,_,g2,c2,_⟩:=(isp x hx).items;rw[z] at g2;cases g2.symm.trans ho;have c3:z2h "list"=z2h "tuple":=c2;injection c3 with c3
   exact absurd c3 (by decide)
  exact z0e _ (z0e _ ((z0_ _ _ (z0n ne)).trans g))
 have hG:sortedHeap s.heap a vs=λ out=>g6.update a (z1Z λ _=>out):=by funext out;rw[<-hg];rfl
 dsimp only
 by_cases h2:vs.toArray.size<2
 ·rw[if_pos h2,if_pos h2];refine z01 (z05 ?_);rw[StateT.run_pure];refine z01 (z05 ?_);dsimp only;refine z01 (z7m ho6 rfl ?_);refine z01 (z7l ho6 rfl ?_ (hsz2:=by rw[Array.size_map];show (pairsOf vs).size<=_;rw[PyProof.Rows.pairsOf_size,z1u];omega));simp only[bne_self_eq_false,z0G,if_false];refine z05 ?_;have:=k qs (z4F _) (by
   rw[z0t,lv] at h2
   match qs,h2 with
   | [],_=>exact z5t
   | [x],_=>exact List.pairwise_singleton _ _)
  rw[hvs,hG] at this;have ez:(arrOf (z9h general' (vs.toArray.zip vs.toArray) #[] 7 none)).map (·.2)=vs.toArray:=by
   show (vs.toArray.zip vs.toArray).map (·.2)=vs.toArray;apply z6T.mp;simp[Z1]
  rw[show (vs.toArray.zip vs.toArray)=pairsOf vs from rfl] at ez;show P _ { s with heap:=g6.update a (z1Z λ _=>(arrOf (z9h general' (pairsOf vs) #[] 7 none)).map (·.2)) };rw[ez];exact this
 ·rw[if_neg h2,if_neg h2];have l2:2<=vs.length:=by rw[z0t] at h2;omega
  obtain⟨fs,t1,t2,t3⟩:=jQ isp6;rw[hvs] at t1;refine z01 (kat_kind (s:={ s with heap:=g6 }) (T:=z2h "int") t1 (by rw[t2,<-lv];omega) (λ v hv=>?_) (by decide) ?_)
  ·obtain⟨i,t,rfl⟩:=t3 v hv;exact .now
  show z02 (z04 prog w) A _ P E { s with heap:=g6 };rw[show (z2h "int" != z2h "tuple")=true by decide];have at_:∀ i (h:i<qs.length),vs.getD i z15=.ref qs[i].2:=λ i h=>by
   rw[<-hvs];simp[h]
  have inj:∀ i j,i<vs.length->j<vs.length->(λ i=>cod (qs.getD i ((0,0),0)).1) i=(λ i=>cod (qs.getD i ((0,0),0)).1) j->i=j:=λ i j hi hj e=>by
   rw[lv] at hi hj;simp only[show qs.getD i ((0,0),0)=qs[i] by simp[hi],show qs.getD j ((0,0),0)=qs[j] by simp[hj]] at e;have e2:=Z0 (isp _ (z1d hi)).1 (isp _ (z1d hj)).1 e;refine (z7b (l:=qs.map (·.1)) (by simpa using hi) nd).mp ?_;rw[z0q,z0q,z0F hi,z0F hj];exact congrArg some e2
  have run:=Sat.wp (cmp:=kas_ask prog w A (tuples' true) vs) (s:={ s with heap:=g6 }) (λ i j C hi hj hC=>by
   rw[lv] at hi hj;unfold kas_ask;rw[at_ i hi,at_ j hj];refine x_ (isp6 _ (z1d hi)) (isp6 _ (z1d hj)) ?_;simp only[show qs.getD i ((0,0),0)=qs[i] by simp[hi],show qs.getD j ((0,0),0)=qs[j] by simp[hj]] at hC;exact hC) (Q:=λ q=>Od vs.length q/\Asc (λ i=>cod (qs.getD i ((0,0),0)).1) q vs.length) (R:=λ q z=>z={ s with heap:=g6 }/\Od vs.length q/\Asc (λ i=>cod (qs.getD i ((0,0),0)).1) q vs.length) (λ q hq=>⟨rfl,hq⟩) (pG inj (by omega))
  refine z01 (z1s (kat_run (Q:=λ st' z=>z={ s with heap:=g6 }/\∃ p:Array Nat,arrOf st'=p.map (kas_item (vs.toArray.zip vs.toArray))/\failedOf st'=none/\Od vs.length p/\Asc (λ i=>cod (qs.getD i ((0,0),0)).1) p vs.length) rfl l2 (by omega) (λ p st' z a1 a2 a3 a4=>⟨a4.1,p,a2,a3,a4.2.1,a4.2.2⟩) run) ?_ λ _ _ e=>e);rintro⟨⟨⟩,st'⟩ z ⟨rfl,p,har,hf,od,asc⟩;dsimp only;have hout:=kat_snds (ks:=vs) (vs:=vs) rfl har;have oq:(z9g (p.toList.map λ i=>vs.getD i z15))=((p.toList.map λ i=>qs.getD i ((0,0),0)).map λ x=>z0b x.2).toArray:=by
   rw[z0p];congr 1;refine z3l λ i hi=>?_;have hi:=z0o.mp (od.pm.mem_iff.mp hi);rw[lv] at hi;rw[at_ i hi];simp[hi]
  rw[hout,oq];have per:(p.toList.map λ i=>qs.getD i ((0,0),0)).Perm qs:=by
   have e:(z0d vs.length).map (λ i=>qs.getD i ((0,0),0))=qs:=by
    apply z91
    ·simp[lv]
    ·intro i h1 h2;simp[h2]
   have:=od.pm.map λ i=>qs.getD i ((0,0),0)
   rwa [e] at this
  have srt:((p.toList.map λ i=>qs.getD i ((0,0),0)).map λ x=>cod x.1).Pairwise (·<·):=by
   rw[z0p,z1B,z3Z];intro i j hi hj hij;have hi':i<p.size:=by simpa using hi
   have hj':j<p.size:=by simpa using hj
   have:=asc i j hij (by rw[<-od.sz];exact hj');rw[show p.getD i 0=p[i] by simp[hi'],show p.getD j 0=p[j] by simp[hj']] at this;simpa using this
  refine z01 (z7m ho6 rfl ?_);refine z01 (z7l ho6 rfl ?_ (hsz2:=by
   rw[z0t,z07,per.length_eq,z1u];omega))
  rw[hf];simp only[bne_self_eq_false,z0G,if_false];have:=k _ per srt;rw[hG] at this;exact z05 this
end
end PV
namespace PV
open PySem PySem.Spec
theorem MF:z9i "set_iterator" "__next__" "set_iterator.__next__":=
 .of (owner:="set_iterator") (n:="__next__") (by rw[typeLookup_type,z9j];kernel_rfl) .(34) .(34) .(34) (by first | exact .inl .(34) | exact .inr .(34)) (by rw[z2V];kernel_rfl)
theorem Ws:entryFor table "set_iterator.__next__"=some z1h.«set_iterator.__next__»:=entryFor_of_tree (by kernel_rfl)
theorem jR:Manifest.owners.lookup (String.ofList ['r','o','t','a','r','e','t','i','_','t','e','s'].reverse)=some Manifest.sig_set_iterator:=by kernel_rfl
theorem Z2 (a:z00):z2U "set_iterator.__next__" ⟨[a],[]⟩:=by
 unfold z2U;rw[signature?_of (id:="set_iterator.__next__") (n:=['_','_','t','x','e','n','_','_']) (o:=['r','o','t','a','r','e','t','i','_','t','e','s']) (by kernel_rfl) jR]
 kernel_rfl
section
variable {A:z0a}{I T:Addr}{first:z00}{t:SetTable}
def ItX (h:Heap) (I q:Addr) (first:z00) (j n ep:Nat):Prop:=∃ o,h.get? I=some o/\o.cls=.type "set_iterator"/\o.data=.fields #[first,.int j 0,.ref q,.int n 0,.int ep 0]
def K8 (h:Heap) (q:Addr) (es:Array (Int×z00)) (ep:Nat) (t:SetTable):Prop:=∃ o,h.get? q=some o/\o.ExactSet/\o.data=.set es ep t
theorem ItX.ty (x:ItX s.heap I q first j n ep):s.TypeIs (.ref I) "set_iterator":=let ⟨o,g,c,_⟩:=x;⟨o,g,c⟩
theorem ItX.put0 (x:ItX h I q first j n ep) (f2:z00):ItX (h.update I (z3n (·.setIfInBounds 0 f2))) I q f2 j n ep:=by
 obtain⟨o,g,c,d⟩:=x;exact⟨_,z1G _ g (z5r (z3p d _)),(z5s ..).trans c,by rw[z3p d];simp⟩
theorem ItX.put1 (x:ItX h I q first j n ep):ItX (h.update I (z3n (·.setIfInBounds 1 (z0H ((j:Int)+1))))) I q first (j+1) n ep:=by
 obtain⟨o,g,c,d⟩:=x;exact⟨_,z1G _ g (z5r (z3p d _)),(z5s ..).trans c,by rw[z3p d];simp[z0H]⟩
theorem VN {a:Addr}(z:s.heap=h) (x:ItX h I q first j n ep) {i:Nat}(hi:i<5) {v:z00}{Q:Unit->z03->Prop}(k:Q () { s with heap:=h.update I (z3n (·.setIfInBounds i v)) }):z02 (z04 prog w) A (setField (.ref I) i v) Q E s:=by
 subst z;obtain⟨o,g,_,d⟩:=x;exact z3o g d (by simpa using hi) k
theorem pH {sl:Int}{v:z00}{nx:Nat}{Q:Option z00->z03->Prop}(x:ItX s.heap I q (.int sl 0) j n ep) (y:K8 s.heap q es ep t) (hf:t.fits es.size=true) (hn:es.size=n)
  (hx:∀ (B:z0a) (E2:z00->z03->Prop) (R:Option (z00×Nat)->z03->Prop),R (some (v,nx)) s->z02 (z04 prog w) B (z2Y q sl.toNat j ep) R E2 s)
  (k:∀ h',z14 I s.heap h'->ItX h' I q (.int nx 0) (j+1) n ep->Q (some v) { s with heap:=h' }):z02 (z04 prog w) A (z0K (.ref I)) Q E s:=by
 obtain⟨o,g,c,d⟩:=id x;obtain⟨oq,gq,_,dq⟩:=y;unfold z0K;refine z01 (z3W (z2x (name:=z0E "__next__") x.ty MF (z1k MF x.ty Ws ?_ (Z2 _))));unfold z1h.«set_iterator.__next__»;refine z01 (z05 (z01 (z5p g d ?_)));dsimp only;refine z01 (z7n gq dq hf ?_);rw[if_neg (by rw[hn];simp),z1a,z1a];refine z01 (hx _ _ _ ?_);refine z01 (VN (a:=I) rfl x (by decide) (z01 (VN (a:=I) rfl (x.put0 (z0H nx)) (by decide) (z05 ⟨v,rfl,z05 ?_⟩))));exact k _ ((z3X ..).trans (z3X ..)) (x.put0 (z0H nx)).put1
theorem pI {Q:Option z00->z03->Prop}{z:z03}(hh:A.handled=none) (k:∀ h',(∀ b o,z.heap.get? b=some o->h'.get? b=some o)->Q none { z with heap:=h' }) :
  z02 (z04 prog w) A.in1 (z3V (.type "StopIteration") [] >>= λ e=>(raiseNew e:Sem Fin)) (λ fin s'=>∃ v,fin=Fin.done (Flow.ret v)/\z02 (z04 prog w) A (pure (some v)) Q E s')
   (λ e s'=>z02 (z04 prog w) A (z4R e (.type "StopIteration") >>= λ b=>if b=true then pure none else throw e) Q E s') z:=by
 refine z01 ?_;simp only[z3V,z5o];refine z01 (z1Q ?_ (by size_fits));refine z01 (m:=z5J _ _) (z4t (a:=z15) (by first | rfl | (simp only[z5J];rfl)) (z1Q ?_ (by size_fits)));unfold raiseNew;refine z01 (wpAny_handled ?_);rw[show A.in1.handled=none from hh];refine z01 (z05 (wpAny_throw ?_));have ty:∀ (h0:Heap) (ob:Obj),ob.cls=.type "StopIteration"->ob.isFreed=false->z6Y { z with heap:=h0.push ob } (.ref h0.objs.size) "StopIteration":=λ h0 ob c f=>⟨ob,z0l _ f,c⟩;refine z01 (z35 (T:="StopIteration") (b:=true) (ty _ _ rfl rfl) z73 ?_);refine z05 (k _ λ b o e=>?_);exact z0e _ (z0e _ e)
theorem pJ {sl:Int}{Q:Option z00->z03->Prop}(hh:A.handled=none) (x:ItX s.heap I q (.int sl 0) j n ep) (y:K8 s.heap q es ep t) (hf:t.fits es.size=true) (hn:es.size=n)
  (hx:∀ (B:z0a) (E2:z00->z03->Prop) (R:Option (z00×Nat)->z03->Prop),R none s->z02 (z04 prog w) B (z2Y q sl.toNat j ep) R E2 s)
  (k:∀ h',(∀ b o,b≠I->s.heap.get? b=some o->h'.get? b=some o)->Q none { s with heap:=h' }):z02 (z04 prog w) A (z0K (.ref I)) Q E s:=by
 obtain⟨o,g,c,d⟩:=id x;obtain⟨oq,gq,_,dq⟩:=y;unfold z0K;refine z01 (z3W (z2x (name:=z0E "__next__") x.ty MF (z1k MF x.ty Ws ?_ (Z2 _))));unfold z1h.«set_iterator.__next__»;refine z01 (z05 (z01 (z5p g d ?_)));dsimp only;refine z01 (z7n gq dq hf ?_);rw[if_neg (by rw[hn];simp),z1a,z1a];refine z01 (hx _ _ _ (z01 (VN (a:=I) rfl x (by decide) (pI hh λ h' kp=>k h' λ b o nb e=>kp b o ?_))));exact (z0_ _ _ (z0n nb)).trans e
end
end PV
namespace PV
open PySem L2
theorem J4 (a:Str):ltS a a=false:=by
 unfold ltS;exact decide_eq_false (List.lt_irrefl _)
theorem QB {a b:Str}(h1:ltS a b=true) (h2:ltS b c=true):ltS a c=true:=by
 unfold ltS at *;exact decide_eq_true (List.lt_trans (of_decide_eq_true h1) (of_decide_eq_true h2))
theorem Z3 {a b:Str}(h1:ltS a b=false) (h2:a≠b):ltS b a=true:=by
 unfold ltS at *;have h1':=of_decide_eq_false h1;have h3:b.cps.toList<=a.cps.toList:=z9k.mp h1'
 rcases Decidable.em (b.cps.toList<a.cps.toList) with h | h
 ·exact decide_eq_true h
 ·exfalso;have h4:a.cps.toList<=b.cps.toList:=z9k.mp h;have e:a.cps.toList=b.cps.toList:=List.le_antisymm h4 h3;apply h2;cases a;cases b;simp at e;rw[e]
def Up (l:List Str):Prop:=l.Pairwise λ a b=>ltS a b=true
theorem R9 (x y:Str):∀ l:List Str,y∈insS x l↔y=x∨y∈l
 | []=>by simp[insS]
 | z::r=>by
  unfold insS;split
  ·simp
  ·split
   ·rename_i _ e;subst e;simp
   ·simp[R9 x y r];constructor
    ·rintro (h | h | h)
     ·exact .inr (.inl h)
     ·exact .inl h
     ·exact .inr (.inr h)
    ·rintro (h | h | h)
     ·exact .inr (.inl h)
     ·exact .inl h
     ·exact .inr (.inr h)
theorem Z4 (x:Str):∀ {l:List Str},Up l->Up (insS x l)
 | [],_=>by simp[insS,Up]
 | z::r,h=>by
  obtain⟨h1,h2⟩:=z23.mp h;unfold insS;split
  ·rename_i hlt;exact z23.mpr ⟨λ y hy=>by
    rcases z0i.mp hy with rfl | hy
    ·exact hlt
    ·exact QB hlt (h1 y hy),h⟩
  ·rename_i hn;split
   ·exact h
   ·rename_i hne;refine z23.mpr ⟨λ y hy=>?_,Z4 x h2⟩
    rcases (R9 x y r).mp hy with rfl | hy
    ·exact Z3 (by simpa using hn) hne
    ·exact h1 y hy
theorem Oe (l:List Str):Up (Fz l):=by
 unfold Fz
 induction l with
 | nil=>exact z5t
 | cons x r ih=>exact Z4 x ih
theorem MJ (y:Str) (l:List Str):y∈Fz l↔y∈l:=by
 unfold Fz
 induction l with
 | nil=>simp
 | cons x r ih=>rw[z5K,R9,ih];simp
theorem jT {l:List Str}(h:Up l):l.Nodup:=h.imp λ {a b} hab e=>by
 subst e;rw[J4] at hab;cases hab
theorem sub_len:∀ {l m:List Str},l.Nodup->(∀ x∈l,x∈m)->l.length<=m.length
 | [],_,_,_=>z19 _
 | x::r,m,h,hs=>by
  obtain⟨h1,h2⟩:=z2m.mp h;have hx:x∈m:=hs x z0O;have:=sub_len (l:=r) (m:=m.erase x) h2 λ y hy=>(z5v (λ e=>by subst e;exact h1 hy)).mpr (hs y (z0y _ hy));rw[z5w hx] at this;have hp:0<m.length:=z5x hx;simp;omega
theorem YT:∀ {l m:List Str},Up l->Up m->(∀ x,x∈l↔x∈m)->l=m
 | [],[],_,_,_=>rfl
 | [],y::s,_,_,h=>by have:=(h y).mpr z0O;simp at this
 | x::r,[],_,_,h=>by have:=(h x).mp z0O;simp at this
 | x::r,y::s,h1,h2,h=>by
  obtain⟨a1,a2⟩:=z23.mp h1;obtain⟨b1,b2⟩:=z23.mp h2;have e:x=y:=by
   rcases z0i.mp ((h x).mp z0O) with e | hx
   ·exact e
   ·rcases z0i.mp ((h y).mpr z0O) with e | hy
    ·exact e.symm
    ·have:=QB (a1 y hy) (b1 x hx);rw[J4] at this;cases this
  subst e;have:r=s:=YT a2 b2 λ z=>by
   constructor
   ·intro hz
    rcases z0i.mp ((h z).mp (z0y _ hz)) with e | q
    ·subst e;have:=a1 z hz;rw[J4] at this;cases this
    ·exact q
   ·intro hz
    rcases z0i.mp ((h z).mpr (z0y _ hz)) with e | q
    ·subst e;have:=b1 z hz;rw[J4] at this;cases this
    ·exact q
  rw[this]
end PV
namespace PV
open PySem PySem.Spec
theorem Z5:z9i "set_iterator" "__iter__" "set_iterator.__iter__":=
 .of (owner:="set_iterator") (n:="__iter__") (by rw[typeLookup_type,z9j];kernel_rfl) .(34) .(34) .(34) (by first | exact .inl .(34) | exact .inr .(34)) (by rw[z2V];kernel_rfl)
theorem jU:entryFor table "set_iterator.__iter__"=some z1h.«dict_keyiterator.__iter__»:=entryFor_alias (id':="dict_keyiterator.__iter__") (by kernel_rfl) rfl .(34) (by kernel_rfl)
theorem pK (a:z00):z2U "set_iterator.__iter__" ⟨[a],[]⟩:=by
 unfold z2U;rw[signature?_of (id:="set_iterator.__iter__") (n:=['_','_','r','e','t','i','_','_']) (o:=['r','o','t','a','r','e','t','i','_','t','e','s']) (by kernel_rfl) jR]
 kernel_rfl
theorem VP:entryFor table "set.__iter__"=some z1h.«frozenset.__iter__»:=entryFor_alias (id':="frozenset.__iter__") (by kernel_rfl) rfl .(34) (by kernel_rfl)
section
variable {A:z0a}{I T:Addr}{first:z00}{t:SetTable}
theorem Ib {α:Type}:∀ {l:List α}{i:Nat}(h:i<l.length),(l[i]::l.eraseIdx i).Perm l
 | x::r,0,_=>z4F _
 | x::r,i+1,h=>(z9a x (r[i]'(by simpa using h)) _).trans (z5G x (Ib (by simpa using h)))
theorem jV {src:Source}{Q:Nat->z03->Prop}(hn:n≠0) (k:∀ i d,i<n->Q i { s with drawn:=d }):z02 M A (choose src n) Q E s:=λ Γ p _=>by
 show Sem.wp M Γ (.choose src n .pure) _ _ p s;rw[Sem.wp_choose];exact⟨hn,k _ _ (z5C _ (z96 hn))⟩
theorem R_ {α:Type}{M:Model}:∀ (m:Nat) (xs:List α) (s:z03) {Q:List α->z03->Prop},xs.length=m->(∀ ys d,ys.Perm xs->Q ys { s with drawn:=d })->z02 M A (drawOrder m xs) Q E s
 | 0,xs,s,Q,hl,k=>by
  have:xs=[]:=z2C.mp hl;subst this;exact z05 (k [] s.drawn (z4F _))
 | m+1,[],s,Q,hl,k=>by simp at hl
 | m+1,x::r,s,Q,hl,k=>by
  show z02 M A (choose .order (x::r).length >>= _) Q E s;refine z01 (jV (by simp) λ i d hi=>?_);have hg:(x::r)[i]?=some (x::r)[i]:=by simp
  simp only[hg];refine z01 (R_ m ((x::r).eraseIdx i) _ (by rw[z9l,if_pos hi];simp at hl ⊢;omega) λ ys d2 hp=>z05 (k _ d2 ?_));exact (z5G _ hp).trans (Ib hi)
theorem UJ {α:Type}(f:Nat->Nat) (xs:Array α):(z2Z f xs).toList.Perm xs.toList:=by
 have go:∀ (m k:Nat) (l:List α) (out:Array α),l.length=m->(z7o f m k l out).toList.Perm (out.toList++l):=by
  intro m
  induction m with
  | zero=>intro k l out hl;have:l=[]:=z2C.mp hl;subst this;simp[z7o]
  | succ m ih=>
   intro k l out hl;have hi:f k%l.length<l.length:=z5C _ (by omega);have hg:l[f k%l.length]?=some l[f k%l.length]:=by simp[hi]
   unfold z7o;simp only[hg];refine (ih _ _ _ (by rw[z9l,if_pos hi];omega)).trans ?_;rw[Array.toList_push,z6R];exact List.Perm.append_left _ (Ib hi)
 have:=go xs.size 0 xs.toList #[] (by simp);simpa [z2Z] using this
theorem K8.keep (y:K8 h q es ep t) (e:∀ o,h.get? q=some o->h'.get? q=some o):K8 h' q es ep t:=let ⟨o,g,r⟩:=y;⟨o,e o g,r⟩
theorem ItX.keep (x:ItX h I q first j n ep) (e:∀ o,h.get? I=some o->h'.get? I=some o):ItX h' I q first j n ep:=let ⟨o,g,r⟩:=x;⟨o,e o g,r⟩
theorem pM (x:ItX s.heap I q first j n ep) (k:Q (.ref I) s):z02 (z04 prog w) A (z2t (.ref I)) Q E s:=by
 refine z74 x.ty Z5 (z1k Z5 x.ty jU ?_ (pK _));show z02 _ _ (ret (.ref I)) _ _ s;exact z05 ⟨_,rfl,"set_iterator",_,x.ty,MF.lookup,k⟩
end
section
variable {A:z0a}{I T:Addr}{first:z00}{t:SetTable}
end
section
variable {A:z0a}{I T:Addr}
theorem jW {Q:Bool->z03->Prop}(ty:s.TypeIs (.ref q) "set") (k:Q false s):z02 (z04 prog w) A (z9m (.ref q)) Q E s:=by
 unfold z9m;refine z01 (z2r ty F.slot_set_len.lookup ?_);generalize nm:("set.__len__":String)=sid
 wp_delta
 rw[show splitId sid=some ("set","__len__") by subst nm;decide +kernel];subst nm;refine z01 (z35 (T:="set") (b:=true) ty (by rw[z2V];kernel_rfl) ?_);refine wpAny_ite_split (λ z=>absurd z (by decide)) λ _=>wpAny_ite_split (λ _=>z01 (z4l ty (z05 k))) λ z=>absurd .(34) z
end
end PV
namespace PV
open PySem PySem.Spec L2
section
variable {A:z0a}{I T:Addr}{first:z00}{t:SetTable}
structure FQ (w:z0k) (es:Array (Int×z00)) (t:SetTable) (qs:List .(39)):Prop where
 ent:es.toList=qs.map λ x=>(hP x.1,z0b x.2)
 rise:Rise t.place.toList
 len:t.place.size=es.size
 fits:t.fits es.size=true
 led:btx w=false->t.led=true
 pln:t.plain=true
 sz:qs.length<=18
theorem FP.toQ {qs:List .(39)}(f:FP prog w h es t qs):FQ w es t qs:=by
 have l:=f.tab.len;rw[z07,z0Y,z0Y] at l;exact⟨f.ent,f.tab.rise,l,f.fits,f.led,f.pln,by rcases f.msk with ⟨_,z⟩ | ⟨_,z⟩<;>omega⟩
def SetQ (w:z0k) (h:Heap) (a:Addr) (qs:List .(39)):Prop:=∃ es t,ObX h a es t/\FQ w es t qs
theorem SetQ.keep {qs:List .(39)}(x:SetQ w h a qs) (e:∀ o,h.get? a=some o->h'.get? a=some o):SetQ w h' a qs:=by
 obtain⟨es,t,⟨o,ep,g,q⟩,f⟩:=x;exact⟨es,t,⟨o,ep,e o g,q⟩,f⟩
theorem Wt (xs:Array Nat) (hr:Rise xs.toList) {v i:Nat}(hi:i<=xs.size) (h1:∀ a (h:a<xs.size),a<i->xs[a]<v) (h2:∀ a (h:a<xs.size),i<=a->v<=xs[a]):z4H xs v=i:=by
 obtain⟨b0,b1,b2⟩:=Ob xs hr v;generalize z4H xs v=b at b0 b1 b2
 rcases z5u b i with c | c | c
 ·have:=b2 b (by omega) (z06 _);have:=h1 b (by omega) c;omega
 ·exact c
 ·have:=b1 i (by omega) c;have:=h2 i (by omega) (z06 _);omega
theorem YW (xs:Array Nat) (hr:Rise xs.toList) {i:Nat}(hi:i<=xs.size):z4H xs (if i=0 then 0 else xs.getD (i-1) 0+1)=i:=by
 have mono:∀ a b (ha:a<xs.size) (hb:b<xs.size),a<b->xs[a]<xs[b]:=λ a b ha hb hab=>by
  have:=z3Z.mp hr a b (by simpa using ha) (by simpa using hb) hab;simpa using this
 by_cases h0:i=0
 ·rw[if_pos h0];exact Wt xs hr hi (λ a h hai=>by omega) λ a h _=>z19 _
 ·have hp:i-1<xs.size:=by omega
  rw[if_neg h0,show xs.getD (i-1) 0=xs[i-1] by simp[hp]];refine Wt xs hr hi (λ a h hai=>?_) λ a h hia=>?_
  ·by_cases e:a=i-1
   ·subst e;omega
   ·have:=mono a (i-1) h hp (by omega);omega
  ·have:=mono (i-1) a hp h (by omega);omega
theorem jX {sl:Nat->Nat}(hne:q≠I) (hf:t.fits es.size=true) (hL:vs.length=es.size)
  (hx:∀ (i:Nat) (z:z03),i<=es.size->K8 z.heap q es ep t->(∃ v,vs[i]?=some v/\i<es.size/\∀ (B:z0a) (E2:z00->z03->Prop) (R:Option (z00×Nat)->z03->Prop),R (some (v,sl (i+1))) z->z02 (z04 prog w) B (z2Y q (sl i) i ep) R E2 z)
   ∨ (es.size<=i/\∀ (B:z0a) (E2:z00->z03->Prop) (R:Option (z00×Nat)->z03->Prop),R none z->z02 (z04 prog w) B (z2Y q (sl i) i ep) R E2 z)) :
  ∀ A':z0a,A'.handled=none->z1F prog w A' I [I,q] [I] vs.length (λ i v=>vs[i]?=some v) (λ i h=>ItX h I q (.int (sl i) 0) i es.size ep/\K8 h q es ep t):=λ A' hh=>{
 sub:=λ b m=>by simp at m;simp[m]
 frame:=λ i h h' st e=>⟨st.1.keep (e I (by simp)),st.2.keep (e q (by simp))⟩
 item:=λ i z Q E2 hi st k=>by
  rcases hx i z (by omega) st.2 with ⟨v,hv,_,nx⟩ | ⟨hle,_⟩
  ·refine pH st.1 st.2 hf rfl (λ B E3 R y=>by rw[z1a];exact nx B E3 R y) λ h' sb it=>k v h' z.toks hv ⟨it,st.2.keep λ o g=>(sb.2 q hne).trans g⟩ λ b o nb g=>(sb.2 b λ e=>nb (by simp[e])).trans g
  ·omega
 done:=λ z Q E2 st k=>by
  rcases hx vs.length z (by omega) st.2 with ⟨v,_,hlt,_⟩ | ⟨_,nx⟩
  ·omega
  ·exact pJ hh st.1 st.2 hf rfl (λ B E3 R y=>by rw[z1a];exact nx B E3 R y) λ h' kp=>k h' z.toks λ b o nb g=>kp b o (λ e=>nb (by simp[e])) g
 self:=λ i z Q E2 st k=>pM st.1 k }
def ItP (prog:z0s) (w:z0k) (s:z03) (q:Addr) (qs:List .(39)) (I:Addr) (h':Heap):Prop:=∃ (L:List .(39)) (fp:List Addr) (Sx:Nat->Heap->Prop),L.Perm qs/\s.heap.objs.size<=I/\(∀ b∈fp,b=q∨s.heap.objs.size<=b)/\.(2) ∧
 (∀ A':z0a,A'.handled=none->z1F prog w A' I fp [I] L.length (λ i v=>(L.map λ x=>z0b x.2)[i]?=some v) Sx)/\Sx 0 h'
theorem cI {qs:List .(39)}(x:SetQ w s.heap q qs) (k:∀ I h',ItP prog w s q qs I h'->Q (.ref I) { s with heap:=h' }):z02 (z04 prog w) A (z2t (.ref q)) Q E s:=by
  obtain⟨es,t,⟨o,ep,g,ex,d⟩,f⟩:=x;have ty:s.TypeIs (.ref q) "set":=⟨o,g,ex.1⟩;have y:K8 s.heap q es ep t:=⟨o,g,ex,d⟩;have lq:q<s.heap.objs.size:=z0g g;have hlen:es.size=qs.length:=by have:=congrArg z0P f.ent;simpa using this
  refine z74 ty z9n (z1k z9n ty VP ?_ (F.args_set_iter_1 _));unfold z1h.«frozenset.__iter__»;refine z01 (show z02 _ _ (pure q) _ _ s from z05 ?_);refine z01 (show z02 _ _ (setEntries q >>= λ r=>pure r.size) _ _ s from z01 (z7n g d f.fits (z05 ?_)));have fin:∀ (fst:z00),(∀ h',h'=s.heap.push { cls:=.type "set_iterator",data:=.fields #[fst,.int 0 0,.ref q,.int es.size 0,.int ep 0] }->ItX h' s.heap.objs.size q fst 0 es.size ep->K8 h' q es ep t->ItP prog w s q qs s.heap.objs.size h') ->
      z02 (z04 prog w) A.in1 (do ret (<-newFields "set_iterator" [fst,z0H 0,.ref q,z0H es.size,z0H (<-setEpoch q)])) (λ fin z=>∃ v,fin=.done (.ret v)/\∃ T' r,z.TypeIs v T'/\z6A (.type T') "__next__"=pure (some r)/\Q v z) E s:=λ fst w1=>by
    refine z01 (wpAny_setEpoch_of g d f.fits (z01 (z1Q (z05 ⟨_,rfl,"set_iterator",_,⟨_,z0l _ rfl,rfl⟩,MF.lookup,k _ _ (w1 _ rfl ⟨_,z0l _ rfl,rfl,rfl⟩ (y.keep λ o' g'=>z0e _ g'))⟩))))
  have dr:∀ {R:Bool->z03->Prop},R false s->z02 (z04 prog w) A.in1 (setDrawn q) R E s:=λ {R} hr=>by
    unfold setDrawn;refine z01 (z2E g d f.fits ?_);refine z01 (show z02 _ A.in1 z5L _ E s from z01 (z3Y (z05 (z05 ?_))));show R (!(z04 prog w).w.params.followText "set-order"&&(!t.plain&&decide (es.size > 1))) s;rw[f.pln];simpa using hr
  refine z01 (dr ?_);simp only[z0G,if_false];have foot:∀ b∈[s.heap.objs.size,q],b=q∨s.heap.objs.size<=b:=λ b m=>by simp at m;rcases m with m | m;exact .inr (z6h m.symm);exact .inl m
  cases bq:btx w with
  | true=>
    refine z01 (z05 (fin _ λ h' eh it sa=>?_));subst eh;obtain⟨L,eL,pL⟩:=Wq (f:=λ x:Pr5×Addr=>(hP x.1,z0b x.2)) (l:=(z2Z (w.params.setOrder q ep) es).toList) (m:=qs) (by rw[<-f.ent];exact UJ _ es);have eV:(L.map λ x=>z0b x.2)=(z2Z (w.params.setOrder q ep) es).toList.map (·.2):=by rw[eL,z0p];rfl
    have pz:(z2Z (w.params.setOrder q ep) es).size=es.size:=by have:=(UJ (w.params.setOrder q ep) es).length_eq;simpa using this
    refine⟨L,[s.heap.objs.size,q],(λ i h=>ItX h s.heap.objs.size q (.int (((λ _=>0:Nat->Nat) i:Nat):Int) 0) i es.size ep/\K8 h q es ep t),pL,z06 _,foot,λ b o z=>z0e _ z,?_,it,sa⟩;have lv:(L.map λ x=>z0b x.2).length=L.length:=z07 ..;rw[<-lv];refine jX (sl:=λ _=>0) (es:=es) (t:=t) (ep:=ep) (z0j lq) f.fits (by rw[lv,pL.length_eq,hlen]) λ i z hie ⟨oz,gz,_,dz⟩=>?_;have run:∀ (B:z0a) (E2:z00->z03->Prop) (R:Option (z00×Nat)->z03->Prop),R (((z2Z (w.params.setOrder q ep) es)[i]?).map λ e=>(e.2,0)) z->z02 (z04 prog w) B (z2Y q 0 i ep) R E2 z:=λ B E2 R y2=>by
      unfold z2Y setWalk;refine z01 (z2E gz dz f.fits ?_);refine z01 (show z02 _ B z5L _ E2 z from z01 (z3Y (z05 ?_)));rw[show (z04 prog w).w.params.followText "set-order"=true from bq];dsimp only;rw[if_pos rfl,if_neg (by simp)];refine z01 (z01 (z2E gz dz f.fits (z01 (show z02 _ B z5L _ E2 z from z01 (z3Y (z05 ?_))))));rw[show (z04 prog w).w.params.followText "set-order"=true from bq];dsimp only;rw[if_pos rfl];exact z01 (z3Y (z05 (z05 y2)))
    by_cases hi:i<es.size
    · have hz:i<(z2Z (w.params.setOrder q ep) es).size:=by omega
      refine .inl ⟨(z2Z (w.params.setOrder q ep) es)[i].2,?_,hi,λ B E2 R y2=>run B E2 R ?_⟩
      · rw[eV,z0q]
        simp[hz]
      · rw[z5q hz]
        exact y2
    · refine .inr ⟨by omega,λ B E2 R y2=>run B E2 R ?_⟩
      rw[z72 (by omega)];exact y2
  | false=>
    have hled:t.led=true:=f.led bq;refine z01 (z05 (fin _ λ h' eh it sa=>?_));subst eh;refine⟨qs,[s.heap.objs.size,q],(λ i h=>ItX h s.heap.objs.size q (.int (((λ i=>if i=0 then 0 else t.place.getD (i-1) 0+1:Nat->Nat) i:Nat):Int) 0) i es.size ep/\K8 h q es ep t),z4F _,z06 _,foot,λ b o z=>z0e _ z,?_,it,sa⟩;have lv:(qs.map λ x=>z0b x.2).length=qs.length:=z07 ..;rw[<-lv];refine jX (sl:=λ i=>if i=0 then 0 else t.place.getD (i-1) 0+1) (es:=es) (t:=t) (ep:=ep) (z0j lq) f.fits (by rw[lv,hlen]) λ i z hie ⟨oz,gz,_,dz⟩=>?_;have run:∀ (sl:Nat) (B:z0a) (E2:z00->z03->Prop) (R:Option (z00×Nat)->z03->Prop),R (match es[z4H t.place sl]?,t.place[z4H t.place sl]? with | some (_,x),some j=>some (x,j+1) | _,_=>none) z->z02 (z04 prog w) B (z2Y q sl i ep) R E2 z:=λ sl B E2 R y2=>by
      unfold z2Y;refine z01 (z2E gz dz f.fits ?_);refine z01 (show z02 _ B z5L _ E2 z from z01 (z3Y (z05 ?_)));rw[show (z04 prog w).w.params.followText "set-order"=false from bq];dsimp only;rw[if_neg z0D];split
      · rename_i hd
        have hd':(!t.plain&&decide (es.size > 1))=true:=hd;rw[f.pln] at hd';simp at hd'
      · refine z01 (show z02 _ B (if (!t.led&&!es.isEmpty)=true then z7i "set:maker-not-led" else pure ()) _ E2 z from ?_)
        rw[if_neg (by rw[hled];simp)];exact z05 (z05 y2)
    have eb:=YW t.place f.rise (i:=i) (by rw[f.len];exact hie)
    by_cases hi:i<es.size
    · have hp:i<t.place.size:=by rw[f.len];exact hi
      refine .inl ⟨es[i].2,?_,hi,λ B E2 R y2=>run _ B E2 R ?_⟩
      · have ev:(qs.map λ x=>z0b x.2)=es.toList.map (·.2):=by rw[f.ent,z0p];rfl
        rw[ev,z0q];simp[hi]
      · rw[eb,z5q hi,z5q hp]
        have:(if i+1=0 then 0 else t.place.getD (i+1-1) 0+1)=t.place[i]+1:=by
          rw[if_neg (by omega),Nat.add_sub_cancel];simp[hp]
        rw[this] at y2;exact y2
    · refine .inr ⟨by omega,λ B E2 R y2=>run _ B E2 R ?_⟩
      rw[eb,z72 (by omega)];exact y2
end
section
variable {A:z0a}{I T:Addr}
theorem SetQ.ty {qs:List .(39)}(x:SetQ w s.heap q qs):s.TypeIs (.ref q) "set":=let ⟨_,_,⟨o,_,g,ex,_⟩,_⟩:=x;⟨o,g,ex.1⟩
theorem VR {ks:List .(39)}{Q:List z00->z03->Prop}(hh:A.handled=none) (x:SetQ w s.heap q ks) (hz:ks.length<=4000)
  (k:∀ (L:List .(39)) (h':Heap) (tk:Nat),L.Perm ks->s.heap.objs.size<=h'.objs.size->.(2)->Q (L.map λ x=>z0b x.2) { s with heap:=h',toks:=tk }) :
  z02 (z04 prog w) A (z3t (.ref q)) Q E s:=by
 obtain⟨lq⟩:Nonempty (q<s.heap.objs.size):=let ⟨_,_,⟨_,_,g,_⟩,_⟩:=x;⟨z0g g⟩;unfold z3t;refine z01 (z5I (z1A z7p (show z02 _ _ (do again (.builtin "list.__iadd__" ⟨[<-newList [],.ref q],[]⟩)) _ _ s from ?_)));refine z01 (z40 (z05 ⟨z79 _ .(34),z1A z7q (show z02 _ _ (z4I .(6) (.ref q) .(6)) _ _ _ from ?_)⟩));have x1:SetQ w (s.heap.push { cls:=.type "list",data:=.seq ([]:List z00).toArray }) q ks:=x.keep λ o g=>z0e _ g;unfold z4I;refine z01 (z4l (T:="set") (SetQ.ty (s:={ s with heap:=s.heap.push { cls:=.type "list",data:=.seq ([]:List z00).toArray } }) x1) ?_);have nr:z9o .(6) (.ref q)=false:=by simp[z9o,z2I lq]
 rw[if_neg (by rw[nr];decide)];refine z01 (cI (s:={ s with heap:=s.heap.push { cls:=.type "list",data:=.seq ([]:List z00).toArray } }) x1 λ I h' ⟨L,fp,Sx,hL,leI,hfp,kp,W,st⟩=>?_);have x2:SetQ w h' q ks:=x1.keep λ o g=>kp q o g;refine z01 (wpAny_holding (jW (s:={ s with heap:=h' }) (SetQ.ty (s:={ s with heap:=h' }) x2) ?_));have gS:h'.get? s.heap.objs.size=some { cls:=.type "list",dict:=none,data:=.seq #[] 0,slots:=#[] }:=kp _ _ (z0l _ rfl);have szL:(s.heap.push { cls:=.type "list",data:=.seq ([]:List z00).toArray }).objs.size=s.heap.objs.size+1:=z1w _ _;have nS:s.heap.objs.size∉fp:=λ m=>by
  rcases hfp _ m with z | z
  ·exact absurd z (z2I lq)
  ·have z':(s.heap.push { cls:=.type "list",data:=.seq ([]:List z00).toArray }).objs.size<=s.heap.objs.size:=z;rw[szL] at z';exact absurd z' (Nat.not_succ_le_self _)
 have leI':s.heap.objs.size+1<=I:=by rw[<-szL];exact leI
 rw[if_pos .(34)];refine z01 (z34 (z01 (show z02 _ _ (z3T s.heap.objs.size (·.push .none) >>= λ _=>z3T s.heap.objs.size (·.pop)) _ _ _ from z01 (z2T gS rfl ?_))));have g1:=z1G (z1Z (·.push z15)) gS rfl;refine z2T (hz:=by seq_fits) g1 rfl ?_;have g2:=z1G (z1Z (·.pop)) g1 rfl;have oth:∀ b o,b≠s.heap.objs.size->h'.get? b=some o->((h'.update s.heap.objs.size (z1Z (·.push z15))).update s.heap.objs.size (z1Z (·.pop))).get? b=some o:=λ b o nb g=>(z0_ _ _ (z0n nb)).trans ((z0_ _ _ (z0n nb)).trans g);have st2:=(W A hh).frame 0 _ _ st λ b m o g=>oth b o (λ z=>nS (z▸m)) g;refine z05 ⟨z20 PySem.F.plain_extend_loop _,codeAny_extend_loopS (W _ (by simp[hh])).toS (z0A (by rw[hL.length_eq];exact hz) (by decide)) s.heap.objs.size nS _ L.length 0 { s with heap:=(h'.update s.heap.objs.size (z1Z (·.push z15))).update s.heap.objs.size (z1Z (·.pop)) } #[] _ rfl (z19 _) st2 g2 (ItemsOf.nil _) λ s' acc c' hm gS' ha=>?_⟩;rw[Moved.eq_with hm];show z02 _ A (load s.heap.objs.size >>= _) _ _ _;have ev:acc.toList=L.map λ x=>z0b x.2:=by
  apply z8s;intro i;have hl:acc.toList.length=L.length:=by rw[z0Y];exact ha.1
  by_cases c:i<L.length
  ·have ga:acc.toList[i]?=some (acc.toList[i]'(by omega)):=z0F (by omega);rw[ga];exact (ha.2 i _ (by rw[<-z7g];exact ga)).symm
  ·rw[z2R (by omega),z2R (by rw[z07];omega)]
 refine z01 (z4b gS' (z05 (ev▸k L s'.heap s'.toks hL (z3E (z0g gS')) λ b o g=>?_)));have lb:b<s.heap.objs.size:=z0g g;refine hm.heap b o (λ m=>?_) (oth b o (z0j lb) (kp b o (z0e _ g)))
 rcases z0i.mp m with z | z
 ·exact absurd z (z0j lb)
 ·exact absurd (z2d.mp z) (z0j (z0X lb (Nat.le_of_succ_le leI')))
theorem Wu {qs:List .(39)}(hh:A.handled=none) (x:SetQ w s.heap q qs) (isp:∀ x∈qs,IsP prog w s.heap x.1 x.2) (nd:(qs.map (·.1)).Nodup)
  (k:∀ (L:List .(39)) (e:Nat) (l:Addr) (h':Heap) (tk:Nat),L.Perm qs->(L.map λ x=>cod x.1).Pairwise (·<·)->h'.get? l=some (z2_ "list" (L.map λ x=>z0b x.2).toArray e)->s.heap.objs.size<=l->.(2)->Q (.ref l) { s with heap:=h',toks:=tk }) :
  z02 (z04 prog w) A (call (.builtin "sorted") [.ref q]) Q E s:=by
 have sz:qs.length<=18:=let ⟨_,_,_,f⟩:=x;f.sz;refine z7r z7s z7t z7u (z7v _) ?_;unfold z1h.«sorted»;refine z01 (m:=z7w "sorted" 1 1 _) (z05 (z01 (VR (A:=A.in1) hh x (by omega) λ L h1 tk hL le kp=>?_)));have hlen:(L.map λ x=>z0b x.2).length<=60:=by rw[z07,hL.length_eq];omega
 refine z01 (z40 ?_ (z0A hlen (by decide)));have gl:(h1.push { cls:=.type "list",data:=.seq (L.map λ x=>z0b x.2).toArray }).get? h1.objs.size=some (z2_ "list" (L.map λ x=>z0b x.2).toArray 0):=z0l _ rfl;refine z01 (wpAny_holding (z1k z7x ⟨_,gl,rfl⟩ z7y (R8 gl (λ x hx=>(isp x (hL.mem_iff.mp hx)).keep λ o g=>z0e _ (kp _ o g)) ((hL.map (·.1)).nodup_iff.mpr nd) (by rw[hL.length_eq];omega) λ L2 p2 s2=>⟨_,rfl,?_⟩) (z7z _)));obtain⟨c,hc⟩:=z7A (out:=(L2.map λ x=>z0b x.2).toArray) gl;refine z05 ⟨_,rfl,k L2 c _ _ tk (p2.trans hL) s2 hc le λ b o g=>?_⟩;have lb:=z0g (kp b o g);rw[z7B (z0j lb) (by rw[z1w];exact z2o lb)];exact z0e _ (kp b o g)
end
end PV
namespace PV
open PySem PySem.Spec
theorem Og:∀ {r:List Str}{p:Str},z9p p r=true->(p::r).Nodup->Up (p::r)
 | [],p,_,_=>by simp[Up]
 | x::r,p,h,nd=>by
  unfold z9p at h;rw[z0Q] at h;obtain⟨h1,h2⟩:=h;obtain⟨n1,n2⟩:=z2m.mp nd;have u:=Og h2 n2;have lt:ltS p x=true:=Z3 (by unfold ltS;simpa [PyProof.Rows.ltCps_eq] using h1) (λ e=>n1 (by rw[<-e];exact z0O));refine z23.mpr ⟨λ y m=>?_,u⟩
  rcases z0i.mp m with e | m
  ·rw[e];exact lt
  ·exact QB lt ((z23.mp u).1 y m)
theorem VV {l:List Str}(h:PyProof.Rows.sortedS l=true) (nd:l.Nodup):Up l:=by
 cases l with
 | nil=>exact z5t
 | cons p r=>exact Og h nd
section
variable {A:z0a}
end
open L2
section
variable {a:Expr}{fa:FE}
theorem UL:∀ {xs:List Str}{us:List z00},z5M us xs->Vals (xs.map V.str) us
 | _,_,.nil=>.nil
 | _,_,.cons _ u r=>.cons ⟨u,rfl⟩ (UL r)
theorem jY {zs:List Str}(r:RepL G H xs ds) (h:Mj ds=some zs):xs=zs.map V.str:=WY r h
end
end PV
namespace PV
open PySem L2
end PV
namespace PV
open PySem PySem.Spec L2
open PyProof.Rows hiding St
section
variable {a b c:Expr}{fa fb fc:FE}{px:Pos}
end
section
variable {a b c:Expr}{fa fb fc:FE}{es:List Expr}{fs:FA}
theorem vr (i:Nat) {x:Str}(hN:X.N[i]?=some x:=by rfl) (hv:Vis X.env.scope x:=by first | exact z0J rfl | exact z0v (z0J rfl) | exact z0v (z0v rfl)) (hd:.(3)=false:=by decide) (hcd:.(27)=false:=by decide):PF X G (.Name x pos) (vF i):=ul i (pv i hN hv hd hcd)
theorem vp (i:Nat) {x:Str}(hN:X.N[i]?=some x:=by rfl) (hv:Vis X.env.scope x:=by first | exact z0J rfl | exact z0v (z0J rfl) | exact z0v (z0v rfl)) (hd:.(3)=false:=by decide) (hcd:.(27)=false:=by decide):PU X G (.Name x pos) (vF i):=PF.pu (vr i hN hv hd hcd)
theorem vq (i:Nat) {x:Str}(hN:X.N[i]?=some x:=by rfl) (hv:Vis X.env.scope x:=by first | exact z0J rfl | exact z0v (z0J rfl) | exact z0v (z0v rfl)) (hd:.(3)=false:=by decide) (hcd:.(27)=false:=by decide):PU X G (.Name x pos) (vU i):=um i (pv i hN hv hd hcd)
theorem pU {f:FE}(h:PF X G e f):PU X G e f:=PF.pu h
theorem iP {i j}:PU X G (.Constant (.int i) j pos) (kF (.int i)):=PF.pu PQ
theorem iX {k:Nat}(hr:Room k X.A) (ha:PU X G a fa) (hb:PU X G b fb) (hG:G.K=X.K:=by rfl) (hs:Nj b:=by exact λ _ _=>rfl):PF X G (.Subscript a b pos) (bF ixE fa fb):=vH (Hr hr) hG ha hb hs
theorem iD (ha:PU X G a fa) (hb:PU X G b fb) (hG:G.K=X.K:=by rfl) (hs:Nj b:=by exact λ _ _=>rfl):PF X G (.Subscript a b pos) (bF ixD fa fb):=xO hG ha hb hs
theorem bAdd (ha:PU X G a fa) (hb:PU X G b fb) (hG:G.K=X.K:=by rfl):PF X G (.BinOp a .Add b pos) (bF addD fa fb):=Gr nY (by rw[<-hG];exact nZ) ha hb
theorem bSub (ha:PU X G a fa) (hb:PU X G b fb):PF X G (.BinOp a .Sub b pos) (bF subD fa fb):=Gr uW nO ha hb
theorem bMul (ha:PU X G a fa) (hb:PU X G b fb):PF X G (.BinOp a .Mult b pos) (bF mulD fa fb):=Gr nP nQ ha hb
theorem bDiv (ha:PU X G a fa) (hb:PU X G b fb):PF X G (.BinOp a .FloorDiv b pos) (bF JD fa fb):=Gr mY fJ ha hb
theorem bMod (ha:PU X G a fa) (hb:PU X G b fb):PF X G (.BinOp a .Mod b pos) (bF modD fa fb):=Gr uX nR ha hb
theorem cEq {k:Nat}(hr:Room k X.A) (ha:PU X G a fa) (hb:PU X G b fb) (hG:G.K=X.K:=by rfl):PF X G (.Compare a [.Eq] [b] pos) (bF (eqD false) fa fb):=Ut (fU hG hr.unitsW) (X3 false) ha hb (Ks _)
theorem tEq {k:Nat}(hr:Room k X.A) (ha:PU X G a fa) (hb:PU X G b fb) (hG:G.K=X.K:=by rfl):PFT X G (.Compare a [.Eq] [b] pos) (blF (bF (eqD false) fa fb)):=IK (fU hG hr.unitsW) (X3 false) ha hb (Ks _)
theorem tNe {k:Nat}(hr:Room k X.A) (ha:PU X G a fa) (hb:PU X G b fb) (hG:G.K=X.K:=by rfl):PFT X G (.Compare a [.NotEq] [b] pos) (blF (bF (eqD true) fa fb)):=IK (u_ hG hr.unitsW) (X3 true) ha hb (Ks _)
theorem cIn {k:Nat}(hr:Room k X.A) (ha:PU X G a fa) (hb:PU X G b fb) (hG:G.K=X.K:=by rfl) (hm:z17 .In b=false:=by with_unfolding_all rfl):PF X G (.Compare a [.In] [b] pos) (bF (inF false) fa fb):=Ut ((fP.or (X7 (Hr hr))).or (gM hG hr.units)) (by rw[<-hG];exact U5 false) ha hb hm
theorem tIn {k:Nat}(hr:Room k X.A) (ha:PU X G a fa) (hb:PU X G b fb) (hG:G.K=X.K:=by rfl) (hm:z17 .In b=false:=by with_unfolding_all rfl):PFT X G (.Compare a [.In] [b] pos) (blF (bF (inF false) fa fb)):=IK ((fP.or (X7 (Hr hr))).or (gM hG hr.units)) (by rw[<-hG];exact U5 false) ha hb hm
theorem tNi {k:Nat}(hr:Room k X.A) (ha:PU X G a fa) (hb:PU X G b fb) (hG:G.K=X.K:=by rfl) (hm:z17 .NotIn b=false:=by with_unfolding_all rfl):PFT X G (.Compare a [.NotIn] [b] pos) (blF (bF (inF true) fa fb)):=IK ((bW.or (bz (Hr hr))).or (cD hG hr.units)) (by rw[<-hG];exact U5 true) ha hb hm
theorem tLt (ha:PU X G a fa) (hb:PU X G b fb):PFT X G (.Compare a [.Lt] [b] pos) (blF (bF ltD fa fb)):=IK rC fK ha hb (Ks _)
theorem tGt (ha:PU X G a fa) (hb:PU X G b fb):PFT X G (.Compare a [.Gt] [b] pos) (blF (bF gtD fa fb)):=IK wy ut ha hb (Ks _)
theorem tGe (ha:PU X G a fa) (hb:PU X G b fb):PFT X G (.Compare a [.GtE] [b] pos) (blF (bF geD fa fb)):=IK wz uv ha hb (Ks _)
theorem sF (hN:X.N.Nodup) (i:Nat) {x:Str}{p:Pos}(ha:PF X G a fa) (hi:X.N[i]?=some x:=by rfl) (hx:Loc X.env.scope x:=by first | exact z0J rfl | exact z0v rfl) (hs:z1o a (some (.Name x p)) pos.line X.env=pure false:=by rfl)
  (hf:X.fn x=true∨X.env.scope.names.lookup x=some .local :=by first | exact .inl rfl | exact .inr rfl | assumption):PSD X G (.Assign [.Name x p] a pos) (setF i fa):=oA (λ _ h=>dO hN hi hx h hs hf) ha
theorem sW (hN:X.N.Nodup) (i:Nat) {x:Str}{p:Pos}(ha:PN X G a fa) (hi:X.N[i]?=some x:=by rfl) (hx:Loc X.env.scope x:=by first | exact z0J rfl | exact z0v rfl) (hs:z1o a (some (.Name x p)) pos.line X.env=pure false:=by rfl)
  (hf:X.fn x=true∨X.env.scope.names.lookup x=some .local :=by first | exact .inl rfl | exact .inr rfl | assumption) (hi0:i≠0:=by decide):PSD X G (.Assign [.Name x p] a pos) (setW i fa):=gC (λ _ h=>dO hN hi hx h hs hf) ha hi0
theorem gN (hN:X.N.Nodup) (i:Nat) {x:Str}(hi:X.N[i]?=some x:=by rfl) (hx:Loc X.env.scope x:=by first | exact z0J rfl | exact z0v rfl) (hf:X.fn x=true∨X.env.scope.names.lookup x=some .local :=by first | exact .inl rfl | exact .inr rfl | assumption):PG X (.Name x pos) (Hq i):=Qx hN hi hx hf
theorem cO {t:Str}(hN:X.N=N) (hs:X.env.scope=sc) (h:ZL N sc scope t=true:=by decide +kernel):Rb X scope t:=bw hN hs h
abbrev nT (N:List Str) (t:Str):List Str:=N++[t]
structure Dx (K:z08) (mg:Str->Option z00) (x:Str) (st:Stmt) (ps:List Str) where
 f:Addr
 fd:z2l
 F:FunD K x x st f fd
 B:Binds K fd ps []
 m:mg x=some (.ref f)
abbrev DOk (P:z0s) (w:z0k) (base:Heap) {K:z08}{mg:Str->Option z00}{x:Str}{st:Stmt}{ps:List Str}(d:Dx K mg x st ps) (k:Nat) (sp:Sp):Prop:=FnOk P w K mg base CX0 k d.f d.fd ps sp
theorem fX {k:Nat}{p:Pos}{d:Dx X.K X.mg x st ps}(F:FnOk X.prog X.w X.K X.mg X.base CX0 k d.f d.fd ps (spD G g)) (hr:Room k' X.A) (ha:PFA X G (a::es) fs) (hle:k<=k':=by omega) (hg:Gl X x:=by rfl) (hdb:.(3)=false:=by decide)
  (he:z09 (a::es) X.env=.(8)::z09 es X.env:=by rfl) (hpl:.(37).any (·.1)=false:=by rfl):PF X G (.Call (.Name x p) (a::es) [] pos) (Am g fs):=xP F (hr.mono hle) hg d.m d.F.kp d.B ha hdb he hpl
end
section
variable {K:z08}{f:Addr}{dV kV:z00}
theorem fnX {base:Heap}{k:Nat}{b:FS}(d:Dx G.K mg x st ps) (S:FnScope N ps (Ab st))
  (hb:∀ (cdv:z00) (A:z0a) (outer:List Env) (s:z03) (H:Hp) (E:XK),Room k (A.deeper (z1E x (Ab st) s.heap.objs.size d.f cdv))->PSDs (cxOf CX0 P w G.K mg base N x (Ab st) d.f cdv A outer s H E).nox G (B_ st) b) (hl:ps.length<=N.length:=by decide) :
  FnOk P w G.K mg base CX0 (k+1) d.f d.fd ps (spD G (runF N.length ps.length b)):=xg d.F S hl hb
def dx (X:K.In h) (N:h.Ns z0T mg) (a:z41 K z0T x=some (some (.ref f))) (l:K.lookup f=some ⟨oc,od,.func (z1y x x (El st) (B_ st) (Ab st) .none kV doc pm an cdv ct),osl⟩) (c:z2N K cdv x=true) (k:z1L K (.ref f)=true)
  (b:∀ (kV doc pm:z00) (an:Option Addr) (cdv ct:z00) (us:List z00),us.length=ps.length->z4h (z1y x x (El st) (B_ st) (Ab st) .none kV doc pm an cdv ct) ⟨us,[]⟩=pure (ps.zip us)):Dx K mg x st ps:=⟨f,_,o8 l c k,(RZ l c k).binds b,z30 X N a⟩
structure Ix (K:z08) (C:Addr) (qual:Str) (st:Stmt) (ps:List Str) where
 f:Addr
 fd:z2l
 F:Fun K "__init__" qual st f fd
 B:Binds K fd ps []
 mM:Mk K C f
def ix (X:K.In h) (m:z6g K C=true) (kc:z1L K (.ref C)=true) (a:z18 K (.ref C) "__init__"=some (some (.ref f))) (i:z3K K (.ref f)=true) (l:K.lookup f=some ⟨oc,od,.func (z1y "__init__" qual (El st) (B_ st) (Ab st) .none kV doc pm an cdv ct),osl⟩) (c:z2N K cdv qual=true) (k:z1L K (.ref f)=true)
  (b:∀ (kV doc pm:z00) (an:Option Addr) (cdv ct:z00) (us:List z00),us.length=ps.length->z4h (z1y "__init__" qual (El st) (B_ st) (Ab st) .none kV doc pm an cdv ct) ⟨us,[]⟩=pure (ps.zip us)):Ix K C qual st ps:=⟨f,_,RZ l c k,(RZ l c k).binds b,m,a,i,kc⟩
structure Sx (mg:Str->Option z00) (x:Str) (f:Tok->z00) where
 t:Tok
 m:mg x=some (f t)
structure Kx (G:Gx) (mg:Str->Option z00) (x:Str) (c:D) where
 a:Addr
 m:mg x=some (.ref a)
 r:Rep G (λ _=>none) (.ref a) c
def sx {t:Tok}{f:Tok->z00}(X:K.In h) (N:h.Ns z0T mg) (a:z41 K z0T x=some (some (f t))):Sx mg x f:=⟨t,z30 X N a⟩
def gx1 (K:z08) (cn:Str) (C:Addr):Gx:={ K:=K,cl:=λ c=>if c=cn then some C else none }
theorem cls (X:K.In h) (pg:z4e K C z3L=true) (hd:z56 K C=true) (po:z6e K C=true) (sa:z18 K (.ref C) "__setattr__"=some (some (.builtin "object.__setattr__"))):Cls K C:=⟨pg,hd,po,sa⟩
theorem rtx {cn:Str}{g:Addr}{its:Array z00}{xs:List Str}(X:K.In h) (l:K.lookup g=some ⟨.type "tuple",od,.seq its n,osl⟩) (hz:its.size<=sizeLine) (r:Vals (xs.map V.str) its.toList):Rep (gx1 K cn C) (λ _=>none) (.ref g) (.tup (xs.map .str)):=T4 l hz r
def kx {cn:Str}{g:Addr}{n:Nat}{its:Array z00}{xs:List Str}(X:K.In h) (N:h.Ns z0T mg) (a:z41 K z0T x=some (some (.ref g))) (l:K.lookup g=some ⟨.type "tuple",od,.seq its n,osl⟩) (hz:its.size<=sizeLine) (r:Vals (xs.map V.str) its.toList):Kx (gx1 K cn C) mg x (.tup (xs.map .str)):=⟨g,z30 X N a,rtx X l hz r⟩
theorem yx {ds:List z00}(X:K.In h) (b:Binds K fd ps ds):Binds K fd ps ds:=b
end
end PV
namespace PV
open PySem L2
def Wv:D->Option D
 | .int i=>if 0<=i/\i<=1000000 then some (.lst (rngD i.toNat)) else none
 | _=>none
theorem Z6 {α:Type}(f:α->Bool):∀ l:List α,blsD (l.map λ x=>.bl (f x))=some (l.map f)
 | []=>rfl
 | x::r=>by rw[z0c,blsD,Z6 f r];rfl
end PV
namespace PV
open PySem PySem.Spec L2
open PyProof.Rows hiding St
section
variable {a:Expr}{fa:FE}{es:List Expr}{fs:FA}
theorem cJ:Dd X (.type "range") (λ xs H Q=>∃ i:Int,xs=[.int i]/\∀ l,H l=none->Q (.ref l) (upd H l (.rng 0 i))):=by
 intro π s σ H xs us Q I r h;obtain⟨i,rfl,q⟩:=h;obtain⟨u,rfl,ru⟩:=r.one;obtain⟨t,rfl⟩:=ru;refine call_range_1 ?_;exact⟨.ref s.heap.objs.size,_,I.laid (λ b o e=>z0e _ e) (z06 _) (show BV X.prog X.w _ _ _ (.rng 0 i) from⟨_,_,_,z0l _ rfl⟩),rfl,q _ (I.hok.fresh (z06 _))⟩
theorem Z7:∀ {xs:List V}{us:List z00},us.length=xs.length->(∀ (j:Nat) x u,xs[j]?=some x->us[j]?=some u->RelV x u)->Vals xs us
 | [],us,hl,_=>by
  rw[z4w hl];exact .nil
 | x::r,[],hl,_=>by simp at hl
 | x::r,u::us,hl,h=>.cons (h 0 x u rfl rfl) (Z7 (by simpa using hl) λ j y v a b=>h (j+1) y v (by simpa using a) (by simpa using b))
theorem Tc (hc:X.calm=true):Dd X (.type "list") (λ xs H Q=>∃ (p:Addr) (n:Nat),xs=[.ref p]/\H p=some (.rng 0 n)/\n<=1000000/\∀ l,H l=none->Q (.ref l) (upd H l (.lst ((z0d n).map λ (k:Nat)=>V.int k)))):=by
 intro π s σ H xs us Q I r h;obtain⟨p,n,rfl,e,hn,q⟩:=h;obtain⟨u,rfl,ru⟩:=r.one;cases ru;obtain⟨t,u,v,hr⟩:=(show BV X.prog X.w H s.heap p (.rng 0 n) from I.hok p _ e);have rs:z83 0 n 1=(n:Int):=by rw[rangeSize_one];split<;>omega
 refine call_list_range (I.ok.hd hc) hr (small_one (by decide) (by decide) (by omega) (by omega)) rs (by omega) λ h' tk acc c' kp hnew hi=>?_;have va:Vals ((z0d n).map λ (k:Nat)=>V.int k) acc.toList:=by
  refine Z7 (by simp[hi.1]) λ j x u hx hu=>?_;obtain⟨tk,rfl⟩:=hi.2 j u (by simpa using hu);have hj:j<n:=by
   have:=(z1r.mp hu).1;rw[z0Y,hi.1] at this;exact this
  rw[z0q,z5B hj] at hx;cases hx;exact⟨tk,by simp⟩
 exact⟨.ref s.heap.objs.size,_,I.laid (t':=tk) kp (z06 _) (show BV X.prog X.w _ h' _ (.lst _) from⟨by rw[z07,z2B];exact z0A hn (by decide),acc.toList,c',va,by simpa using hnew⟩),rfl,q _ (I.hok.fresh (z06 _))⟩
theorem jZ:z0x "range"=some (.type "range"):=by decide +kernel
theorem pO {p q:Pos}(hg:Gl X "list") (hm:X.mg "list"=none) (hg2:Gl X "range") (hm2:X.mg "range"=none) (ha:PU X G a fa) (hc:X.calm=true:=by rfl) (he:z09 [a] X.env=[.(8)]:=by rfl)
  (he2:z09 [.Call (.Name "range" q) [a] [] pos2] X.env=[(false,eval (.Call (.Name "range" q) [a] [] pos2) X.env)]:=by rfl) :
  PN X G (.Call (.Name "list" p) [.Call (.Name "range" q) [a] [] pos2] [] pos) (uF Wv fa):=λ A=>Bx (Gp (Tc hc) hg hm Nx (Bp (Gp cJ hg2 hm2 jZ (Bp (@ha A) DG he) (by decide) (by decide) he rfl) DG he2) (by decide) (by decide) he2 rfl) λ σ H Q ⟨ρ,d,o,e,k⟩=>by
 obtain⟨dx,e1,e2⟩:=G6 e;refine⟨ρ,dx,o,e1,λ v H1 s1 r1=>?_⟩;unfold Wv at e2;split at e2
 ·rename_i i;split at e2
  ·rename_i hi;cases e2;rw[r1.int];refine⟨i,rfl,λ l hl=>⟨l,i.toNat,rfl,by rw[Aj,z7f hi.1],by omega,λ m hm2=>?_⟩⟩;have o1:=(o.mono s1);have n1:l≠m:=λ z=>by rw[<-z,Aj] at hm2;cases hm2
   have hm1:H1 m=none:=by rw[Ak (z0n n1)] at hm2;exact hm2
   refine k m _ (s1.trans ((Al hl _).trans (Al hm2 _))) (s1.free hm1) ⟨(z0d i.toNat).map λ (k:Nat)=>V.int k,Aj,by simp[rngD],λ j x d h1 h2=>?_⟩;unfold rngD at h2;rw[z0q] at h1 h2;cases q:(z0d i.toNat)[j]? with
   | none=>rw[q] at h1;cases h1
   | some z=>rw[q] at h1 h2;cases h1;cases h2;exact .int z
  ·cases e2
 ·cases e2
theorem pP {p q:Pos}(hg:Gl X "list") (hm:X.mg "list"=none) (hg2:Gl X "range") (hm2:X.mg "range"=none) (ha:PU X G a fa) (hc:X.calm=true:=by rfl) (he:z09 [a] X.env=[.(8)]:=by rfl)
  (he2:z09 [.Call (.Name "range" q) [a] [] pos2] X.env=[(false,eval (.Call (.Name "range" q) [a] [] pos2) X.env)]:=by rfl) :
  PF X G (.Call (.Name "list" p) [.Call (.Name "range" q) [a] [] pos2] [] pos) (uF Wv fa):=PN.pf (pO hg hm hg2 hm2 ha hc he he2)
end
end PV
namespace PV
open PySem L2
end PV
namespace PV
open PySem PySem.Spec L2
open PyProof.Rows hiding St
section
variable {a b c:Expr}{fa fb fc:FE}
end
end PV
namespace PV
open PySem PySem.Spec
section
variable {A:z0a}{T:String}{r d:Addr}{P:Nat->z00->Prop}{OK:Heap->Prop}
theorem Ww {R:List z00->z03->Prop}(K:z8J prog w T r d n P OK) (hh:A.handled=none) (hok:OK s.heap) (hn:n<=sizeLine)
  (h:∀ (h':Heap) (tk:Nat) (acc:Array z00),.(2)->s.heap.objs.size<=h'.objs.size->ItemsOf P acc n->R acc.toList { s with heap:=h',toks:=tk }) :
  z02 (z04 prog w) A (z3t (.ref r)) R E s:=by
 obtain⟨hr,hd⟩:=K.there _ hok;have gS:(s.heap.push { cls:=.type "list",data:=.seq ([]:List z00).toArray }).get? s.heap.objs.size=some { cls:=.type "list",data:=.seq #[] }:=z0l _ rfl;unfold z3t;refine z01 (z5I (z1A z7p ?_));rw[z2p PySem.F.plain_proto_collect _];show z02 _ A.in1 (newList [] >>= λ l=>again (.builtin "list.__iadd__" ⟨[l,.ref r],[]⟩)) _ _ s;refine z01 (z1Q (z05 ⟨z20 z9q _,z1A z7q ?_⟩));rw[z2p z9q _];show z02 _ A.in1 (z4I .(6) (.ref r) .(6)) _ _ _;have key:=PySem.W.kdl_extend (A:=A) (s:={ s with heap:=s.heap.push { cls:=.type "list",data:=.seq ([]:List z00).toArray } }) K
  (R:=λ q s'=>∃ (h':Heap) (tk:Nat) (acc':Array z00) (c':Nat),q=.ok (.ret .(6))/\s'={ s with heap:=h',toks:=tk }/\.(2)/\h'.get? s.heap.objs.size=some { cls:=.type "list",dict:=none,data:=.seq acc' c',slots:=#[] }/\ItemsOf P acc' n)
  hh (K.keep _ _ hok λ b _ o e=>z0e _ e) s.heap.objs.size (z2I hr) (z2I hd) .(6) 0 gS
  (λ h' tk acc' c' hk hS' hi=>⟨h',tk,acc',c',rfl,rfl,λ b o e=>hk b o (z0j (z0g e)) (z0e _ e),hS',hi⟩) hn
 refine z1s key (λ fin s' x=>?_) λ e s' x=>?_
 ·cases fin with
  | done f=>
   obtain⟨h',tk,acc',c',e,rfl,hk,hS',hi⟩:=x;cases e;show z02 _ A (load s.heap.objs.size >>= _) _ _ _;exact z01 (z4b hS' (z05 (h h' tk acc' hk (z3E (z0g hS')) hi)))
  | again c=>
   refine⟨x.1,z2K x.2 λ r2 s2 y=>?_⟩;obtain⟨h',tk,acc',c',e,rfl,hk,hS',hi⟩:=y;cases e;show z02 _ A (load s.heap.objs.size >>= _) _ _ _;exact z01 (z4b hS' (z05 (h h' tk acc' hk (z3E (z0g hS')) hi)))
 ·obtain⟨h',tk,acc',c',e,_⟩:=x;cases e
end
section
variable {A:z0a}
theorem cL {ks:List Str}{v:z00}(nd:ks.Nodup) (h60:ks.length<=60)
  (hc:∀ (R:List z00->z03->Prop) (E':z00->z03->Prop),(∀ (vs:List z00) (h':Heap) (tk:Nat),z5M vs ks->s.heap.objs.size<=h'.objs.size->.(2)->R vs { s with heap:=h',toks:=tk })->z02 (z04 prog w) A.in1 (z3t v) R E' s)
  (k:∀ (its:List z00) (e:Nat) (l:Addr) (h':Heap) (tk:Nat),z5M its (Fz ks)->h'.get? l=some (z2_ "list" its.toArray e)->s.heap.objs.size<=l->.(2)->Q (.ref l) { s with heap:=h',toks:=tk }) :
  z02 (z04 prog w) A (call (.builtin "sorted") [v]) Q E s:=by
 refine z7r z7s z7t z7u (z7v _) ?_;unfold z1h.«sorted»;refine z01 (m:=z7w "sorted" 1 1 _) (z05 (z01 (hc _ _ λ vs h1 tk hS le kp=>?_)));have hlen:vs.length<=60:=by rw[hS.length];exact h60
 refine z01 (z40 ?_ (z0A hlen (by decide)));have gl:(h1.push { cls:=.type "list",data:=.seq vs.toArray }).get? h1.objs.size=some (z2_ "list" vs.toArray 0):=z0l _ rfl;refine z01 (wpAny_holding (z1k z7x ⟨_,gl,rfl⟩ z7y (PyProof.Rows.list_sort_treeK PyProof.Rows.strKind_oneLt gl hS.keysOf (λ a b r e=>PyProof.Rows.keyKind_strs (by rw[<-e];exact hS)) (by omega) λ st a1 a2=>⟨_,rfl,?_⟩) (z7z _)));obtain⟨ss,o1,o2,o3⟩:=PyProof.Rows.sorted_out_str hS a1 a2;have e:ss=Fz ks:=YT (VV o3 (o2.nodup_iff.mpr nd)) (Oe ks) λ y=>by rw[MJ,o2.mem_iff]
 subst e;obtain⟨c,hc⟩:∃ c,(PyProof.Rows.sortedHeap (h1.push { cls:=.type "list",data:=.seq vs.toArray }) h1.objs.size vs ((z7C st).map (·.2))).get? h1.objs.size=some (z2_ "list" ((z7C st).map (·.2)).toList.toArray c):=by
  obtain⟨c,hc⟩:=z7A (out:=(z7C st).map (·.2)) gl;exact⟨c,by rw[hc,Array.toArray_toList]⟩
 refine z05 ⟨_,rfl,k _ c _ _ tk o1 hc le λ b o g=>?_⟩;have lb:=z0g (kp b o g);rw[z7B (z0j lb) (by rw[z1w];exact z2o lb)];exact z0e _ (kp b o g)
end
open L2
section
variable {a:Expr}{fa:FE}{p:Pos}
theorem Oh:∀ {zs:List Str}{us:List z00},Vals (zs.map V.str) us->z5M us zs
 | [],_,.nil=>.nil
 | _::_,_,.cons r t=>by obtain⟨u,rfl⟩:=r;exact .cons _ _ (Oh t)
theorem Ml (hc:X.calm=true):Dd X (.builtin "sorted") (λ xs H Q=>∃ p kvs zs,xs=[.ref p]/\Rd H p (.dK kvs)/\kvs.map (λ q=>kV q.1)=zs.map V.str/\zs.Nodup/\zs.length<=60/\∀ l,H l=none->Q (.ref l) (upd H l (.lst ((Fz zs).map V.str)))):=by
 intro π s σ H xs us Q I r h;obtain⟨p,kvs,zs,rfl,e,ez,nd,hz,k⟩:=h;obtain⟨u,rfl,ru⟩:=r.one;cases ru;obtain⟨z,hd,vs,rel,dd⟩:=Nq I.hok e;obtain⟨ep,dd⟩:=dd.dictAt;have hl:kvs.length=vs.length:=rel.length;refine cL (ks:=zs) nd hz (λ R E' hR=>Ww (z8E (knd:=Aq X.prog X.w) (kvs:=vs) (ep:=ep) hd) (I.ok.hd hc) dd (by omega) λ h' tk acc kp le hi=>hR _ h' tk ?_ le kp) λ its e2 l h' tk hS g le kp=>?_
 ·have va:Vals (kvs.map λ q=>kV q.1) acc.toList:=by
   refine U3 (P:=X.prog) (w:=X.w) (by simp[hi.1,hl]) λ j u hu=>?_;obtain⟨k,x,h1,h2⟩:=hi.2 j u (by simpa using hu);have hj:j<kvs.length:=by rw[hl];exact (z1r.mp h1).1
   refine⟨kvs[j],by simp[hj],?_⟩;rw[(Ly rel (by simp[hj]) h1).1];exact h2
  rw[ez] at va;exact Oh va
 ·have hv:=UL hS;refine⟨.ref l,_,I.laid (a:=l) (o:=.lst ((Fz zs).map V.str)) (t':=tk) kp le ⟨?_,its,e2,hv,g⟩,rfl,k l (I.hok.fresh le)⟩;rw[z07];have:=sub_len (jT (Oe zs)) (m:=zs) λ y m=>(MJ y zs).mp m;exact z0A this (z0A hz (by decide))
def sdkL (kds:List (Key×D)):Option D:=(Mj (kds.map λ p=>kDt p.1)).bind λ zs=>if zs.Nodup/\zs.length<=60 then some (.lst ((Fz zs).map .str)) else none
def sdkD:D->Option D
 | .dk kds=>sdkL kds
 | _=>none
theorem Z8:SndC G (λ xs H Q=>∃ p kvs zs,xs=[.ref p]/\Rd H p (.dK kvs)/\kvs.map (λ q=>kV q.1)=zs.map V.str/\zs.Nodup/\zs.length<=60/\∀ l,H l=none->Q (.ref l) (upd H l (.lst ((Fz zs).map V.str)))) sdkD:=by
 intro A H x dx d Q lv r e k;cases dx with
 | dk kds=>
  have e:sdkL kds=some d:=e;obtain⟨p,kvs,rfl,h1,h2,h3⟩:=r.dk;unfold sdkL at e;cases ez:Mj (kds.map λ p=>kDt p.1) with
  | none=>rw[ez] at e;cases e
  | some zs=>
   rw[ez] at e;have e':(if zs.Nodup/\zs.length<=60 then some (D.lst ((Fz zs).map .str)) else none)=some d:=e;split at e'
   ·rename_i hz;cases e';refine⟨p,kvs,zs,rfl,h1,jY (G:=G) (H:=hid A H) (gJ h2) ez,hz.1,hz.2,λ l hl=>k _ _ (Al hl _) (De lv hl ⟨by simp,λ i v d h1 h2=>?_⟩)⟩;rw[z0q] at h1 h2;cases q:(Fz zs)[i]? with
    | none=>rw[q] at h1;cases h1
    | some z=>rw[q] at h1 h2;cases h1;cases h2;exact .str z
   ·cases e'
 | _=>cases e
end
end PV
namespace PV
open PySem PySem.Spec L2 EX
open PyProof.Rows hiding St
def CX1 (P:z0s) (w:z0k):CXT:=λ outer H s E v s'=>∃ (e:Addr) (H':Hp),v=.ref e/\s'.os=s.os/\z2j s'.gens/\Un (frs outer) [] H H' s.heap s'.heap/\HOk P w H' s'.heap/\E v none H'
structure Exc (G:Gx) (He H:Hp) (e:Addr) (tb:Option Addr) (c:Str) (gs:List (Str×D)):Prop where
 ex:∃ C od fs,G.xcl c=some C/\H e=some (excO e C od tb)/\XdA H od fs/\FsV fs gs/\∀ dx,od=some dx->He dx=none
 same:Same He H
 new:He e=none
 tbk:∀ T,tb=some T->H T=some (tbO T .none)/\He T=none
section
variable {e:Addr}{tb:Option Addr}{gs:List (Str×D)}
end
def Rz (X:Cx) (G:Gx) (A0:List Addr) (He:Hp) (c:Str) (gs:List (Str×D)) (ρ:Rho):Prop:=∀ π σ H1 H s e tb,Inv X π σ H s->OkS G A0 He σ H1 ρ->Exc G H1 H e tb c gs->X.xe (.ref e) s
def excOf:D->Option (Str×List (Str×D))
 | .exc c gs=>some (c,gs)
 | _=>none
def RzO (X:Cx) (G:Gx) (A0:List Addr) (He:Hp) (d:D) (ρ:Rho):Prop:=∀ c gs,excOf d=some (c,gs)->Rz X G A0 He c gs ρ
def tFZ (X:Cx) (G:Gx) (A0:List Addr) (He:Hp) (f:FE):TE:=λ σ H Q=>∃ ρ d A,OkW G A0 He A σ H ρ/\f ρ=some d/\(∀ v H',Same H H'->Rep G (hid A H') v d->Q v H')/\RzO X G A0 He d ρ
def PFZ (X:Cx) (G:Gx) (e:Expr) (f:FE):Prop:=∀ ⦃A0⦄ He,PE X e (tFZ X G A0 He f)
section
variable {a b c:Expr}{fa fb fc:FE}{rest:List Stmt}{g gs gb:FS}
end
def jb (X:Cx) (σ:St):XK:=λ v _ H'=>∀ π s',Inv X π σ H' s'->X.xe v s'
def XW (G:Gx) (He:Hp) (d:D) (E:XK):Prop:=∀ c gs,excOf d=some (c,gs)->∀ e T H',Exc G He H' e (some T) c gs->E (.ref e) none H'
def spZ (G:Gx) (g:List D->Option D):Sp:=λ vs H Q E=>∃ A ds d,(∀ a∈A,Nt (H a))/\RepL G (hid A H) vs ds/\g ds=some d/\(∀ v H',Same H H'->Rep G (hid A H') v d->Q v H')/\XW G H d E
section
variable {k:Nat}{f:Addr}{sp:Sp}{p:Pos}{o:Expr}{es:List Expr}{ta:TE}{t:TA}
theorem pQ {Q:VK}{vs:List V}(F:FnOk X.prog X.w X.K X.mg X.base (CX1 X.prog X.w) k f fd ps sp) (hr:Room k X.A) (hb:Binds X.K fd ps [])
  (I:Inv X π σ H s) (r:Vals vs us) (h:sp vs H Q (jb X σ)):z02 .(0) X.A (call (.ref f) us) (EP X π σ Q) X.xe s:=by
 have hl:us.length=ps.length:=by rw[<-r.length];exact F.len _ _ _ _ h
 have hb':=hb s us I.kIn (by rw[z1g];exact hl);rw[z1g] at hb';refine z58 (z2K (F.run X.A X.stack s H ⟨us,[]⟩ us vs Q _ hr I.env0 hb' r h) λ r s' hq=>?_);cases r with
 | error v=>
  obtain⟨e,H',rfl,q1,q2,q3,q4,q5⟩:=hq;exact q5 π s' (I.call' q1 q3 q4 q2 λ _ z=>nomatch z)
 | ok fl=>
  cases fl with
  | ret u=>exact I.after hq
  | next=>exact z1n hq
  | brk=>exact z1n hq
  | cont=>exact z1n hq
def vf (X:Cx) (C:Addr) (m:Str) (sp:Sp) (ta:TE) (t:TA):TE:=λ σ H Q=>ta σ H λ x H1=>∃ a dx fs,x=.ref a/\H1 a=some (.ins C dx fs)/\fs.lookup m=none/\t σ H1 λ vs H2=>sp (x::vs) H2 Q (jb X σ)
theorem jc {pl:Sem Bool}(he:PE X o ta) (c:Cls X.K C) (hm:Meth X.K C m f) (F:FnOk X.prog X.w X.K X.mg X.base (CX1 X.prog X.w) k f fd ps sp) (hr:Room k X.A) (hb:Binds X.K fd ps []) (ha:PA X (e::es) t)
  (hst:z09 (e::es) X.env=(false,eval e X.env)::z09 es X.env:=by rfl) (hpl:.(37).any (·.1)=false:=by rfl)
  (ht:eval (.Call (.Attribute o m apos) (e::es) [] pos) X.env=(do
   let ov <-eval o X.env
   z1X apos.atName
   let (f,first) <-z1v [ov] (z29 ov m pl)
   z2a pos f first (z0B pos (z09 (e::es) X.env)) (z1D pos (z1p [] X.env))):=by rfl) :
  PE X (.Call (.Attribute o m apos) (e::es) [] pos) (vf X C m sp ta t):=by
 intro π s σ H Q I h;refine z57 (pl:=pl) (thn (he π s σ H _ I h) λ u s1 ⟨x,H1,I1,rx,a,dx,fs,ex,ea,l,q⟩=>?_) ht;subst ex;obtain rfl:u=z0b a:=rx;refine Jz I1 ea c hm l ?_;refine z59 (first:=[.ref a]) (h₀:=X.base) I.ok.mod.kin hm.kp (thn (ha pos π s1 σ H1 _ I1 q) λ us s2 ⟨vs,H2,I2,r,q2⟩=>⟨I2.kIn,?_⟩) hst hpl;exact pQ (us:=.ref a::us) (vs:=.ref a::vs) F hr hb I2 (.cons rfl r) q2
end
section
variable {a ob:Expr}{es:List Expr}{fs:FA}{fo:FE}{p:Pos}
theorem yC (w:OkW G A0 He A σ H1 ρ) (kx:RzO X G A0 He d ρ):XW G H1 d (jb X σ):=λ c gs z e T H' x π s' I=>kx c gs z π σ H1 H' s' e (some T) I ⟨A,w⟩ x
def Dg (c m:Str):D->Bool
 | .ob c' gs=>c'==c&&(gs.lookup m).isNone
 | _=>false
def Dy (c m:Str) (g:List D->Option D) (fo:FE) (fs:FA):FE:=λ ρ=>(fo ρ).bind λ o=>if Dg c m o=true then (fs ρ).bind λ ds=>g (o::ds) else none
theorem MK {fs:List (Str×V)}{gs:List (Str×D)}(h:fs.map (·.1)=gs.map (·.1)) (n:gs.lookup m=none):fs.lookup m=none:=by
 induction fs generalizing gs with
 | nil=>rfl
 | cons p r ih=>
  cases gs with
  | nil=>cases h
  | cons q t=>
   obtain⟨a,b⟩:=p;obtain⟨a',b'⟩:=q;simp only[z0c,z4T] at h;obtain⟨rfl,h2⟩:=h;simp only[z0m] at n ⊢;split at n
   ·cases n
   ·exact ih h2 n
theorem jd {k:Nat}{f:Addr}{pl:Sem Bool}(ho:PF X G ob fo) (hc:G.cl c=some C) (cl:Cls X.K C) (hm:Meth X.K C m f) (F:FnOk X.prog X.w X.K X.mg X.base (CX1 X.prog X.w) k f fd ps (spZ G g)) (hr:Room k X.A) (hb:Binds X.K fd ps []) (ha:PFA X G (a::es) fs)
  (hst:z09 (a::es) X.env=.(8)::z09 es X.env:=by rfl) (hpl:.(37).any (·.1)=false:=by rfl)
  (ht:eval (.Call (.Attribute ob m apos) (a::es) [] pos) X.env=(do
   let ov <-eval ob X.env
   z1X apos.atName
   let (f,first) <-z1v [ov] (z29 ov m pl)
   z2a pos f first (z0B pos (z09 (a::es) X.env)) (z1D pos (z1p [] X.env))):=by rfl) :
  PFZ X G (.Call (.Attribute ob m apos) (a::es) [] pos) (Dy c m g fo fs):=λ A0 He π s σ H Q I ⟨ρ,d,A,w,e,k,kx⟩=>by
 refine jc (@ho A) cl hm F hr hb (@ha A) hst hpl ht π s σ H Q I ?_;unfold Dy at e;cases e0:fo ρ with
 | none=>simp[e0] at e
 | some o=>
  rw[e0] at e;have e':(if Dg c m o=true then (fs ρ).bind λ ds=>g (o::ds) else none)=some d:=e;split at e'
  ·rename_i hob;cases e1:fs ρ with
   | none=>simp[e1] at e'
   | some ds=>
    have e2:g (o::ds)=some d:=by simpa [e1] using e'
    refine⟨ρ,o,w.ok,e0,λ v H1 s1 r1=>?_⟩;cases o with
    | ob c' gs=>
     simp only[Dg,z0Q,beq_iff_eq,z3q] at hob;obtain⟨rfl,hn⟩:=hob;cases r1 with
     | ob hC h1 l1 r2=>
      rw[hc] at hC;cases hC;refine⟨_,_,_,rfl,Ar _ _ h1,MK l1 hn,ρ,ds,(w.mono s1).ok,e1,λ vs H2 s2 r3=>?_⟩;refine⟨A,.ob c' gs::ds,d,((w.mono s1).mono s2).ok.live,.cons (Rep.mono (.ob hc h1 l1 r2) (A_ s2)) r3,e2,λ v H3 s3 r4=>k v H3 ((s1.trans s2).trans s3) r4,yC ((w.mono s1).mono s2) kx⟩
    | _=>simp[Dg] at hob
  ·cases e'
end
end PV
namespace EX
open PySem PySem.W PyProof.Rows PySem.Calls
section
variable {A:z0a}{g:Array GenState}{d:Drawn}{t:Nat}{os:OsState}{R:z2u->z03->Prop}
variable {nm q:Str}{N:Addr}{bs bm bmB:List z00}{hdct:Bool}{sn:List Str}{sub:List z00}{ab:Bool}{col:Option Bool}{dd:Option Addr}{k0 k1 k2 k3 k5:Option z00}{B newId initId:String}
end
end EX
namespace EX
open PySem PySem.W PySem.Spec PyProof.Rows PySem.Calls
section
variable {A:z0a}{K:Frag}{x:Addr}{ox:Obj}{od:Option Obj}{name:Str}{v:z00}
open Builtin Builtin.ObjectAttr in
end
end EX
namespace EX
open PySem PySem.Spec L2
open PyProof.Rows hiding St
abbrev bmV:List z00:=[.type "ValueError",.type "Exception",.type "BaseException",.type "object"]
def excX (K:z08) (C:Addr):Bool:=match K.lookup C with
 | some ⟨.type "type",_,.cls cd,sl⟩=>(match cd.mro,sl.toList with
  | .ref C'::bm,[_,_,_,_,some (.builtin n),_]=>C'==C&&n=="ValueError.__new__"&&!cd.hasDel&&PySem.W.tailIn K bmV bm
  | _,_=>false)
 | _=>false
structure XC (K:z08) (C R:Addr):Prop where
 obj:excX K C=true
 sa:z18 K (.ref C) "__setattr__"=some (some (.builtin "object.__setattr__"))
 ga:z18 K (.ref C) "__getattribute__"=some (some (.builtin "BaseException.__getattribute__"))
 gt:z18 K (.ref C) "__getattr__"=some none
 cd:(PySem.W.clsIn K C).any (λ cd=>cd.mro==[.ref C,.ref R,.type "ValueError",.type "Exception",.type "BaseException",.type "object"]&&cd.hasDict)=true
section
variable {e R dx:Addr}{tb:Option Addr}{A:z0a}
end
section
variable {a b:Expr}{es:List Expr}{t:TA}{p:Pos}{R:Addr}
end
section
variable {o value:Expr}{ta tv:TE}
end
section
variable {R fi:Addr}{k:Nat}{c:V->Prop}
end
section
variable {A:z0a}{K:z08}
end
end EX
namespace PV
open PySem PySem.Spec L2 EX
open PyProof.Rows hiding St
section
variable {a:Expr}{fa:FE}{np cpos:Pos}{R fi:Addr}{k:Nat}{cx cn:Str}{c:V->Prop}{ok:D->Bool}
end
end PV
namespace EX
open PySem PySem.Spec L2
open PyProof.Rows hiding St
section
variable {e R:Addr}{K:z08}
abbrev Cx.tr (X:Cx) (E:z00->z03->Prop) (pn:zP):Cx:={ X with xe:=E,pn:=pn }
end
end EX
namespace PV
open PySem PySem.Spec L2 EX
open PyProof.Rows hiding St
section
end
end PV
namespace EX
open PySem PySem.W PySem.Spec PyProof.Rows PySem.Calls
section
variable {A:z0a}{K:Frag}{x:Addr}{ox:Obj}{od:Option Obj}
end
end EX
namespace PV
open PySem PySem.Spec L2 EX
open PyProof.Rows hiding St
section
variable {a sp:Expr}{es:List Expr}{fa:FE}{p:Pos}{cs ns:List Str}{cv:List z00}{R:Addr}{Cs:List Addr}
end
structure Mx (K:z08) (C:Addr) (m qual:Str) (st:Stmt) (ps:List Str) where
 f:Addr
 fd:z2l
 F:Fun K m qual st f fd
 B:Binds K fd ps []
 me:Meth K C m f
structure Rx (K:z08) (mg:Str->Option z00) (rn:Str) where
 R:Addr
 m:mg rn=some (.ref R)
 x:excX K R=true
 h1:z6i K (.ref R) "__getattribute__"=some (some (.builtin "type.__getattribute__"))
 h2:z9r K R (.type "type")=true
 h3:z9s K (.ref R) (.type "type") "__init__"=some (.val (.builtin "ValueError.__init__"))
section
variable {a ob:Expr}{es:List Expr}{fs:FA}{fa fo:FE}{p np cpos:Pos}
theorem mZ {k:Nat}{d:Mx X.K C m qual st ps}{pl:Sem Bool}(hc:G.cl c=some C) (cl:Cls X.K C) (F:FnOk X.prog X.w X.K X.mg X.base (CX1 X.prog X.w) k d.f d.fd ps (spZ G g)) (hr:Room k' X.A) (ho:PF X G ob fo) (ha:PFA X G (a::es) fs) (hle:k<=k':=by omega)
  (hst:z09 (a::es) X.env=.(8)::z09 es X.env:=by rfl) (hpl:.(37).any (·.1)=false:=by rfl)
  (ht:eval (.Call (.Attribute ob m apos) (a::es) [] pos) X.env=(do
   let ov <-eval ob X.env
   z1X apos.atName
   let (f,first) <-z1v [ov] (z29 ov m pl)
   z2a pos f first (z0B pos (z09 (a::es) X.env)) (z1D pos (z1p [] X.env))):=by rfl) :
  PFZ X G (.Call (.Attribute ob m apos) (a::es) [] pos) (Dy c m g fo fs):=jd ho hc cl d.me F (hr.mono hle) d.B ha hst hpl ht
theorem mO {k:Nat}{d:Mx X.K C m qual st ps}{pl:Sem Bool}(hc:G.cl c=some C) (cl:Cls X.K C) (F:FnOk X.prog X.w X.K X.mg X.base CX0 k d.f d.fd ps (spD G g)) (hr:Room k' X.A) (ho:PF X G ob fo) (hle:k<=k':=by omega)
  (ht:eval (.Call (.Attribute ob m apos) [] [] pos) X.env=(do
   let ov <-eval ob X.env
   z1X apos.atName
   let (f,first) <-z1v [ov] (z29 ov m pl)
   z2a pos f first (z0B pos (z09 [] X.env)) (z1D pos (z1p [] X.env))):=by rfl) :
  PF X G (.Call (.Attribute ob m apos) [] [] pos) (Dy c m g fo nilA):=λ A=>Bx (d7 (@ho A) cl d.me F (hr.mono hle) d.B .nil WF ht) λ σ H Q ⟨ρ,dd,o,e,k⟩=>by
 unfold Dy at e;cases e0:fo ρ with
 | none=>simp[e0] at e
 | some oo=>
  rw[e0] at e;have e':(if Dg c m oo=true then (nilA ρ).bind λ ds=>g (oo::ds) else none)=some dd:=e;split at e'
  ·rename_i hob;have e2:g [oo]=some dd:=e';refine⟨ρ,oo,o,e0,λ v H1 s1 r1=>?_⟩;cases oo with
   | ob c' gs=>
    simp only[Dg,z0Q,beq_iff_eq,z3q] at hob;obtain⟨rfl,hn⟩:=hob;cases r1 with
    | ob hC h1 l1 r2=>
     rw[hc] at hC;cases hC;exact⟨_,_,_,rfl,Ar _ _ h1,MK l1 hn,A,[.ob c' gs],dd,(o.mono s1).live,.cons (.ob hc h1 l1 r2) .nil,e2,λ v H3 s3 r4=>k v H3 (s1.trans s3) r4⟩
   | _=>simp[Dg] at hob
  ·cases e'
end
section
variable {base:Heap}{k:Nat}{b:FS}
end
section
variable {K:z08}{cn:Str}{f R:Addr}{dV kV:z00}{l:List (Str×Addr)}
def mx (X:K.In h) (a:z18 K (.ref C) m=some (some (.ref f))) (i:z3K K (.ref f)=true) (lk:K.lookup f=some ⟨oc,od,.func (z1y m qual (El st) (B_ st) (Ab st) .none kV doc pm an cdv ct),osl⟩) (c:z2N K cdv qual=true) (k:z1L K (.ref f)=true)
  (b:∀ (kV doc pm:z00) (an:Option Addr) (cdv ct:z00) (us:List z00),us.length=ps.length->z4h (z1y m qual (El st) (B_ st) (Ab st) .none kV doc pm an cdv ct) ⟨us,[]⟩=pure (ps.zip us)):Mx K C m qual st ps:=⟨f,_,RZ lk c k,(RZ lk c k).binds b,a,i,k⟩
def rx (X:K.In h) (N:h.Ns z0T mg) (a:z41 K z0T x=some (some (.ref R))) (e:excX K R=true) (h1:z6i K (.ref R) "__getattribute__"=some (some (.builtin "type.__getattribute__"))) (h2:z9r K R (.type "type")=true)
  (h3:z9s K (.ref R) (.type "type") "__init__"=some (.val (.builtin "ValueError.__init__"))):Rx K mg x:=⟨R,z30 X N a,e,h1,h2,h3⟩
end
end PV
namespace PV
open PySem PySem.Spec L2
open PyProof.Rows hiding St
def yD:R2:=λ x y H Q=>∃ a kvs k b,y=.ref a/\Rd H a (.dT kvs)/\x=.ref b/\H b=some (.tup (k.map kV))/\Q (.bl (valV kvs k).isSome) H
def inTO (ds:Option (List D)) (y:Option D):Option D:=ds.bind λ ds=>y.bind λ y=>match y with
 | .dt kds=>if ds.length<=sizeLine then (Kz ds).map λ k=>.bl (getK k kds).isSome else none
 | _=>none
def inTF (fs:FA) (fb:FE):FE:=λ ρ=>inTO (fs ρ) (fb ρ)
section
variable {b:Expr}{fb:FE}{es:List Expr}{fs:FA}
theorem pR (hu:X.A.units+1<z0h):OpR X (z0C .In) yD:=by
 intro π s σ H x y v u Q I rx ry h;obtain⟨a,kvs,k,b,rfl,e,rfl,eb,q⟩:=h;cases ry;exact d_in hu I (.inr ⟨kvs,k,b,e,rfl,eb,rfl⟩) rx λ s' I'=>⟨.bl _,H,I',rfl,q⟩
theorem je {x1} {k:Nat}(hr:Room k X.A) (ha:PFA X G es fs) (hb:PU X G b fb) (hm:z17 .In b=false:=by with_unfolding_all rfl):PF X G (.Compare (.Tuple es x1 p1) [.In] [b] pos) (inTF fs fb):=λ A=>Bx (Y0 (pR (Hr hr)) (Xo (@ha A)) (@hb A) hm) λ σ H Q ⟨ρ,d,o,e,k⟩=>by
 unfold inTF inTO at e;cases e1:fs ρ with
 | none=>simp[e1] at e
 | some ds=>
  cases e2:fb ρ with
  | none=>simp[e1,e2] at e
  | some y=>
   rw[e1,e2] at e;cases y with
   | dt kds=>
    have e':(if ds.length<=sizeLine then (Kz ds).map λ k=>D.bl (getK k kds).isSome else none)=some d:=e;split at e'
    ·rename_i hz;cases e3:Kz ds with
     | none=>simp[e3] at e'
     | some ks=>
      rw[e3] at e';cases e';refine⟨ρ,ds,o,e1,λ xs H1 s1 r1=>⟨by rw[r1.1];exact hz,λ p hp=>?_⟩⟩;have ex:=Ph r1 e3;have s2:Same H1 (upd H1 p (.tup xs)):=Al hp _;refine⟨ρ,.dt kds,o.mono (s1.trans s2),e2,λ v H3 s3 r3=>?_⟩;obtain⟨a,kvs,rfl,h1,h2,r⟩:=r3.dt;have h3:=(Lw (k:=ks) h2 r).2;refine⟨a,kvs,ks,p,rfl,h1,rfl,by rw[s3 _ _ Aj,ex],?_⟩;rw[h3];exact k _ H3 ((s1.trans s2).trans s3) (.bl _)
    ·cases e'
   | _=>cases e
end
structure Ax (mg:Str->Option z00) (x:Str) where
 a:Addr
 m:mg x=some (.ref a)
def ax {K:z08}{h:Heap}{mg:Str->Option z00}{x:Str}{C:Addr}(X:K.In h) (N:h.Ns z0T mg) (a:z41 K z0T x=some (some (.ref C))):Ax mg x:=⟨C,z30 X N a⟩
end PV
namespace PV
open PySem PySem.Spec L2 EX
open PyProof.Rows hiding St
section
variable {a b c:Expr}{fa fb fc:FE}{px rp p:Pos}{es:List Expr}{fs:FA}{h:FZ}{hs:FZA}
end
section
variable {k:Nat}{f:Addr}{sp:Sp}{o:Expr}{ta:TE}
end
section
variable {b:Expr}{rp p:Pos}{es:List Expr}{fs:FA}
end
section
variable {K:z08}{base:Heap}{k:Nat}{f:Addr}{sp sp':Sp}
end
section
variable {a b:Expr}{es:List Expr}{fs:FA}{rp p:Pos}{h:FZ}
end
end PV
namespace PV
open PySem PySem.Spec L2
open PyProof.Rows hiding St
end PV
namespace L2
end L2
namespace PV
open PySem PySem.Spec L2
section
variable {es l1 l2:List Expr}{a b c:Expr}
theorem Qj {k j}:z09 (.Constant k j pos::es) env=(false,eval (.Constant k j pos) env)::z09 es env:=rfl
theorem RC {x}:z09 (.Name x pos::es) env=(false,eval (.Name x pos) env)::z09 es env:=rfl
theorem FJ {o}:z09 (.BinOp a o b pos::es) env=(false,eval (.BinOp a o b pos) env)::z09 es env:=rfl
theorem An:z09 (.Subscript a b pos::es) env=(false,eval (.Subscript a b pos) env)::z09 es env:=rfl
theorem Br {x}:z09 (.Attribute a x pos::es) env=(false,eval (.Attribute a x pos) env)::z09 es env:=rfl
theorem SJ {x}:z09 (.Tuple l1 x pos::es) env=(false,eval (.Tuple l1 x pos) env)::z09 es env:=rfl
theorem G8 {k}:z09 (.Call a l1 k pos::es) env=(false,eval (.Call a l1 k pos) env)::z09 es env:=rfl
theorem HQ {g sc}:z09 (.ListComp a g sc pos::es) env=(false,eval (.ListComp a g sc pos) env)::z09 es env:=rfl
end
section
variable {es:List Expr}{fs:FA}
theorem iS {i j} (h:PFA X G es fs):PFA X G (.Constant (.str i) j pos::es) (Aa (kF (.str i)) fs):=Af uq h Qj
theorem iI {i j} (h:PFA X G es fs):PFA X G (.Constant (.int i) j pos::es) (Aa (kF (.int i)) fs):=Af PQ h Qj
end
section
variable {cs:List Str}{R:Addr}{cn:Str}
end
open PyProof.Rows hiding St
section
variable {a b:Expr}{fs:FA}{px py pt:Pos}
end
end PV
namespace PV
open PySem PySem.Spec L2 EX
open PyProof.Rows hiding St
section
variable {a:Expr}{fa:FE}{np cpos p:Pos}{gb:FS}{es:List Expr}{fs:FA}
end
end PV
namespace EX
open PySem PySem.W PySem.Spec PyProof.Rows PySem.Calls
section
variable {A:z0a}{K:Frag}{x:Addr}{ox:Obj}{name:Str}{v:z00}
open Builtin Builtin.ObjectAttr in
end
end EX
namespace EX
open PySem PySem.Spec L2
open PyProof.Rows hiding St
section
variable {e R dx:Addr}{tb:Option Addr}{A:z0a}
end
section
variable {o value:Expr}{ta tv:TE}
end
section
variable {R fi:Addr}{k:Nat}{g:Str}{c:V->V->Prop}
end
end EX
namespace PV
open PySem PySem.Spec L2 EX
open PyProof.Rows hiding St
structure Xx2 (G:Gx) (mg:Str->Option z00) (R:Addr) (cn f g qual:Str) (st:Stmt) (ps:List Str) where
 C:Addr
 fi:Addr
 fd:z2l
 gc:G.xcl cn=some C
 xc:XC G.K C R
 hi:z18 G.K (.ref C) "__init__"=some (some (.ref fi))
 hf:z3K G.K (.ref fi)=true
 kp:z1L G.K (.ref C)=true
 na:Bf G.K C f
 nb:Bf G.K C g
 m:mg cn=some (.ref C)
 F:Fun G.K "__init__" qual st fi fd
 B:Binds G.K fd ps []
section
variable {a b:Expr}{fs:FA}{np cpos:Pos}{R:Addr}{cn g:Str}{x:Xx2 G X.mg R cn f g qual st ps}{k:Nat}
end
end PV
namespace EX
open PySem PySem.Spec L2
open PyProof.Rows hiding St
section
variable {R:Addr}
end
end EX
namespace PV
open PySem PySem.Spec L2 EX
open PyProof.Rows hiding St
section
variable {a:Expr}{fa:FE}{np cpos:Pos}{R:Addr}{cn:Str}
end
section
variable {K:z08}{cn:Str}{f R:Addr}{kV:z00}{l:List (Str×Addr)}
end
theorem scO {P:List Str}(a:sc.kind=.function:=by rfl) (b:sc.isCoroutine=false:=by rfl) (c:sc.isGenerator=false:=by rfl) (d:N.Nodup:=by decide +kernel) (e:N.take P.length=P:=by rfl)
  (f:∀ x∈P,sc.names.lookup x=some .local ∨sc.names.lookup x=some .cell :=by decide +kernel) (g:∀ y∈sc.names,y.2≠.free :=by decide +kernel):FnScope N P sc:=⟨a,b,c,d,e,f,g⟩
theorem pav {es:List Expr}{fs:FA}{px:Pos}(i:Nat) (h:PFA X G es fs) (hN:X.N[i]?=some x:=by rfl) (hv:Vis X.env.scope x:=by first | exact z0J rfl | exact z0v (z0J rfl) | exact z0v (z0v rfl)) (hd:.(3)=false:=by decide) (hcd:.(27)=false:=by decide):PFA X G (.Name x px::es) (Aa (vF i) fs):=Af (vr i hN hv hd hcd) h RC
section
variable {K:z08}{cn:Str}{R f:Addr}{l:List (Str×Addr)}{cs ns:List Str}{cv:List z00}
end
theorem tG {α:Type}{us:List α}(h:us.length=1):∃ a,us=[a]:=by
 cases us with
 | nil=>cases h
 | cons a r=>exact⟨a,by rw[z4w (z5N h)]⟩
theorem tH {α:Type}{us:List α}(h:us.length=2):∃ a b,us=[a,b]:=by
 cases us with
 | nil=>cases h
 | cons z r=>
  obtain⟨a,rfl⟩:=tG (z5N h);exact⟨z,a,rfl⟩
theorem tK {α:Type}{us:List α}(h:us.length=3):∃ a b c,us=[a,b,c]:=by
 cases us with
 | nil=>cases h
 | cons z r=>
  obtain⟨a,b,rfl⟩:=tH (z5N h);exact⟨z,a,b,rfl⟩
theorem yE {α:Type}{us:List α}(h:us.length=4):∃ a b c d,us=[a,b,c,d]:=by
 cases us with
 | nil=>cases h
 | cons z r=>
  obtain⟨a,b,c,rfl⟩:=tK (z5N h);exact⟨z,a,b,c,rfl⟩
abbrev EO:=Sum (Rho×Ef) (D×Rho)
abbrev FEz:=Rho->Ef->Option EO
open Classical in
section
variable {a b k it:Expr}{fa fb fk:FE}{p px:Pos}{rest:List Stmt}{g gs:FEz}{gp:FS}{ta tb:FTE}{tp:FT}
end
section
variable {k:Nat}{f:Addr}{sp:Sp}{p:Pos}{o:Expr}{es:List Expr}{ta:TE}{t:TA}
end
section
variable {a b:Expr}{fa fb:FE}{p:Pos}{es:List Expr}{fs:FA}
end
section
open PySem PySem.Spec L2
end
open PySem PySem.Spec L2 EX
open PyProof.Rows hiding St
section
variable {a sp k v:Expr}{es:List Expr}{fa fk fv:FE}{p:Pos}{cv:List z00}{b:Bool}
end
section
variable {a ob:Expr}{es:List Expr}{fs:FA}{fo:FE}{p:Pos}
theorem mA {k:Nat}{d:Mx X.K C m qual st ps}{pl:Sem Bool}(hc:G.cl c=some C) (cl:Cls X.K C) (F:FnOk X.prog X.w X.K X.mg X.base CX0 k d.f d.fd ps (spD G g)) (hr:Room k' X.A) (ho:PF X G ob fo) (ha:PFA X G (a::es) fs) (hle:k<=k':=by omega)
  (hst:z09 (a::es) X.env=.(8)::z09 es X.env:=by rfl) (hpl:.(37).any (·.1)=false:=by rfl)
  (ht:eval (.Call (.Attribute ob m apos) (a::es) [] pos) X.env=(do
   let ov <-eval ob X.env
   z1X apos.atName
   let (f,first) <-z1v [ov] (z29 ov m pl)
   z2a pos f first (z0B pos (z09 (a::es) X.env)) (z1D pos (z1p [] X.env))):=by rfl) :
  PF X G (.Call (.Attribute ob m apos) (a::es) [] pos) (Dy c m g fo fs):=λ A=>Bx (Y5 (@ho A) cl d.me F (hr.mono hle) d.B .nil WF (@ha A) hst hpl ht) λ σ H Q ⟨ρ,dd,o,e,k⟩=>by
 unfold Dy at e;cases e0:fo ρ with
 | none=>simp[e0] at e
 | some oo=>
  rw[e0] at e;have e':(if Dg c m oo=true then (fs ρ).bind λ ds=>g (oo::ds) else none)=some dd:=e;split at e'
  ·rename_i hob;cases e1:fs ρ with
   | none=>simp[e1] at e'
   | some ds=>
    have e2:g (oo::ds)=some dd:=by simpa [e1] using e'
    refine⟨ρ,oo,o,e0,λ v H1 s1 r1=>?_⟩;cases oo with
    | ob c' gs=>
     simp only[Dg,z0Q,beq_iff_eq,z3q] at hob;obtain⟨rfl,hn⟩:=hob;cases r1 with
     | ob hC h1 l1 r2=>
      rw[hc] at hC;cases hC;refine⟨_,_,_,rfl,Ar _ _ h1,MK l1 hn,ρ,ds,o.mono s1,e1,λ vs H2 s2 r3=>?_⟩;refine⟨A,.ob c' gs::ds,dd,((o.mono s1).mono s2).live,?_,e2,λ v H3 s3 r4=>k v H3 ((s1.trans s2).trans s3) r4⟩;rw[z1g];exact .cons (Rep.mono (.ob hc h1 l1 r2) (A_ s2)) r3
    | _=>simp[Dg] at hob
  ·cases e'
end
end PV
namespace PV
open PySem PySem.Spec L2
abbrev Wx (w:z0k) (q:Addr) (rs:List .(39)):HO:=.ext λ h=>SetQ w h q rs
abbrev rfs (qs:List .(39)):List V:=qs.map λ x=>V.ref x.2
def AtP (X:Cx) (H:Hp) (qs:List .(39)):Prop:=∀ x∈qs,In5 x.1/\TupAt X.K H x.2 ((kk x.1).map kV)
section
theorem Va (val:Nat->Pr5):∀ {n:Nat}{y:Pr5},y∈metP val n↔∃ i,i<n/\val i=y
 | 0,y=>by simp[metP]
 | n+1,y=>by
  rw[P_];unfold addQ;have ih:=Va val (n:=n) (y:=y);split
  ·rename_i h;rw[ih];constructor
   ·rintro⟨i,hi,e⟩;exact⟨i,by omega,e⟩
   ·rintro⟨i,hi,e⟩
    by_cases c:i=n
    ·subst c;obtain⟨j,hj,ej⟩:=(Va val (n:=i) (y:=val i)).mp h;exact⟨j,hj,ej.trans e⟩
    ·exact⟨i,by omega,e⟩
  ·rw[z0U,ih,z2d];constructor
   ·rintro (⟨i,hi,e⟩ | e)
    ·exact⟨i,by omega,e⟩
    ·exact⟨n,by omega,e.symm⟩
   ·rintro⟨i,hi,e⟩
    by_cases c:i=n
    ·subst c;exact .inr e.symm
    ·exact .inl ⟨i,by omega,e⟩
theorem Z9 {qs:List .(39)}(I:Inv X π σ H s) (h:AtP X H qs):∀ x∈qs,IsP X.prog X.w s.heap x.1 x.2:=λ x hx=>⟨(h x hx).1,tup_is I (h x hx).2⟩
theorem Wy {qs:List .(39)}(r:Vals (rfs qs) us) (i:Nat) (v:z00) (h:us[i]?=some v):v=.ref (qs.getD i ((0,0),0)).2:=by
 have e:us=(qs.map (·.2)).map z0b:=Q_ (bs:=qs.map (·.2)) (by rw[z0p];exact r);rw[e,z0p,z0q] at h;obtain⟨x,hx,rfl⟩:=z1U.mp h;simp[hx]
theorem prsL {qs:List .(39)}(i:Inv X π σ H s) (h:SqL X.K H p (rfs qs)):PrsAt X.prog X.w "list" p qs.length (λ i=>(qs.getD i ((0,0),0)).2) s.heap:=by
 obtain⟨its,r,pl,_⟩:=i.list h;obtain⟨o,g,c,m,d⟩:=pl.isList;have hl:=r.length;rw[z07] at hl;refine⟨λ z e=>⟨o,e o g,c⟩,by rw[z2V];kernel_rfl,by rw[z2V];kernel_rfl,by decide,z0g g,λ A E z Q hh e lt k=>?_⟩;have il:z.heap.IsList p its.toArray:=⟨o,e o g,c,m,d⟩;refine z53 il (k _ (λ i h=>h.IsListIter z.heap.objs.size p i/\h.IsList p its.toArray) (λ i v=>its.toArray[i]?=some v) (λ A' h'=>by rw[hl,<-z0t];exact z3U h' _ p (z0j lt) its.toArray) ⟨⟨_,z0l _ rfl,rfl,rfl⟩,il.push _⟩ λ i v q=>Wy r i v (by simpa using q))
theorem prsT {qs:List .(39)}(i:Inv X π σ H s) (h:SqT X.K H p (rfs qs)):PrsAt X.prog X.w "tuple" p qs.length (λ i=>(qs.getD i ((0,0),0)).2) s.heap:=by
 obtain⟨its,r,pl,_⟩:=i.tuple h;obtain⟨o,g,c,m,d⟩:=(show s.heap.IsTuple p its.toArray from pl);have hl:=r.length;rw[z07] at hl;refine⟨λ z e=>⟨o,e o g,c⟩,by rw[z2V];kernel_rfl,by rw[z2V];kernel_rfl,by decide,z0g g,λ A E z Q hh e lt k=>?_⟩;have il:z.heap.IsTuple p its.toArray:=⟨o,e o g,c,m,d⟩;refine z4d il (k _ (λ i h=>h.IsTupleIter z.heap.objs.size p i/\h.IsTuple p its.toArray) (λ i v=>its.toArray[i]?=some v) (λ A' h'=>by rw[hl,<-z0t];exact Walks.tuple h' _ p (z0j lt) its.toArray) ⟨⟨_,z0l _ rfl,rfl,rfl⟩,il.at λ o' g'=>z0e _ g'⟩ λ i v q=>Wy r i v (by simpa using q))
def tL (X:Cx):List V->Hp->VK->Prop:=λ xs H Q=>∃ p qs,xs=[.ref p]/\(SqL X.K H p (rfs qs)∨SqT X.K H p (rfs qs))/\AtP X H qs/\qs.length<=17/\∀ l rs,H l=none->(rs.map (·.1)).Nodup->(∀ x∈rs,x∈qs)->(∀ x∈qs,x.1∈rs.map (·.1))->Q (.ref l) (upd H l (Wx X.w l rs))
theorem cM (hu:X.A.units+64<z0h) (hc:X.calm=true):Dd X (.type "set") (tL X):=by
 intro π s σ H xs us Q I r h;obtain⟨p,qs,rfl,hs,at_,hz,k⟩:=h;obtain⟨u,rfl,ru⟩:=vals1 r;cases ru;have isp:=Z9 I at_;have go:∀ {T:String},PrsAt X.prog X.w T p qs.length (λ i=>(qs.getD i ((0,0),0)).2) s.heap->z02 .(0) X.A (call (.type "set") [.ref p]) (EP X π σ Q) X.xe s:=λ t=>by
  refine pF (B:=λ b=>b∈qs.map (·.2)) (val:=λ i=>(qs.getD i ((0,0),0)).1) (by omega) (I.ok.hd hc) t (λ i hi=>?_) hz (λ i hi=>?_) (λ b hb=>?_) λ h' tk x kp=>?_
  ·rw[show qs.getD i ((0,0),0)=qs[i] by simp[hi]];exact isp _ (z1d hi)
  ·rw[show qs.getD i ((0,0),0)=qs[i] by simp[hi]];exact z0f.mpr ⟨_,z1d hi,rfl⟩
  ·obtain⟨y,hy,rfl⟩:=z0f.mp hb;obtain⟨_,o,_,_,g,_⟩:=isp y hy;exact z0g g
  ·obtain⟨es,t,rs,ob,f,pm,bq⟩:=x;have sub:∀ x∈rs,x∈qs:=λ x hx=>by
    obtain⟨y,hy,e⟩:=z0f.mp (bq x hx);have iy:=(isp y hy).keep (g:=h') λ o g=>kp _ o g;have ix:=f.isp x hx;rw[<-e] at ix;have:=vW (ix.2.inj iy.2);rw[show x=y from z3e this e.symm];exact hy
   refine⟨.ref s.heap.objs.size,_,I.laid (a:=s.heap.objs.size) (o:=Wx X.w s.heap.objs.size rs) (t':=tk) kp (z06 _) ⟨⟨es,t,ob,f.toQ⟩,?_,λ h1 h2 x1 e=>x1.keep e⟩,rfl,k _ rs I.fresh f.nd sub λ x hx=>?_⟩
   ·obtain⟨o,_,g,_⟩:=ob;exact⟨o,g⟩
   ·obtain⟨i,hi,e⟩:=z3r.mp hx;exact pm.mem_iff.mpr ((Va _).mpr ⟨i,hi,by simp[hi,e]⟩)
 rcases hs with hs | hs
 ·exact go (prsL I hs)
 ·exact go (prsT I hs)
def SM (X:Cx):List V->Hp->VK->Prop:=λ xs H Q=>∃ p rs,xs=[.ref p]/\(H p=some (Wx X.w p rs)∨((SqL X.K H p (rfs rs)∨SqT X.K H p (rfs rs))/\rs.length<=60))/\AtP X H rs/\(rs.map (·.1)).Nodup/\∀ l ts,H l=none->ts.Perm rs->(ts.map λ x=>cod x.1).Pairwise (·<·)->Q (.ref l) (upd H l (.lst (rfs ts)))
theorem SN:∀ (qs:List .(39)),Vals (rfs qs) (qs.map λ x=>z0b x.2)
 | []=>.nil
 | x::r=>.cons rfl (SN r)
theorem Wz {A:z0a}{l:Addr}{T:String}{Q:List z00->z03->Prop}(hT:T="list"∨T="tuple") (ho:s.heap.get? l=some o) (hc:o.cls=.type T) (hd:o.data=.seq vs.toArray n) (hz:vs.length<=1000)
  (k:∀ h',s.heap.objs.size<=h'.objs.size->.(2)->Q vs { s with heap:=h' }):z02 (z04 prog w) A (z3t (.ref l)) Q E s:=by
 unfold z3t;refine z01 (z5I (z1A z7p (show z02 _ _ (do again (.builtin "list.__iadd__" ⟨[<-newList [],.ref l],[]⟩)) _ _ s from ?_)));refine z01 (z40 (z05 ⟨z79 _ .(34),z1A z7q (show z02 _ _ (z4I .(6) (.ref l) .(6)) _ _ { s with heap:=s.heap.push (z2_ "list" #[] 0) } from ?_)⟩));have ho':(s.heap.push (z2_ "list" #[] 0)).get? l=some o:=z0e _ ho;unfold z4I;refine z01 (z4l (T:=T) ⟨o,ho',hc⟩ ?_);rw[if_pos (by rcases hT with rfl | rfl<;>simp)];refine z01 (z9t ho' hd (z01 (z9t (xs:=#[]) (n:=0) (z0l _ rfl) rfl ?_)));rw[if_neg (by simp)];refine z01 (PyProof.Rows.listUpdate_at (xs:=#[]) (n:=0) (z0l _ rfl) rfl ?_ (z19 _) (by simp only[Array.size_append,z0t,z2y,z1u];omega));refine z05 (show z02 (z04 prog w) A (load s.heap.objs.size >>= _) Q E _ from z01 (z4b (PyProof.Rows.get?_update_seq (z0l _ rfl) _) ?_));show z02 _ _ (pure ((#[]:Array z00)++vs.toArray).toList) Q E _;rw[show ((#[]:Array z00)++vs.toArray).toList=vs by simp];refine z05 (k _ (by rw[Heap.size_update,z1w];exact z1O _) λ b o g=>?_);rw[Heap.get?_update_ne _ _ _ _ (z0j (z0g g))];exact z0e _ g
theorem Oi (hc:X.calm=true):Dd X (.builtin "sorted") (SM X):=by
 intro π s σ H xs us Q I r h;obtain⟨p,rs,rfl,hp,at_,nd,k⟩:=h;obtain⟨u,rfl,ru⟩:=vals1 r;cases ru;have isp:=Z9 I at_
 rcases hp with hp | ⟨hp,hz⟩
 ·obtain⟨x,_,_⟩:=(show BV X.prog X.w H s.heap p (Wx X.w p rs) from I.hok p _ hp);have sz:rs.length<=18:=let ⟨_,_,_,f⟩:=x;f.sz;refine Wu (I.ok.hd hc) x isp nd λ L e l h' tk hL hS g le kp=>?_;exact⟨.ref l,_,I.laid (a:=l) (o:=.lst (rfs L)) (t':=tk) kp le ⟨by rw[z07,hL.length_eq,z1u];omega,_,e,SN L,g⟩,rfl,k l L (I.hok.fresh le) hL hS⟩
 ·have go:∀ {T:String}{o:Obj}{n:Nat},(T="list"∨T="tuple")->s.heap.get? p=some o->o.cls=.type T->o.data=.seq (rs.map λ x=>z0b x.2).toArray n->z02 .(0) X.A (call (.builtin "sorted") [.ref p]) (EP X π σ Q) X.xe s:=λ {T o n} hT ho hcl hd=>by
   refine z7r z7s z7t z7u (z7v _) ?_;unfold z1h.«sorted»;refine z01 (m:=z7w "sorted" 1 1 _) (z05 (z01 (Wz hT ho hcl hd (by rw[z07];omega) λ h1 le kp=>?_)));refine z01 (z40 ?_ (by rw[z07,z1u];omega));have gl:(h1.push { cls:=.type "list",data:=.seq (rs.map λ x=>z0b x.2).toArray }).get? h1.objs.size=some (z2_ "list" (rs.map λ x=>z0b x.2).toArray 0):=z0l _ rfl;refine z01 (wpAny_holding (z1k z7x ⟨_,gl,rfl⟩ z7y (R8 gl (λ x hx=>(isp x hx).keep λ o g=>z0e _ (kp _ o g)) nd (by omega) λ L2 p2 s2=>⟨_,rfl,?_⟩) (z7z _)));obtain⟨c,hcc⟩:=z7A (out:=(L2.map λ x=>z0b x.2).toArray) gl;refine z05 ⟨_,rfl,.ref h1.objs.size,_,I.laid (a:=h1.objs.size) (o:=.lst (rfs L2)) (t':=s.toks) (λ b o g=>?_) le ⟨by rw[z07,p2.length_eq,z1u];omega,_,c,SN L2,hcc⟩,rfl,k _ L2 (I.hok.fresh le) p2 s2⟩;have lb:=z0g (kp b o g);rw[z7B (z0j lb) (by rw[z1w];exact z2o lb)];exact z0e _ (kp b o g)
  have ei:∀ {its:List z00},Vals (rfs rs) its->its=rs.map λ x=>z0b x.2:=λ {its} r=>by
   have:=Q_ (bs:=rs.map (·.2)) (us:=its) (by rw[z0p];exact r);rw[this,z0p];rfl
  rcases hp with hp | hp
  ·obtain⟨its,r,pl,_⟩:=I.list hp;obtain⟨o,g,c,m,d⟩:=pl.isList;exact go (.inl rfl) g c (by rw[<-ei r];exact d)
  ·obtain⟨its,r,pl,_⟩:=I.tuple hp;obtain⟨o,g,c,m,d⟩:=(show s.heap.IsTuple p its.toArray from pl);exact go (.inr rfl) g c (by rw[<-ei r];exact d)
end
def insP (p:Pr5):List Pr5->List Pr5
 | []=>[p]
 | q::r=>if cod p<cod q then p::q::r else if cod p=cod q then q::r else q::insP p r
def Ah (ps:List Pr5):List Pr5:=ps.foldr insP []
abbrev SrtP (l:List Pr5):Prop:=(l.map cod).Pairwise (·<·)
theorem SQ {p x:Pr5}(hp:In5 p):∀ {l:List Pr5},(∀ q∈l,In5 q)->(x∈insP p l↔x=p∨x∈l)
 | [],_=>by simp[insP]
 | q::r,h=>by
  have ih:=SQ (x:=x) hp (l:=r) λ y hy=>h y (by simp[hy]);unfold insP;split
  ·simp
  ·split
   ·rename_i _ e;have:p=q:=Z0 hp (h q (by simp)) e;subst this;simp
   ·rw[z0i,ih,z0i];constructor
    ·rintro (a | a | a)
     ·exact .inr (.inl a)
     ·exact .inl a
     ·exact .inr (.inr a)
    ·rintro (a | a | a)
     ·exact .inr (.inl a)
     ·exact .inl a
     ·exact .inr (.inr a)
theorem W0 {p:Pr5}(hp:In5 p):∀ {l:List Pr5},(∀ q∈l,In5 q)->SrtP l->SrtP (insP p l)
 | [],_,_=>by simp[insP,SrtP]
 | q::r,h,s=>by
  have hr:∀ y∈r,In5 y:=λ y hy=>h y (by simp[hy]);have s':(∀ y∈r,cod q<cod y)/\SrtP r:=by
   rw[SrtP,z0c,z23] at s;exact⟨λ y hy=>s.1 _ (z0f.mpr ⟨y,hy,rfl⟩),s.2⟩
  have ih:=W0 hp hr s'.2;unfold insP;split
  ·rename_i c;rw[SrtP,z0c,z23];refine⟨λ y hy=>?_,s⟩;obtain⟨z,hz,rfl⟩:=z0f.mp hy
   rcases z0i.mp hz with rfl | hz
   ·exact c
   ·exact z8k c (s'.1 z hz)
  ·split
   ·exact s
   ·rename_i c1 c2;rw[SrtP,z0c,z23];refine⟨λ y hy=>?_,ih⟩;obtain⟨z,hz,rfl⟩:=z0f.mp hy
    rcases (SQ hp hr).mp hz with rfl | hz
    ·omega
    ·exact s'.1 z hz
theorem Oj:∀ {ps:List Pr5},(∀ p∈ps,In5 p)->SrtP (Ah ps)/\∀ x,x∈Ah ps↔x∈ps
 | [],_=>⟨by simp[Ah,SrtP],λ x=>by simp[Ah]⟩
 | p::r,h=>by
  have hr:∀ y∈r,In5 y:=λ y hy=>h y (by simp[hy]);obtain⟨a,b⟩:=Oj hr;have hs:∀ q∈Ah r,In5 q:=λ q hq=>hr q ((b q).mp hq);exact⟨W0 (h p (by simp)) hs a,λ x=>by show x∈insP p (Ah r)↔_;rw[SQ (h p (by simp)) hs,b,z0i]⟩
theorem Vb:∀ {l m:List Pr5},SrtP l->SrtP m->(∀ x,x∈l↔x∈m)->l=m
 | [],[],_,_,_=>rfl
 | [],y::m,_,_,h=>absurd ((h y).mpr (by simp)) (by simp)
 | x::l,[],_,_,h=>absurd ((h x).mp (by simp)) (by simp)
 | x::l,y::m,a,b,h=>by
  rw[SrtP,z0c,z23] at a b;have a1:∀ z∈l,cod x<cod z:=λ z hz=>a.1 _ (z0f.mpr ⟨z,hz,rfl⟩);have b1:∀ z∈m,cod y<cod z:=λ z hz=>b.1 _ (z0f.mpr ⟨z,hz,rfl⟩);have e:x=y:=by
   rcases z0i.mp ((h x).mp (by simp)) with z | z
   ·exact z
   ·rcases z0i.mp ((h y).mpr (by simp)) with w | w
    ·exact w.symm
    ·have:=b1 x z;have:=a1 y w;omega
  subst e;have:=Vb a.2 b.2 λ z=>by
   have hz:=h z;rw[z0i,z0i] at hz;constructor
   ·intro c
    rcases hz.mp (.inr c) with d | d
    ·subst d;have:=a1 z c;omega
    ·exact d
   ·intro c
    rcases hz.mpr (.inr c) with d | d
    ·subst d;have:=b1 z c;omega
    ·exact d
  rw[this]
abbrev prT (p:Pr5):D:=.tup [.int (p.1:Int),.int (p.2:Int)]
def tssL (ds:List D):Option D:=(prsD ds).bind λ ps=>if ps.length<=17 then some (.tup ((Ah ps).map prT)) else none
def tssD:D->Option D
 | .lst ds=>tssL ds
 | .tup ds=>tssL ds
 | _=>none
def tslL (ds:List D):Option D:=(prsD ds).bind λ ps=>if ps.length<=17/\ps.Nodup then some (.tup ((Ah ps).map prT)) else none
def tslD:D->Option D
 | .lst ds=>tslL ds
 | .tup ds=>tslL ds
 | _=>none
section
variable {a:Expr}{fa:FE}
theorem pairs_at {H:Hp}:∀ {ks:List Pr5}{bs:List Addr},z2i (λ k c=>TupAt X.K H c (k.map kV)) (kks ks) bs->(∀ p∈ks,In5 p)->∃ qs:List .(39),bs=qs.map (·.2)/\ks=qs.map (·.1)/\AtP X H qs
 | [],_,.nil,_=>⟨[],rfl,rfl,λ x hx=>by cases hx⟩
 | k::ks,_,.cons r t,h=>by
  obtain⟨qs,e1,e2,e3⟩:=pairs_at t λ p hp=>h p (by simp[hp]);refine⟨(k,_)::qs,by rw[z0c,<-e1],by rw[z0c,<-e2],λ x hx=>?_⟩
  rcases z0i.mp hx with rfl | hx
  ·exact⟨h k (by simp),r⟩
  ·exact e3 x hx
theorem K9 {qs:List .(39)}(s:Same H H') (h:AtP X H qs):AtP X H' qs:=λ x hx=>by
 obtain⟨a,b⟩:=h x hx;refine⟨a,?_⟩
 rcases b with (z | ⟨o,z⟩) | z
 ·exact .inl (.inl (s _ _ z))
 ·exact .inl (.inr ⟨o,s _ _ z⟩)
 ·exact .inr z
theorem pW {ts:List .(39)}(hG:G.K=X.K) (h:AtP X (hid A H) ts):RepL G (hid A H) (rfs ts) ((ts.map (·.1)).map prT):=by
 refine⟨by simp,λ i x d h1 h2=>?_⟩;rw[z0q] at h1;rw[z0p,z0q] at h2;cases e:ts[i]? with
 | none=>rw[e] at h1;cases h1
 | some y=>
  rw[e] at h1 h2;cases h1;cases h2;obtain⟨_,t⟩:=h y (z3d e);rw[<-hG] at t;refine .tup (xs:=[.int (y.1.1:Int),.int (y.1.2:Int)]) t rfl λ j x d h1 h2=>?_
  match j,h1,h2 with
  | 0,h1,h2=>cases h1;cases h2;exact .int _
  | 1,h1,h2=>cases h1;cases h2;exact .int _
  | j+2,h1,_=>simp at h1
theorem UT {qs ts:List .(39)}{ps:List Pr5}(e:ps=qs.map (·.1)) (i5:∀ p∈ps,In5 p) (hS:(ts.map λ x=>cod x.1).Pairwise (·<·)) (hm:∀ x,x∈ts.map (·.1)↔x∈ps):ts.map (·.1)=Ah ps:=by
 obtain⟨s1,s2⟩:=Oj i5;refine Vb ?_ s1 λ x=>by rw[hm,s2]
 rw[SrtP,z0p];exact hS
theorem Z_ {H2:Hp}{l:Addr}{ts:List .(39)}{ps:List Pr5}{Q:VK}(hG:G.K=X.K) (o:Okp G A σ H ρ) (s2:Same H H2) (at_:AtP X (hid A H2) ts) (hl:H2 l=none) (et:ts.map (·.1)=Ah ps)
  (k:∀ v H',Same H H'->Rep G (hid A H') v (.tup ((Ah ps).map prT))->Q v H'):(∃ p ys,[V.ref l]=[.ref p]/\((SqL X.K (upd H2 l (.lst (rfs ts))) p ys/\∀ m,upd H2 l (.lst (rfs ts)) m=none->Q (.ref m) (upd (upd H2 l (.lst (rfs ts))) m (.tup ys)))∨(SqT X.K (upd H2 l (.lst (rfs ts))) p ys/\Q (.ref p) (upd H2 l (.lst (rfs ts)))))):=by
 refine⟨l,rfs ts,rfl,.inl ⟨.of Aj,λ m hm=>k _ _ ?_ ?_⟩⟩
 ·exact (s2.trans (Al hl _)).trans (Al hm _)
 ·have s3:Same H (upd H2 l (.lst (rfs ts))):=s2.trans (Al hl _);refine EY (o.mono s3).live hm ?_;rw[<-et];exact pW hG (K9 (A_ (Al hl _)) at_)
theorem vg {y z:Str}{p q r pos3:Pos}(hu:X.A.units+64<z0h) (hc:X.calm=true) (hG:G.K=X.K) (hg:Gl X z) (hm:X.mg z=none) (hv:z0x z=some (.type "tuple")) (hg1:Gl X x) (hm1:X.mg x=none) (hv1:z0x x=some (.builtin "sorted")) (hg2:Gl X y) (hm2:X.mg y=none) (hv2:z0x y=some (.type "set")) (ha:PU X G a fa)
  (hn:z≠"__name__":=by decide) (hdb:(z==("__debug__":Str))=false:=by decide) (hn1:x≠"__name__":=by decide) (hdb1:.(3)=false:=by decide) (hn2:y≠"__name__":=by decide) (hdb2:(y==("__debug__":Str))=false:=by decide) (he:z09 [a] X.env=[.(8)]:=by rfl)
  (he1:z09 [.Call (.Name y q) [a] [] pos2] X.env=[(false,eval (.Call (.Name y q) [a] [] pos2) X.env)]:=by rfl) (he2:z09 [.Call (.Name x p) [.Call (.Name y q) [a] [] pos2] [] pos3] X.env=[(false,eval (.Call (.Name x p) [.Call (.Name y q) [a] [] pos2] [] pos3) X.env)]:=by rfl) :
  PF X G (.Call (.Name z r) [.Call (.Name x p) [.Call (.Name y q) [a] [] pos2] [] pos3] [] pos) (uF tssD fa):=λ A=>Bx (Gp Mh hg hm hv (Bp (Ku (Oi hc) hg1 hm1 hv1 (Bp (Gp (cM hu hc) hg2 hm2 hv2 (Bp (@ha A) DG he) hn2 hdb2 he rfl) DG he1) hn1 hdb1 he1 rfl) DG he2) hn hdb he2 rfl) λ σ H Q ⟨ρ,d,o,e,k⟩=>by
 obtain⟨dx,e1,e2⟩:=G6 e;refine⟨ρ,dx,o,e1,λ v H1 s1 r1=>?_⟩;have core:∀ (ds:List D) (pp:Addr) (xs:List V),tssL ds=some d->v=.ref pp->(SqL G.K H1 pp xs∨SqT G.K H1 pp xs)->RepL G (hid A H1) xs ds->tL X [v] H1 λ x2 H2=>SM X [x2] H2 λ x3 H3=>(∃ p ys,[x3]=[.ref p]/\((SqL X.K H3 p ys/\∀ l,H3 l=none->Q (.ref l) (upd H3 l (.tup ys)))∨(SqT X.K H3 p ys/\Q (.ref p) H3))):=λ ds pp xs e3 ev hs rr=>by
  unfold tssL at e3;obtain⟨ps,ez,e4⟩:=z4E.mp e3;split at e4
  ·rename_i hz;cases e4;obtain⟨i5,bs,rfl,pr⟩:=RB rr ez;rw[hG] at pr;obtain⟨qs,eb,eq,at0⟩:=pairs_at pr i5;have er:bs.map V.ref=rfs qs:=by rw[eb,z0p];rfl
   have at1:AtP X H1 qs:=K9 Ar at0;refine⟨pp,qs,by rw[ev],by rw[<-hG,<-er];exact hs,at1,by rw[eq,z07] at hz;exact hz,λ l rs hl nd sub all=>⟨l,rs,rfl,.inl Aj,K9 (Al hl _) λ x hx=>at1 x (sub x hx),nd,λ m ts hm per srt=>?_⟩⟩;have s2:Same H (upd H1 l (Wx X.w l rs)):=s1.trans (Al hl _);refine Z_ (ps:=ps) hG o s2 (λ x hx=>K9 (A_ (Al hl _)) at0 x (sub x (per.mem_iff.mp hx))) hm (UT eq i5 srt λ x=>?_) k;constructor
   ·intro hx;obtain⟨y,hy,rfl⟩:=z0f.mp hx;rw[eq];exact z0f.mpr ⟨y,sub y (per.mem_iff.mp hy),rfl⟩
   ·intro hx;rw[eq] at hx;obtain⟨y,hy,rfl⟩:=z0f.mp hx;obtain⟨z,hz,ez⟩:=z0f.mp (all y hy);exact z0f.mpr ⟨z,per.mem_iff.mpr hz,ez⟩
  ·cases e4
 unfold tssD at e2;split at e2
 ·obtain⟨pp,xs,ev,hs,r⟩:=r1.lst;exact core _ pp xs e2 ev (.inl hs) r
 ·obtain⟨pp,xs,ev,hs,r⟩:=r1.tup;exact core _ pp xs e2 ev (.inr hs) r
 ·cases e2
theorem vh {z:Str}{p r pos3:Pos}(hc:X.calm=true) (hG:G.K=X.K) (hg:Gl X z) (hm:X.mg z=none) (hv:z0x z=some (.type "tuple")) (hg1:Gl X x) (hm1:X.mg x=none) (hv1:z0x x=some (.builtin "sorted")) (ha:PU X G a fa)
  (hn:z≠"__name__":=by decide) (hdb:(z==("__debug__":Str))=false:=by decide) (hn1:x≠"__name__":=by decide) (hdb1:.(3)=false:=by decide) (he:z09 [a] X.env=[.(8)]:=by rfl)
  (he2:z09 [.Call (.Name x p) [a] [] pos3] X.env=[(false,eval (.Call (.Name x p) [a] [] pos3) X.env)]:=by rfl) :
  PF X G (.Call (.Name z r) [.Call (.Name x p) [a] [] pos3] [] pos) (uF tslD fa):=λ A=>Bx (Gp Mh hg hm hv (Bp (Ku (Oi hc) hg1 hm1 hv1 (Bp (@ha A) DG he) hn1 hdb1 he rfl) DG he2) hn hdb he2 rfl) λ σ H Q ⟨ρ,d,o,e,k⟩=>by
 obtain⟨dx,e1,e2⟩:=G6 e;refine⟨ρ,dx,o,e1,λ v H1 s1 r1=>?_⟩;have core:∀ (ds:List D) (pp:Addr) (xs:List V),tslL ds=some d->v=.ref pp->(SqL G.K H1 pp xs∨SqT G.K H1 pp xs)->RepL G (hid A H1) xs ds->SM X [v] H1 λ x3 H3=>(∃ p ys,[x3]=[.ref p]/\((SqL X.K H3 p ys/\∀ l,H3 l=none->Q (.ref l) (upd H3 l (.tup ys)))∨(SqT X.K H3 p ys/\Q (.ref p) H3))):=λ ds pp xs e3 ev hs rr=>by
  unfold tslL at e3;obtain⟨ps,ez,e4⟩:=z4E.mp e3;split at e4
  ·rename_i hz;cases e4;obtain⟨i5,bs,rfl,pr⟩:=RB rr ez;rw[hG] at pr;obtain⟨qs,eb,eq,at0⟩:=pairs_at pr i5;have er:bs.map V.ref=rfs qs:=by rw[eb,z0p];rfl
   have at1:AtP X H1 qs:=K9 Ar at0;have lz:qs.length<=17:=by have:=hz.1;rw[eq,z07] at this;exact this
   refine⟨pp,qs,by rw[ev],.inr ⟨by rw[<-hG,<-er];exact hs,by omega⟩,at1,by rw[<-eq];exact hz.2,λ m ts hm per srt=>?_⟩;refine Z_ (ps:=ps) hG o s1 (λ x hx=>at0 x (per.mem_iff.mp hx)) hm (UT eq i5 srt λ x=>?_) k;rw[eq];exact (per.map (·.1)).mem_iff
  ·cases e4
 unfold tslD at e2;split at e2
 ·obtain⟨pp,xs,ev,hs,r⟩:=r1.lst;exact core _ pp xs e2 ev (.inl hs) r
 ·obtain⟨pp,xs,ev,hs,r⟩:=r1.tup;exact core _ pp xs e2 ev (.inr hs) r
 ·cases e2
end
open PyProof.Rows hiding St
def mnN (val:Nat->Int):Nat->Int
 | 0=>val 0
 | k+1=>if val (k+1)<mnN val k then val (k+1) else mnN val k
def W2 (x y:D):Option D:=match x with
 | .lst ds=>(Ji ds).map λ ns=>if ns=[] then y else .int (mnN (λ i=>ns.getD i 0) (ns.length-1))
 | _=>none
section
variable {A:z0a}{R:z2u->z03->Prop}{I:Addr}{wr:List Addr}{P:Nat->z00->Prop}{Sx:Nat->Heap->Prop}
theorem Vc:(toString "min"++toString ".loop":String)="min.loop":=by decide
theorem pX (W:z1F prog w A.in1 I fp wr n P Sx) (bt:Nat->Nat->Bool) (hcmp:CmpOf prog w A.in1 .Lt P bt) (S:Addr) (nS:S∉fp) :
  ∀ (k j:Nat) (s:z03) (vb:z00) (c:Nat),k=n-(j+1)->j+1<=n->Sx (j+1) s.heap->P (z0R bt j) vb->s.heap.get? S=some { cls:=.type "list",dict:=none,data:=.seq #[vb,vb] c,slots:=#[] } ->
  (∀ v h' tk,P (z0R bt (n-1)) v->.(36)->R (.ok (.ret v)) { s with heap:=h',toks:=tk })->z0Z (z04 prog w) A (.builtin "min.loop" ⟨[.ref I,.none,.ref S],kw⟩) R s:=by
 have nW:S∉wr:=λ h=>nS (W.sub _ h);intro k
 induction k with
 | zero=>
  intro j s vb c hk hj hst hb hS hR;have en:j+1=n:=by omega
  refine z1A z7D (by
   rw[z2p z3u _];show z02 _ A.in1 (z2S (.ref S) >>= _) _ _ s;refine z01 (z1T hS rfl ?_);show z02 _ A.in1 (tryCatch (z0K (.ref I)) _ >>= _) _ _ s;refine z01 (z2q (W.done s _ _ (by rw[<-en];exact hst) λ h1 tk kp=>?_));have hS1:=kp S _ nW hS;show z02 _ A.in1 (z3T S (λ _=>#[]) >>= _) _ _ _;refine z01 (z2T hS1 rfl (z01 (z2D (z05 ?_))));exact hR vb _ tk (by rw[<-en];exact hb) λ b o nb nbS e=>(z0_ _ _ (z0n nbS)).trans (kp b o nb e))
 | succ k ih=>
  intro j s vb c hk hj hst hb hS hR;have hlt:j+1<n:=by omega
  refine z1A z7D (by
   rw[z2p z3u _];show z02 _ A.in1 (z2S (.ref S) >>= _) _ _ s;refine z01 (z1T hS rfl ?_);show z02 _ A.in1 (tryCatch (z0K (.ref I)) _ >>= _) _ _ s;refine z01 (z2q (W.item (j+1) s _ _ hlt hst λ v h1 tk hP st1 kp=>?_));have hS1:=kp S _ nW hS;show z02 _ A.in1 (tryCatch (z1v [v,v] (richCompare .Lt v vb >>= _)) _ >>= _) _ _ _;refine z01 (z2q (wpAny_holding (z01 (hcmp (j+1) (z0R bt j) v vb _ _ _ hP hb ?_))));refine z01 (wpAny_holding (z1J (z01 (z2D (z05 ?_)))));cases q:bt (j+1) (z0R bt j) with
   | true=>
    simp only[if_true];refine z01 (z2T hS1 rfl (z01 (z2D ?_)));rw[Vc];refine z05 ⟨z20 z3u _,ih (j+1) _ v _ (by omega) hlt .(30) (by simp only[z0R,q,if_true];exact hP) (z1G _ hS1 rfl)
     λ v2 h2 tk2 hP2 kp2=>hR v2 h2 tk2 hP2 λ b o nb nbS e=>kp2 b o nb nbS ((z0_ _ _ (z0n nbS)).trans (kp b o nb e))⟩
   | false=>
    simp only[z0G,if_false];refine z01 (z2D ?_);rw[Vc];exact z05 ⟨z20 z3u _,ih (j+1) _ vb c (by omega) hlt st1 (by simp only[z0R,q,z0G,if_false];exact hb) hS1 λ v2 h2 tk2 hP2 kp2=>hR v2 h2 tk2 hP2 λ b o nb nbS e=>kp2 b o nb nbS (kp b o nb e)⟩)
theorem jf (W:z1F prog w A.in1 I fp wr n P Sx) (bt:Nat->Nat->Bool) (hcmp:CmpOf prog w A.in1 .Lt P bt) (S:Addr) (nS:S∉fp) {s:z03}{c:Nat}{nm:Str}{dv:z00}(hst:Sx 0 s.heap)
  (hS:s.heap.get? S=some { cls:=.type "list",dict:=none,data:=.seq #[] c,slots:=#[] })
  (hR:0<n->∀ v h' tk,P (z0R bt (n-1)) v->.(36)->R (.ok (.ret v)) { s with heap:=h',toks:=tk })
  (h0:n=0->∀ h' tk,(∀ b o,b∉wr->s.heap.get? b=some o->h'.get? b=some o)->R (.ok (.ret dv)) { s with heap:=h',toks:=tk }) :
  z0Z (z04 prog w) A (.builtin "min.loop" ⟨[.ref I,.none,.ref S],[(nm,dv)]⟩) R s:=by
 have nW:S∉wr:=λ h=>nS (W.sub _ h);refine z1A z7D (by
  rw[z2p z3u _];show z02 _ A.in1 (z2S (.ref S) >>= _) _ _ s;refine z01 (z1T hS rfl ?_);show z02 _ A.in1 (tryCatch (z0K (.ref I)) _ >>= _) _ _ s
  by_cases hn:0<n
  ·refine z01 (z2q (W.item 0 s _ _ hn hst λ v h1 tk hP st1 kp=>?_));have hS1:=kp S _ nW hS;show z02 _ A.in1 (z3T S (λ _=>#[v,v]) >>= _) _ _ _;refine z01 (z2T hS1 rfl ?_);rw[Vc];exact z05 ⟨z20 z3u _,pX W bt hcmp S nS _ 0 _ v _ rfl hn .(30) hP (z1G _ hS1 rfl)
    λ v2 h2 tk2 hP2 kp2=>hR hn v2 h2 tk2 hP2 λ b o nb nbS e=>kp2 b o nb nbS ((z0_ _ _ (z0n nbS)).trans (kp b o nb e))⟩
  ·have en:n=0:=by omega
   refine z01 (z2q (W.done s _ _ (by rw[en];exact hst) λ h1 tk kp=>?_));exact z01 (z34 (z05 (h0 en h1 tk kp))))
end
section
variable {A:z0a}{l:Addr}{xs:Array (Int×Tok)}
theorem cP (a v:z00):z2U "min" ⟨[a],[(z0E "default",v)]⟩:=by unfold z2U;kernel_rfl
theorem cQ {dv:z00}(hh:A.handled=none) (hl:s.heap.IsList l (z0z xs))
  (h1:0<xs.size->∀ v h' tk,(z0z xs)[z0R (λ i j=>decide (z12 xs i<z12 xs j)) (xs.size-1)]?=some v->.(2)->Q v { s with heap:=h',toks:=tk })
  (h0:xs.size=0->∀ h' tk,.(2)->Q dv { s with heap:=h',toks:=tk }) :
  z02 (z04 prog w) A (call (.builtin "min") [.ref l] [(z0E "default",dv)]) Q E s:=by
 refine z8y PySem.F.kind_min PySem.F.plain_min PySem.F.entry_min (cP _ _) ?_;show z02 _ A.in1 (z5l "min" ["key","default"] 0 ⟨[],[(z0E "default",dv)]⟩ >>= _) _ _ s;refine z01 (z4t (show z5l "min" ["key","default"] 0 ⟨[],[(z0E "default",dv)]⟩=pure [none,some dv] from rfl) (z01 (z05 ?_)));refine z01 (iter_intList hl λ s2 e st hfp hlI=>?_);subst e;refine z01 (z1Q ?_);have nS:.(15).objs.size∉[s.heap.objs.size,l]:=λ hm=>z1l _ (hfp _ hm);have W:z1F prog w A.in1.in1 s.heap.objs.size [s.heap.objs.size,l] [s.heap.objs.size] (z0z xs).size (λ i v=>(z0z xs)[i]?=some v) (λ i h=>h.IsListIter s.heap.objs.size l i/\h.IsList l (z0z xs)):=z3U (A:=A.in1.in1) hh _ l hlI (z0z xs);have W1:z1F prog w A.in1 s.heap.objs.size [s.heap.objs.size,l] [s.heap.objs.size] (z0z xs).size (λ i v=>(z0z xs)[i]?=some v) (λ i h=>h.IsListIter s.heap.objs.size l i/\h.IsList l (z0z xs)):=z3U (A:=A.in1) hh _ l hlI (z0z xs);have sz:(z0z xs).size=xs.size:=by simp[z0z]
 have up:∀ b o,s.heap.get? b=some o->(.(15).push { cls:=.type "list",data:=.seq ([]:List z00).toArray }).get? b=some o:=λ b o e=>z0e _ (z0e _ e);rw[Vc];refine z05 ⟨z20 z3u _,jf W1 (λ i j=>decide (z12 xs i<z12 xs j)) (CmpOf.ints_lt (z12 xs) (λ _ _=>z5m)) _ nS (W1.frame 0 _ _ st λ b hb o e=>z0e _ e) (z0l _ rfl) (λ hn v h' tk hP kp=>?_) (λ hn h' tk kp=>?_)⟩
 ·refine h1 (by rw[<-sz];exact hn) v h' tk (by rw[sz] at hP;exact hP) λ b o e=>kp b o ?_ ?_ (up b o e)
  ·intro hm;exact absurd (z0g e) (by rw[z2d.mp hm];exact z1l _)
  ·intro z;have q:b<s.heap.objs.size:=z0g e;rw[z1w] at z;exact absurd (z▸q) (z1_.mpr (z1O _))
 ·refine h0 (by rw[<-sz];exact hn) h' tk λ b o e=>kp b o ?_ (up b o e);intro hm;exact absurd (z0g e) (by rw[z2d.mp hm];exact z1l _)
end
theorem W3 (val:Nat->Int):∀ k,val (z0R (λ i j=>decide (val i<val j)) k)=mnN val k
 | 0=>rfl
 | k+1=>by
  have ih:=W3 val k;unfold z0R mnN
  by_cases h:val (k+1)<mnN val k
  ·rw[if_pos (by rw[ih];exact decide_eq_true h),if_pos h]
  ·rw[if_neg (by rw[ih];simpa using h),if_neg h];exact ih
theorem UV {f g:Nat->Int}:∀ {k:Nat},(∀ i,i<=k->f i=g i)->mnN f k=mnN g k
 | 0,h=>h 0 (z06 _)
 | k+1,h=>by
  unfold mnN;rw[h (k+1) (z06 _),UV λ i hi=>h i (z5k hi)]
def yF (K:z08):V->V->Hp->VK->Prop:=λ x y H Q=>∃ p ns,x=.ref p/\SqL K H p (ns.map V.int)/\Q (if ns=[] then y else .int (mnN (λ i=>ns.getD i 0) (ns.length-1))) H
section
variable {a b:Expr}{fa fb:FE}{p kpos:Pos}
theorem pZ (hc:X.calm=true) {π:zP}{s:z03}{σ:St}{H:Hp}{x y:V}{v u:z00}{Q:VK}(I:Inv X π σ H s) (rx:RelV x v) (ry:RelV y u) (h:yF X.K x y H Q) :
  z02 .(0) X.A (call (.builtin "min") [v] [(z0E "default",u)]) (EP X π σ Q) X.xe s:=by
 obtain⟨q,ns,rfl,hs,k⟩:=h;cases rx;obtain⟨its,rv,pl,hz⟩:=I.list hs;obtain⟨xs,e1,e2,e3⟩:=WX rv;have hl:s.heap.IsList q (z0z xs):=by rw[<-e1];exact pl.isList
 refine cQ (I.ok.hd hc) hl (λ hn w h' tk hP kp=>?_) (λ hn h' tk kp=>?_)
 ·have nn:ns≠[]:=λ z=>by rw[z] at e2;exact absurd hn (by rw[e2];exact z1l _)
  rw[if_neg nn] at k;obtain⟨t,rfl⟩:=z5m hP;refine⟨.int _,H,I.kept kp,⟨t,?_⟩,k⟩;have hle:=My (λ i j=>decide (z12 xs i<z12 xs j)) (xs.size-1);have q:=W3 (z12 xs) (xs.size-1);rw[q,e2];congr 1;have hpos:0<ns.length:=z8A.mpr nn;exact UV λ i hi=>e3 i (by omega)
 ·have nn:ns=[]:=by
   rw[hn] at e2;exact z2C.mp e2.symm
  rw[if_pos nn] at k;exact⟨y,H,I.kept kp,ry,k⟩
theorem p_ (hc:X.calm=true) (hG:G.K=X.K) (hg:Gl X x) (hm:X.mg x=none) (hv:z0x x=some (.builtin "min")) (ha:PU X G a fa) (hb:PF X G b fb) (hn:x≠"__name__":=by decide) (hdb:.(3)=false:=by decide)
  (he:z09 [a] X.env=[.(8)]:=by rfl) (hk:z1p [⟨some (z0E "default"),b,kpos⟩] X.env=[(some (z0E "default"),eval b X.env)]:=by rfl) :
  PF X G (.Call (.Name x p) [a] [⟨some (z0E "default"),b,kpos⟩] pos) (bF W2 fa fb):=λ A π s σ H Q I h=>by
 obtain⟨ρ,d,o,e,k⟩:=h;obtain⟨dx,dy,e1,e2,e3⟩:=Qz e;refine z3N (Kr I hg hm hv ?_ hn hdb);have hA:=Bp (X:=X) (@ha A) DG he pos π s σ H (λ vs H1=>∃ v,vs=[v]/\Same H H1/\RepT G A H1 v dx) I ⟨ρ,dx,o,e1,λ v H1 s1 r1=>⟨v,rfl,s1,r1⟩⟩;refine callWith_kw (thn hA λ us s1 ⟨vs,H1,I1,rv,v,ev,s1',r1⟩=>?_) (by rw[he];rfl) (by rw[he];rfl) (by rw[hk];rfl) (by rw[hk];rfl);subst ev;have hK:=Y6 (X:=X) (nm:=some (z0E "default")) (kpos:=kpos) (@hb A) d9 pos π s1 σ H1 (λ vs H2=>∃ v,vs=[v]/\Same H1 H2/\Rep G (hid A H2) v dy) I1 ⟨ρ,dy,o.mono s1',e2,λ v H2 s2 r2=>⟨v,rfl,s2,r2⟩⟩;refine thn hK λ ks s2 ⟨ws,H2,I2,rw',y,ey,s2',r2⟩=>?_;subst ey;obtain⟨u,rfl,ru⟩:=vals1 rv;obtain⟨u2,rfl,ru2⟩:=vals1 rw';rw[hk];have s0:=s1'.trans s2';unfold W2 at e3;cases dx with
 | lst ds=>
  simp only at e3;cases ei:Ji ds with
  | none=>simp[ei] at e3
  | some ns=>
   simp only[ei,z1z] at e3;obtain⟨q,xs,rfl,h1,rr⟩:=(r1.mono s2').lst;have ex:=ints_rep rr ei;subst ex;refine pZ hc I2 ru ru2 ⟨q,ns,rfl,by rw[<-hG];exact h1,?_⟩
   by_cases nn:ns=[]
   ·rw[if_pos nn] at e3 ⊢;cases e3;exact k _ H2 s0 r2
   ·rw[if_neg nn] at e3 ⊢;cases e3;exact k _ H2 s0 (.int _)
 | _=>cases e3
end
def tM (K:z08):R2:=λ x y H Q=>∃ a b xs ys,x=.ref a/\y=.ref b/\SqT K H a xs/\SqT K H b ys/\ys≠[]/\xs.length+ys.length<=sizeLine ∧
 (xs=[]->Q (.ref b) H)/\∀ p,H p=none->Q (.ref p) (upd H p (.tup (xs++ys)))
def catU:D->D->Option D
 | .tup ds,.tup es=>if es≠[]/\ds.length+es.length<=1000 then some (.tup (ds++es)) else none
 | _,_=>none
section
theorem qC:OpR X (z1t .Add) (tM X.K):=by
 intro π s σ H x y v u Q I rx ry h;obtain⟨a,b,xs,ys,rfl,rfl,ha,hb,hy,hz,q1,q2⟩:=h;cases rx;cases ry;obtain⟨its,r1,p1,_⟩:=I.tuple ha;obtain⟨its2,r2,p2,_⟩:=I.tuple hb
 by_cases hv:its=[]
 ·obtain⟨⟨cls,dd,data,sl⟩,ho,hc,n,hd⟩:=id p1;obtain⟨⟨cls2,dd2,data2,sl2⟩,ho2,hc2,n2,hd2⟩:=id p2;simp only at hc hd hc2 hd2;subst hc hd hc2 hd2;exact z5a ⟨_,ho,rfl⟩ ⟨_,ho2,rfl⟩ z6s z6t z6u z6v (z6w _ _)
   (tuple_addW0 a b its.toArray its2.toArray n n2 dd dd2 sl sl2 (by simp[hv])) ⟨ho,ho2,⟨.ref b,H,I,rfl,q1 (r1.nil_iff.mp hv)⟩⟩
 ·refine HT.mz p1 p2 hv (λ z=>absurd (r2.nil_iff.mp z) hy) (λ z=>?_) (by rw[<-r1.length,<-r2.length];exact hz);refine⟨.ref s.heap.objs.size,_,I.laid (t':=s.toks) (o:=.tup (xs++ys)) (λ b ob q=>z0e _ q) (z06 _) ?_,rfl,q2 _ (I.hok.fresh (z06 _))⟩;exact⟨by rw[z0L];exact hz,_,r1.append r2,z6C _ _⟩
theorem jg:Dm G (tM G.K) catU:=by
 intro A H x y dx dy d Q lv rx ry h k;unfold catU at h;split at h
 ·rename_i ds es;split at h
  ·rename_i hz;cases h;obtain⟨l,xs,rfl,h1,r1⟩:=rx.tup;obtain⟨m,zs,rfl,h2,r2⟩:=ry.tup;refine⟨l,m,xs,zs,rfl,rfl,h1,h2,λ z=>hz.1 ?_,by rw[r1.1,r2.1,z1u];omega,λ z=>?_,λ p hp=>k _ _ (Al hp _) (EY lv hp (r1.append r2))⟩
   ·rw[z] at r2;exact z2C.mp r2.1.symm
   ·have:ds=[]:=by
     rw[z] at r1;exact z2C.mp r1.1.symm
    rw[this,z1H] at k
    rcases ry with ry | ⟨a,e,ry⟩
    ·exact k _ H .(23) ry
    ·exact ry.elim
  ·cases h
 ·cases h
end
end PV
namespace PV
open PySem PySem.Spec L2 EX
open PyProof.Rows hiding St
abbrev Mu:=List (Addr×D)
abbrev KM:=Out->Mu->Prop
abbrev FM:=Rho->Mu->KM->Prop
section
variable {Hb:Hp}{μ:Mu}
end
abbrev FXM:=Rho->Mu->(D->Mu->Prop)->Prop
section
variable {Hb:Hp}{μ:Mu}
end
section
variable {a b c:Expr}{fa fb fc:FE}{rest:List Stmt}{gp:FS}{g gs gb:FM}{h:FXM}
end
section
variable {a b c:Expr}{fa fb fc:FE}{p:Pos}{es:List Expr}{fs:FA}{g:FM}
end
theorem boot_enumerate:z0x "enumerate"=some (.type "enumerate"):=by decide +kernel
section
variable {a:Expr}{fa:FE}{p:Pos}{ta:TA}
def revI (f:FE):FI:=λ ρ=>match f ρ with | some (.lst ds)=>some ds.reverse | _=>none
def Ite (K:z08) (a:Addr):It:=
 ⟨λ i H=>∃ xs x,SqL K H a xs/\xs[i]?=some x,λ i H x H'=>∃ T y,H T=none/\(∀ xs,SqL K H a xs->xs[i]?=some y)/\x=.ref T/\H'=upd H T (.tup [.int i,y]),λ i H=>∃ xs,SqL K H a xs/\xs.length<=i⟩
theorem cR {K:z08}(a it e:Addr) (hne:e≠it) :
  Turn P w K (.Tuple elts x1 tp) (Ite K a) [e,it] e (λ i h=>(∃ old,z2f h e it ((i:Nat):Int) old)/\h.IsListIter it a i) where
 mem:=by simp
 obj:=λ i h st b hb=>by
  obtain⟨⟨old,st1⟩,o,eo,c,d⟩:=st
  rcases z0i.mp hb with z | z
  ·subst z;exact⟨_,st1,λ v z=>by
    have z':z51 _=z52 v:=z;cases z'⟩
  ·have z:b=it:=by simpa using z
   subst z;exact⟨o,eo,λ v z=>by rw[d] at z;cases z⟩
 keep:=λ i h h' st k=>⟨let ⟨old,z⟩:=st.1;⟨old,k e (by simp) _ z⟩,st.2.at λ o z=>k it (by simp) o z⟩
 item:=by
  intro X hP hw hK hc i π s σ H E I hf st hg;subst hP hw hK;obtain⟨⟨old,st1⟩,st2⟩:=st;obtain⟨xs,x,hq,hx⟩:=hg;obtain⟨its,rv,p,hz⟩:=I.list hq;obtain⟨u,hu,ru⟩:=rv.get hx;obtain⟨f0,f1,f2,f3,f4,f5⟩:=hf e (by simp);obtain⟨g0,g1,g2,g3,g4,g5⟩:=hf it (by simp);have hlt:e<s.heap.objs.size:=z0g st1;have hlt2:it<s.heap.objs.size:=by obtain⟨o,eo,_⟩:=id st2;exact z0g eo
  refine wpAny_pyNext_enum_item st1 st2 p.isList (x:=u) (by simpa using hu) hne λ h1 he1 hit1 ht1 hz1 kk=>?_;refine⟨_,rfl,z9u (s:={ s with heap:=h1,toks:=s.toks+1 }) he1 λ h2 he2 sb=>?_⟩;have hT:H s.heap.objs.size=none:=I.hok.fresh (z06 _);have I1:Inv X π σ (upd H s.heap.objs.size (.tup [.int i,x])) { s with heap:=s.heap.push { cls:=.type "tuple",data:=.seq #[.int i s.toks,u] } }:=
   I.laid (a:=s.heap.objs.size) (t':=s.toks) (λ b u e=>z0e _ e) (z06 _) ⟨by show 2<=sizeLine;decide,[.int i s.toks,u],.cons ⟨_,rfl⟩ (.cons ru .nil),_,z0l _ rfl,rfl,_,rfl⟩
  let hA:=(s.heap.push { cls:=.type "tuple",data:=.seq #[.int i s.toks,u] })
  have hbig:s.heap.objs.size<h1.objs.size:=by omega
  obtain⟨oi,eoi,_⟩:=id hit1;have I2:Inv X π σ (upd H s.heap.objs.size (.tup [.int i,x])) { s with heap:=h2,toks:=s.toks+1 }:=by
   have fr:({ cls:=.type "enumerate",data:=.fields #[.none,.bool false,.ref it,z0H ((i:Nat):Int),.none,old] }:Obj).isFreed=false:=rfl;have gm:=z1G .(4) he2 fr;have go:∀ b,b≠e->(h2.update e .(4)).get? b=h2.get? b:=λ b hb=>z0_ _ _ (z0n hb);generalize h2.update e .(4)=hm at gm go;have k1:∀ b o,b≠it->(s.heap.push { cls:=.type "tuple",data:=.seq #[.int i s.toks,u] }).get? b=some o->hm.get? b=some o:=λ b o hb z=>by
    by_cases hbe:b=e
    ·rcases z4v z with ⟨q,_⟩ | q
     ·rw[hbe] at q;exact absurd q (z0j hlt)
     ·rw[hbe] at q ⊢;have:s.heap.get? e=_:=st1;rw[this] at q;cases q;exact gm
    ·rw[go b hbe];refine (sb.2 b hbe).trans ?_
     rcases z4v z with ⟨q,rfl⟩ | q
     ·rw[q];exact ht1
     ·exact kk b o hbe hb q
   have I3:=L2.Inv.turned (t':=s.toks+1) (it:=it) (h':=hm) I1 k1 (by rw[Ak (z0j hlt2)];exact g0) g1 g3 g4 g5;exact L2.Inv.turned (s:={ s with heap:=hm,toks:=s.toks+1 }) (t':=s.toks+1) (it:=e) (h':=h2) I3 (λ b o hb z=>by have z':hm.get? b=some o:=z;rw[go b hb] at z';exact z') (by rw[Ak (z0j hlt)];exact f0) f1 f3 f4 f5
  refine⟨.ref s.heap.objs.size,_,I2,rfl,⟨_,x,hT,λ ys hy=>by rw[I.list_inj hy hq];exact hx,rfl,rfl⟩,⟨⟨u,by simpa using he2⟩,hit1.at λ o z=>(sb.2 it (z0n hne)).trans z⟩,λ b hb=>?_⟩
  rcases z0i.mp hb with z | z
  ·rw[z,Ak (z0j hlt)];exact f0
  ·have z:b=it:=by simpa using z
   rw[z,Ak (z0j hlt2)];exact g0
 done:=by
  intro X hP hw hK hc i π s σ H E I hf st hg;subst hP hw hK;obtain⟨⟨old,st1⟩,st2⟩:=st;obtain⟨xs,hq,hx⟩:=hg;obtain⟨its,rv,p,hz⟩:=I.list hq;obtain⟨g0,g1,g2,g3,g4,g5⟩:=hf it (by simp);have hl:=rv.length;exact wpAny_pyNext_enum_end (I.ok.hd hc) st1 st2 p.isList .(17) λ h' eb=>⟨rfl,I.turned (t':=s.toks) (λ b o hb e=>eb b o hb e) g0 g1 g3 g4 g5⟩
 self:=λ _ _ _ _ _ st h=>let ⟨old,z⟩:=st.1;z5O z h
def yG (K:z08) (ta:TA):TI:=λ σ H R=>ta σ H λ vs H1=>∃ a,vs=[.ref a]/\(∃ xs,SqL K H1 a xs)/\R (Ite K a) H1
theorem qD (hg:Gl X "enumerate") (hm:X.mg "enumerate"=none) (ha:PA X [a] ta) (hs:z09 [a] X.env=[.(8)]:=by rfl):PI X (.Tuple elts x1 tp) (.Call (.Name "enumerate" p) [a] [] pos) (yG X.K ta):=by
 intro π s σ H R I h;refine Call_ (Kr I hg hm boot_enumerate (z54 (thn (ha pos π s σ H _ I h) λ us s1 ⟨vs,H1,I1,r1,q1⟩=>?_) hs rfl));obtain⟨l,e,⟨xs,hq⟩,q⟩:=q1;subst e;cases r1 with
 | cons r rr=>
  cases rr;cases r;obtain⟨its,rv,p,hz⟩:=I1.list hq;refine call_enumerate_list p.isList λ h' he hit hz' kp=>?_;refine z5O he ?_;have I2:Inv X π σ H1 { s1 with heap:=h' }:=I1.kept (t':=s1.toks) kp;refine⟨s1.heap.objs.size+1,[s1.heap.objs.size+1,s1.heap.objs.size],_,_,H1,rfl,I2,cR l s1.heap.objs.size (s1.heap.objs.size+1) (z6H _),⟨⟨_,he⟩,hit⟩,λ b hb=>?_,q⟩;have hb':s1.heap.objs.size<=b:=by
   rcases z0i.mp hb with z | z
   ·rw[z];exact z1O _
   ·have z:b=s1.heap.objs.size:=by simpa using z
    rw[z];exact z06 _
  exact I1.fpOk hb' (I1.hok.fresh hb')
def enD:Nat->List D->List D
 | _,[]=>[]
 | n,d::r=>.tup [.int (n:Nat),d]::enD (n+1) r
theorem J5:∀ (n:Nat) (ds:List D),(enD n ds).length=ds.length
 | _,[]=>rfl
 | n,d::r=>by rw[enD,z0u,z0u,J5]
theorem Vd:∀ (n:Nat) (ds:List D) (i:Nat) (d:D),(enD n ds)[i]?=some d->∃ e,ds[i]?=some e/\d=.tup [.int ((n+i:Nat):Int),e]
 | _,[],i,d,h=>by simp[enD] at h
 | n,x::r,0,d,h=>by simp[enD] at h;exact⟨x,rfl,by rw[<-h];simp⟩
 | n,x::r,i+1,d,h=>by
  simp only[enD,z24] at h ⊢;obtain⟨e,h1,h2⟩:=Vd (n+1) r i d h;exact⟨e,h1,by rw[h2];congr 3;omega⟩
def enI (f:FE):FI:=λ ρ=>match f ρ with | some (.lst ds)=>some (enD 0 ds) | _=>none
theorem jh (h:SqL G.K F1 q xs) (r:RepL G F2 xs ds):Src G (Ite G.K q) (enD 0 ds) F1 F2 where
 go:=λ i H s hi=>⟨xs,xs[i]'(by rw[r.1];rwa [J5] at hi),s.seq h,by rw[J5] at hi;simp[r.1,hi]⟩
 yld:=λ i H x H' d s hd y=>by
  obtain⟨T,z,hT,y2,rfl,rfl⟩:=y;obtain⟨e,he,rfl⟩:=Vd 0 ds i d hd;have rz:Rep G F2 z e:=r.2 i z e (y2 xs (s.seq h)) he;refine⟨Al hT _,λ B lv sm=>?_⟩;rw[z1R];exact EY lv hT (.cons (.int _) (.cons (rz.mono sm) .nil))
 stop:=λ i H s hi=>⟨xs,s.seq h,by rw[J5] at hi;rw[r.1];exact hi⟩
theorem ji (hG:G.K=X.K) (hg:Gl X "enumerate") (hm:X.mg "enumerate"=none) (h:PF X G a fa) (hs:z09 [a] X.env=[.(8)]:=by rfl):PFI X G false (.Tuple elts x1 tp) (.Call (.Name "enumerate" p) [a] [] pos) (enI fa):=λ A=>Nu (qD hg hm (Bp (@h A) DG hs) hs) λ σ H R ⟨ρ,ds,o,e,k⟩=>by
 unfold enI at e;split at e
 ·rename_i ds' e1;cases e;refine⟨ρ,_,o,e1,λ v H1 s1 r1=>?_⟩;cases r1 with
  | lst h l r=>
   rename_i b xs;refine⟨b,rfl,⟨xs,by rw[<-hG];exact Ar.seq h⟩,?_⟩;rw[<-hG];exact k _ H1 s1 (jh h ⟨l,r⟩)
 ·cases e
end
end PV
namespace PV
open PySem PySem.Spec L2
section
variable {A:z0a}
def NxOk (prog:z0s) (w:z0k) (s:z03) (it:Addr) (x:z00) (P:Heap->Prop):Prop:=∀ (B:z0a) (E2:z00->z03->Prop) (R:z00->z03->Prop),(∀ h1,z14 it s.heap h1->P h1->R x { s with heap:=h1 })->z02 (z04 prog w) B (z5P (.ref it)) R E2 s
theorem qF {e:Addr}{x old:z00}{P:Heap->Prop}{Q:Option z00->z03->Prop}(he:z2f s.heap e it i old) (hne:e≠it) (nx:NxOk prog w s it x P) (st:∀ g g',P g->(∀ o,g.get? it=some o->g'.get? it=some o)->P g')
  (k:∀ h',IsEnumOut h' e it ((i:Int)+1) x s.heap.objs.size->P h'->h'.get? s.heap.objs.size=some { cls:=.type "tuple",data:=.seq #[.int i s.toks,x] }->h'.objs.size=s.heap.objs.size+1->(∀ b o,b≠e->b≠it->s.heap.get? b=some o->h'.get? b=some o)->Q (some .(6)) { s with heap:=h',toks:=s.toks+1 }) :
  z02 (z04 prog w) A (z0K (.ref e)) Q E s:=by
 have ty:s.TypeIs (.ref e) "enumerate":=⟨_,he,rfl⟩;have le:e<s.heap.objs.size:=z0g he;unfold z0K;refine z01 (z3W (z2x (name:=z0E "__next__") ty z5Q (z1k z5Q ty z9v ?_ (z9w _))));obtain⟨hp,gn,dr,tk,os⟩:=s;show z02 _ _ (z31 (.ref e) 2 >>= _) _ _ _;refine z01 (z1P he rfl (x:=.ref it) rfl (z01 (nx _ _ _ λ g1 (sb1:z14 it hp g1) p1=>?_)));have e1:z2f g1 e it i old:=(sb1.2 e hne).trans he;show z02 _ _ (z31 (.ref e) 3 >>= _) _ _ ⟨g1,gn,dr,tk,os⟩;refine z01 (z1P e1 rfl (x:=z0H i) rfl ?_);show z02 _ _ (z31 (.ref e) 4 >>= _) _ _ ⟨g1,gn,dr,tk,os⟩;refine z01 (z1P e1 rfl (x:=.none) rfl ?_);show z02 _ _ (mkInt i >>= _) _ _ ⟨g1,gn,dr,tk,os⟩;refine z01 (wpAny_mkInt ?_);show z02 _ _ (setField (.ref e) 3 (z0H ((i:Int)+1)) >>= _) _ _ ⟨g1,gn,dr,tk+1,os⟩;refine z01 (z4J e1 (by simp) λ g2 (e2:z2f g2 e it ((i:Int)+1) old) (sb2:z14 e g1 g2)=>?_);show z02 _ _ (setField (.ref e) 4 .none >>= _) _ _ ⟨g2,gn,dr,tk+1,os⟩;refine z01 (z4J e2 (by simp) λ g3 (e3:z2f g3 e it ((i:Int)+1) old) (sb3:z14 e g2 g3)=>?_);show z02 _ _ (z5o [.int i tk,x] >>= _) _ _ ⟨g3,gn,dr,tk+1,os⟩;refine z01 (wpAny_newTuple ?_);have z3:g3.objs.size=hp.objs.size:=by rw[sb3.1,sb2.1,sb1.1]
 obtain⟨g4,q4⟩:∃ g4,g4=g3.push { cls:=.type "tuple",data:=.seq #[.int i tk,x] }:=⟨_,rfl⟩;have e4:z2f g4 e it ((i:Int)+1) old:=q4▸z0e _ e3;have t4:g4.get? hp.objs.size=some { cls:=.type "tuple",data:=.seq #[.int i tk,x] }:=by rw[q4,<-z3];exact z0l _ rfl
 have z4:g4.objs.size=hp.objs.size+1:=by rw[q4,z1w,z3]
 have k4:∀ b o,b≠e->b≠it->hp.get? b=some o->g4.get? b=some o:=λ b o be bi q=>by
  rw[q4];exact z0e _ ((sb3.2 b be).trans ((sb2.2 b be).trans ((sb1.2 b bi).trans q)))
 have p4:P g4:=st g1 g4 p1 λ o q=>by
  rw[q4];exact z0e _ ((sb3.2 it (z0n hne)).trans ((sb2.2 it (z0n hne)).trans q))
 show z02 _ _ (z9x (.ref e) >>= _) _ _ ⟨g3.push { cls:=.type "tuple",data:=.seq #[.int i tk,x] },gn,dr,tk+1,os⟩;rw[<-q4,z3];clear q4 e3 sb3 e2 sb2 e1 sb1 p1 z3;unfold z9x;refine z01 (z01 (z1P e4 rfl (x:=.none) rfl (z05 ?_)));simp only[if_true];refine z01 (z34 (z01 (z1P e4 rfl (x:=old) rfl (z01 (z4J e4 (by simp) λ g5 (e5:z2f g5 e it ((i:Int)+1) x) (sb5:z14 e g4 g5)=>?_)))));show z02 _ _ (z9y (.ref e) (.ref hp.objs.size) >>= _) _ _ ⟨g5,gn,dr,tk+1,os⟩;unfold z9y;refine z01 (z01 (z4J e5 (by simp) λ g6 (e6:IsEnumOut g6 e it ((i:Int)+1) x hp.objs.size) (sb6:z14 e g5 g6)=>?_));refine z4J e6 (by simp) λ g7 (e7:IsEnumOut g7 e it ((i:Int)+1) x hp.objs.size) (sb7:z14 e g6 g7)=>?_;have up:∀ b,b≠e->∀ o,g4.get? b=some o->g7.get? b=some o:=λ b be o q=>(sb7.2 b be).trans ((sb6.2 b be).trans ((sb5.2 b be).trans q));refine z01 (z2D (z05 ⟨_,rfl,z05 (k g7 e7 (st g4 g7 p4 (up it (z0n hne))) (up _ (z2I le) _ t4) (by rw[sb7.1,sb6.1,sb5.1,z4]) λ b o be bi q=>up b be o (k4 b o be bi q))⟩))
theorem vm {t:Addr}{us:Array z00}{x:z00}(hit:s.heap.IsTupleIter it t i) (ht:s.heap.IsTuple t us) (hx:us[i]?=some x):NxOk prog w s it x (λ h=>h.IsTupleIter it t (i+1)):=λ B E2 R k=>by
 obtain⟨o,g,c,d⟩:=id hit;obtain⟨ot,gt,_,nt,dt⟩:=ht;unfold z5P;refine z01 (z2x (name:=z0E "__next__") hit.typeIs z5R (z1k z5R hit.typeIs z9z ?_ (z9A _)));show z02 _ _ (z31 (.ref it) 0 >>= _) _ _ s;refine z01 (z1P g d (x:=.ref t) rfl ?_);show z02 _ _ (if (z0b t==z15)=true then _ else _) _ _ s;rw[if_neg (show ¬ ((z0b t==z15)=true) from z0D)];show z02 _ _ (z31 (.ref it) 1 >>= _) _ _ s;refine z01 (z1P g d (x:=.int i 0) rfl (show z02 _ _ (z2S (.ref t) >>= _) _ _ s from z01 (z1T gt dt ?_)));simp only[z1a,hx];refine z01 (z3o g d (by simp) (z05 ⟨x,rfl,z05 (k _ (z3X ..) ?_)⟩));exact⟨_,z1G _ g (z5r (z3p d _)),(z5s ..).trans c,by rw[z3p d];simp[z0H]⟩
theorem jk {t:Addr}{us:Array z00}(hh:A.handled=none) (hit:s.heap.IsTupleIter it t i) (ht:s.heap.IsTuple t us) (hx:us[i]?=none)
  (k:∀ h' v,z4u it s.heap h'->(∃ o,h'.get? v=some o/\o.cls=.type "StopIteration")->E (.ref v) { s with heap:=h' }):z02 (z04 prog w) A (z5P (.ref it)) Q E s:=by
 obtain⟨o,g,c,d⟩:=id hit;obtain⟨ot,gt,_,nt,dt⟩:=ht;unfold z5P;refine z01 (z2x (name:=z0E "__next__") hit.typeIs z5R (z1k z5R hit.typeIs z9z ?_ (z9A _)));show z02 _ _ (z31 (.ref it) 0 >>= _) _ _ s;refine z01 (z1P g d (x:=.ref t) rfl ?_);show z02 _ _ (if (z0b t==z15)=true then _ else _) _ _ s;rw[if_neg (show ¬ ((z0b t==z15)=true) from z0D)];show z02 _ _ (z31 (.ref it) 1 >>= _) _ _ s;refine z01 (z1P g d (x:=.int i 0) rfl (show z02 _ _ (z2S (.ref t) >>= _) _ _ s from z01 (z1T gt dt ?_)));simp only[z1a,hx];refine z01 (z34 (z01 (z3o g d (by simp) ?_)));show z02 _ _ (z3V (.type "StopIteration") [] >>= _) _ _ _;refine z01 ?_;simp only[z3V,z5o];refine z01 (z1Q ?_ (by size_fits));refine z01 (m:=z5J _ _) (z4t (a:=z15) (by first | rfl | (simp only[z5J];rfl)) (z1Q ?_ (by size_fits)));simp only[raiseNew];refine z01 (wpAny_handled ?_);rw[show A.in1.handled=none from hh];exact z01 (z05 (wpAny_throw (k _ _ (((z3X ..).extBut.push _).push _) ⟨_,z0l _ rfl,rfl⟩)))
theorem cT {e t:Addr}{us:Array z00}{old:z00}{Q:Option z00->z03->Prop}(hh:A.handled=none) (he:z2f s.heap e it i old) (hit:s.heap.IsTupleIter it t i) (ht:s.heap.IsTuple t us) (hx:us[i]?=none)
  (k:∀ h',z4u it s.heap h'->Q none { s with heap:=h' }):z02 (z04 prog w) A (z0K (.ref e)) Q E s:=by
 have ty:s.TypeIs (.ref e) "enumerate":=⟨_,he,rfl⟩;unfold z0K;refine z01 (z3W (z2x (name:=z0E "__next__") ty z5Q (z1k z5Q ty z9v ?_ (z9w _))));show z02 _ _ (z31 (.ref e) 2 >>= _) _ _ _;refine z01 (z1P he rfl (x:=.ref it) rfl (z01 (jk hh hit ht hx λ h' v eb hv=>?_)));obtain⟨o,g,c⟩:=hv;exact z01 (z35 (T:="StopIteration") (b:=true) ⟨o,g,c⟩ z73 (z05 (k _ eb)))
theorem cU (t:Addr) (us:Array z00) (n:Nat) (dct:Option Addr) (sl:Array (Option z00)):Meets (z1h.«enumerate.__new__» ⟨[.type "enumerate",.ref t],[]⟩) (λ _ R s=>s.heap.get? t=some { cls:=.type "tuple",dict:=dct,data:=.seq us n,slots:=sl } ∧
  R (.ok (.ret (.ref .(14).objs.size))) { s with heap:=.(14).push { cls:=.type "enumerate",data:=.fields #[.none,.bool false,.ref s.heap.objs.size,z0H 0,.none,.none] } }):=.of_wp λ prog w A R s h=>by
 obtain⟨hp,gn,dr,tk,os⟩:=s;obtain⟨g,h⟩:=h;have sb:=sub_enumerate;have il:Heap.IsTuple (Shared.heap ⟨hp,gn,dr,tk,os⟩) t us:=⟨_,g,rfl,n,rfl⟩
 wp_walk using z5S g
 refine wpAny_stack_any λ st=>z05 ?_;split
 ·rename_i c _ _ _ _ _;cases (c==z2h "enumerate")
  ·wp_walk using z5S g,z4d il
   exact⟨_,rfl,h⟩
  ·wp_walk using z5S g,z4d il
   exact⟨_,rfl,h⟩
 ·wp_walk using z5S g,z4d il
  exact⟨_,rfl,h⟩
theorem YX {t:Addr}{us:Array z00}(ht:s.heap.IsTuple t us)
  (k:∀ h',z2f h' .(7) s.heap.objs.size 0 .none->h'.IsTupleIter s.heap.objs.size t 0->h'.objs.size=s.heap.objs.size+2->.(2)->Q (.ref .(7)) { s with heap:=h' }) :
  z02 (z04 prog w) A (call (.type "enumerate") [.ref t]) Q E s:=by
 obtain⟨⟨c,dct,dt,sl⟩,g,hc,n,hd⟩:=ht;obtain rfl:c=.type "tuple":=hc;obtain rfl:dt=.seq us n:=hd;refine callType_new F.called_enumerate (by decide) (F.typeCall_enumerate_1 _) (F.newCall_enumerate_1 _) (λ ob=>F.args_object_init_2 ob _) F.entry_enumerate_new (cU t us n dct sl) ⟨g,?_⟩;have hz:.(14).objs.size=s.heap.objs.size+1:=z1w ..;show _/\_;rw[hz];have he:z2f (.(14).push { cls:=.type "enumerate",data:=.fields #[.none,.bool false,.ref s.heap.objs.size,z0H 0,.none,.none] }) .(7) s.heap.objs.size 0 .none:=by
  have:=z0l .(14) (o:={ cls:=.type "enumerate",data:=.fields #[.none,.bool false,.ref s.heap.objs.size,z0H 0,.none,.none] }) rfl
  rwa [hz] at this
 exact⟨⟨_,he,rfl⟩,k _ he ⟨_,z0e _ (z0l _ rfl),rfl,rfl⟩ (by rw[z1w,hz]) λ b o x=>z0e _ (z0e _ x)⟩
end
section
variable {a:Expr}{fa:FE}{ta:TA}{p:Pos}
def IteT (K:z08) (a:Addr):It:=
 ⟨λ i H=>∃ xs x,SqT K H a xs/\xs[i]?=some x,λ i H x H'=>∃ T y,H T=none/\(∀ xs,SqT K H a xs->xs[i]?=some y)/\x=.ref T/\H'=upd H T (.tup [.int i,y]),λ i H=>∃ xs,SqT K H a xs/\xs.length<=i⟩
theorem YZ {K:z08}(a it e:Addr) (hne:e≠it) :
  Turn P w K (.Tuple elts x1 tp) (IteT K a) [e,it] e (λ i h=>(∃ old,z2f h e it ((i:Nat):Int) old)/\h.IsTupleIter it a i) where
 mem:=by simp
 obj:=λ i h st b hb=>by
  obtain⟨⟨old,st1⟩,o,eo,c,d⟩:=st
  rcases z0i.mp hb with z | z
  ·subst z;exact⟨_,st1,λ v z=>by
    have z':z51 _=z52 v:=z;cases z'⟩
  ·have z:b=it:=by simpa using z
   subst z;exact⟨o,eo,λ v z=>by rw[d] at z;cases z⟩
 keep:=λ i h h' st k=>⟨let ⟨old,z⟩:=st.1;⟨old,k e (by simp) _ z⟩,st.2.at λ o z=>k it (by simp) o z⟩
 item:=by
  intro X hP hw hK hc i π s σ H E I hf st hg;subst hP hw hK;obtain⟨⟨old,st1⟩,st2⟩:=st;obtain⟨xs,x,hq,hx⟩:=hg;obtain⟨its,rv,p,hz⟩:=I.tuple hq;obtain⟨u,hu,ru⟩:=rv.get hx;obtain⟨f0,f1,f2,f3,f4,f5⟩:=hf e (by simp);obtain⟨g0,g1,g2,g3,g4,g5⟩:=hf it (by simp);have hlt:e<s.heap.objs.size:=z0g st1;have hlt2:it<s.heap.objs.size:=by obtain⟨o,eo,_⟩:=id st2;exact z0g eo
  refine qF st1 hne (vm st2 p (x:=u) (by simpa using hu)) (λ g g' q z=>q.at z) λ h1 he1 hit1 ht1 hz1 kk=>?_;refine⟨_,rfl,z9u (s:={ s with heap:=h1,toks:=s.toks+1 }) he1 λ h2 he2 sb=>?_⟩;have hT:H s.heap.objs.size=none:=I.hok.fresh (z06 _);have I1:Inv X π σ (upd H s.heap.objs.size (.tup [.int i,x])) { s with heap:=s.heap.push { cls:=.type "tuple",data:=.seq #[.int i s.toks,u] } }:=
   I.laid (a:=s.heap.objs.size) (t':=s.toks) (λ b u e=>z0e _ e) (z06 _) ⟨by show 2<=sizeLine;decide,[.int i s.toks,u],.cons ⟨_,rfl⟩ (.cons ru .nil),_,z0l _ rfl,rfl,_,rfl⟩
  let hA:=(s.heap.push { cls:=.type "tuple",data:=.seq #[.int i s.toks,u] })
  have hbig:s.heap.objs.size<h1.objs.size:=by omega
  obtain⟨oi,eoi,_⟩:=id hit1;have I2:Inv X π σ (upd H s.heap.objs.size (.tup [.int i,x])) { s with heap:=h2,toks:=s.toks+1 }:=by
   have fr:({ cls:=.type "enumerate",data:=.fields #[.none,.bool false,.ref it,z0H ((i:Nat):Int),.none,old] }:Obj).isFreed=false:=rfl;have gm:=z1G .(4) he2 fr;have go:∀ b,b≠e->(h2.update e .(4)).get? b=h2.get? b:=λ b hb=>z0_ _ _ (z0n hb);generalize h2.update e .(4)=hm at gm go;have k1:∀ b o,b≠it->(s.heap.push { cls:=.type "tuple",data:=.seq #[.int i s.toks,u] }).get? b=some o->hm.get? b=some o:=λ b o hb z=>by
    by_cases hbe:b=e
    ·rcases z4v z with ⟨q,_⟩ | q
     ·rw[hbe] at q;exact absurd q (z0j hlt)
     ·rw[hbe] at q ⊢;have:s.heap.get? e=_:=st1;rw[this] at q;cases q;exact gm
    ·rw[go b hbe];refine (sb.2 b hbe).trans ?_
     rcases z4v z with ⟨q,rfl⟩ | q
     ·rw[q];exact ht1
     ·exact kk b o hbe hb q
   have I3:=L2.Inv.turned (t':=s.toks+1) (it:=it) (h':=hm) I1 k1 (by rw[Ak (z0j hlt2)];exact g0) g1 g3 g4 g5;exact L2.Inv.turned (s:={ s with heap:=hm,toks:=s.toks+1 }) (t':=s.toks+1) (it:=e) (h':=h2) I3 (λ b o hb z=>by have z':hm.get? b=some o:=z;rw[go b hb] at z';exact z') (by rw[Ak (z0j hlt)];exact f0) f1 f3 f4 f5
  refine⟨.ref s.heap.objs.size,_,I2,rfl,⟨_,x,hT,λ ys hy=>by rw[I.tuple_inj hy hq];exact hx,rfl,rfl⟩,⟨⟨u,by simpa using he2⟩,hit1.at λ o z=>(sb.2 it (z0n hne)).trans z⟩,λ b hb=>?_⟩
  rcases z0i.mp hb with z | z
  ·rw[z,Ak (z0j hlt)];exact f0
  ·have z:b=it:=by simpa using z
   rw[z,Ak (z0j hlt2)];exact g0
 done:=by
  intro X hP hw hK hc i π s σ H E I hf st hg;subst hP hw hK;obtain⟨⟨old,st1⟩,st2⟩:=st;obtain⟨xs,hq,hx⟩:=hg;obtain⟨its,rv,p,hz⟩:=I.tuple hq;obtain⟨g0,g1,g2,g3,g4,g5⟩:=hf it (by simp);have hl:=rv.length;exact cT (I.ok.hd hc) st1 st2 p .(17) λ h' eb=>⟨rfl,I.turned (t':=s.toks) (λ b o hb e=>eb b o hb e) g0 g1 g3 g4 g5⟩
 self:=λ _ _ _ _ _ st h=>let ⟨old,z⟩:=st.1;z5O z h
def vo (K:z08) (ta:TA):TI:=λ σ H R=>ta σ H λ vs H1=>∃ a,vs=[.ref a]/\(∃ xs,SqT K H1 a xs)/\R (IteT K a) H1
theorem jo (hg:Gl X "enumerate") (hm:X.mg "enumerate"=none) (ha:PA X [a] ta) (hs:z09 [a] X.env=[.(8)]:=by rfl):PI X (.Tuple elts x1 tp) (.Call (.Name "enumerate" p) [a] [] pos) (vo X.K ta):=by
 intro π s σ H R I h;refine PyProof.Rows.Call_ (Kr I hg hm boot_enumerate (z54 (thn (ha pos π s σ H _ I h) λ us s1 ⟨vs,H1,I1,r1,q1⟩=>?_) hs rfl));obtain⟨l,e,⟨xs,hq⟩,q⟩:=q1;subst e;cases r1 with
 | cons r rr=>
  cases rr;cases r;obtain⟨its,rv,p,hz⟩:=I1.tuple hq;refine YX p λ h' he hit hz' kp=>?_;refine z5O he ?_;have I2:Inv X π σ H1 { s1 with heap:=h' }:=I1.kept (t':=s1.toks) kp;refine⟨s1.heap.objs.size+1,[s1.heap.objs.size+1,s1.heap.objs.size],_,_,H1,rfl,I2,YZ l s1.heap.objs.size (s1.heap.objs.size+1) (z6H _),⟨⟨_,he⟩,hit⟩,λ b hb=>?_,q⟩;have hb':s1.heap.objs.size<=b:=by
   rcases z0i.mp hb with z | z
   ·rw[z];exact z1O _
   ·have z:b=s1.heap.objs.size:=by simpa using z
    rw[z];exact z06 _
  exact I1.fpOk hb' (I1.hok.fresh hb')
def enIT (f:FE):FI:=λ ρ=>match f ρ with | some (.tup ds)=>some (enD 0 ds) | _=>none
theorem cV (h:SqT G.K F1 q xs) (r:RepL G F2 xs ds):Src G (IteT G.K q) (enD 0 ds) F1 F2 where
 go:=λ i H s hi=>⟨xs,xs[i]'(by rw[r.1];rwa [J5] at hi),Dl s h,by rw[J5] at hi;simp[r.1,hi]⟩
 yld:=λ i H x H' d s hd y=>by
  obtain⟨T,z,hT,y2,rfl,rfl⟩:=y;obtain⟨e,he,rfl⟩:=Vd 0 ds i d hd;have rz:Rep G F2 z e:=r.2 i z e (y2 xs (Dl s h)) he;refine⟨Al hT _,λ B lv sm=>?_⟩;rw[z1R];exact EY lv hT (.cons (.int _) (.cons (rz.mono sm) .nil))
 stop:=λ i H s hi=>⟨xs,Dl s h,by rw[J5] at hi;rw[r.1];exact hi⟩
theorem cW (hG:G.K=X.K) (hg:Gl X "enumerate") (hm:X.mg "enumerate"=none) (h:PF X G a fa) (hs:z09 [a] X.env=[.(8)]:=by rfl):PFI X G false (.Tuple elts x1 tp) (.Call (.Name "enumerate" p) [a] [] pos) (enIT fa):=λ A=>Nu (jo hg hm (Bp (@h A) DG hs) hs) λ σ H R ⟨ρ,ds,o,e,k⟩=>by
 unfold enIT at e;split at e
 ·rename_i ds' e1;cases e;refine⟨ρ,_,o,e1,λ v H1 s1 r1=>?_⟩;cases r1 with
  | tup h l r=>
   rename_i b xs;refine⟨b,rfl,⟨xs,by rw[<-hG];exact Dl Ar h⟩,?_⟩;rw[<-hG];exact k _ H1 s1 (cV h ⟨l,r⟩)
 ·cases e
end
open PyProof.Rows (isTrue_and isTrue_not isTrue_and_nil envOfC)
section
variable {a:Expr}{fa:FE}{p:Pos}
def enIB (f:FE):FI:=λ ρ=>match f ρ with | some (.lst ds)=>some (enD 0 ds) | some (.tup ds)=>some (enD 0 ds) | _=>none
theorem cX (hG:G.K=X.K) (hg:Gl X "enumerate") (hm:X.mg "enumerate"=none) (h:PF X G a fa) (hs:z09 [a] X.env=[.(8)]:=by rfl):PFI X G false (.Tuple elts x1 tp) (.Call (.Name "enumerate" p) [a] [] pos) (enIB fa):=λ A=>Nu (piOr (ji hG hg hm h hs (A:=A)) (cW hG hg hm h hs (A:=A))) λ σ H R ⟨ρ,ds,o,e,k⟩=>by
 unfold enIB at e;split at e
 ·rename_i ds' e1;exact .inl ⟨ρ,ds,o,by unfold enI;rw[e1];exact e,k⟩
 ·rename_i ds' e1;exact .inr ⟨ρ,ds,o,by unfold enIT;rw[e1];exact e,k⟩
 ·cases e
end
def J6 (P:z0s) (w:z0k) (m:Addr) (xs:List (List (List Key)×Addr×z00)):Heap->Prop:=λ h=>∃ o es ep,h.get? m=some o/\o.ExactDict/\o.data=.dict es ep/\es.toList=xs.map (z48 (PV.RL (Aq P w)))/\(xs.map (·.1)).Nodup
structure Pres (P:z0s) (w:z0k) (K:z08) (f:Str) (H:Hp) (a b m:Addr) (F:List (List Key)->Int) (xs:List (List (List Key)×Addr×z00)) (ks:List (List Key)):Prop where
 at_:∃ C dx fs,H a=some (.ins C dx fs)/\Cls K C/\Bf K C f/\fs.lookup f=some (.ref m)
 sm:(m==z16)=false
 ext:H m=some (.ext (J6 P w m xs))
 al:∀ q∈xs,MemK K H q.1 q.2.1/\Kin q.1/\RelV (.int (F q.1)) q.2.2
 ky:MemK K H ks b
 pr:(z0I xs ks).isSome=true
def spP (P:z0s) (w:z0k) (K:z08) (f:Str):Sp:=λ vs H Q _=>∃ a b m F xs ks,vs=[.ref a,.ref b]/\Pres P w K f H a b m F xs ks/\Q (.int (F ks)) H
def tP (P:z0s) (w:z0k) (K:z08) (f:Str):TS:=λ D σ H=>∃ a b m F xs ks,σ[0]?=some (some (.ref a))/\σ[1]?=some (some (.ref b))/\Pres P w K f H a b m F xs ks/\D.rt (.int (F ks)) H
section
theorem QC {m:Addr}{xs:List (List (List Key)×Addr×z00)}(I:Inv X π σ H s) (h:Pres X.prog X.w X.K f H a b m F xs ks):s.heap.DictOfH (nK X) m xs:=by
 obtain⟨⟨o,es,ep,g,ex,d,e,nd⟩,_,_⟩:=(show BV X.prog X.w H s.heap m (.ext (J6 X.prog X.w m xs)) from I.hok m _ h.ext);exact⟨o,es,ep,g,ex,d,e,λ q hq=>L_ I (h.al q hq).1,nd⟩
theorem jq {m:Addr}(hN:X.N[i]?=some x) (hv:Vis X.env.scope x) (hd:.(3)=false) (hcd:.(27)=false)
  (hb:z1x (.Name x p1) f X.env (eval (.Name x p1) X.env)=eval (.Name x p1) X.env) (I:Inv X π σ H s) (h1:σ[i]?=some (some (.ref a))) (h:∃ C dx fs,H a=some (.ins C dx fs)/\Cls X.K C/\Bf X.K C f/\fs.lookup f=some (.ref m)) (k:∀ tk,Q (.ref m) { s with toks:=tk }):z02 .(0) X.A (eval (.Attribute (.Name x p1) f p2) X.env) Q E s:=by
 obtain⟨C,dx,fs,h2,c,n,l⟩:=h;refine Um hb (Ia hN hv hd hcd I h1 λ u r=>?_);obtain rfl:u=z0b a:=r;obtain⟨mA,O,r,_,_,_⟩:=Lp I.hok h2;obtain⟨u,hu,ru⟩:=RelO.some_of (v:=.ref m) (o:=mA f) (by rw[<-l];exact r f);obtain rfl:u=z0b m:=ru;exact Ul I.kIn O (c.get f) c.hd n hu (O_ (v:=.ref m) rfl) (k _)
theorem qG {y:Str}{p14 p15:Pos}(hu:X.A.units+64<z0h) (hN:X.N[0]?=some x) (hv:Vis X.env.scope x) (hN2:X.N[1]?=some y) (hv2:Vis X.env.scope y)
  (hm:z17 .NotIn (.Attribute (.Name x p2) f p3)=false:=by rfl) (hsl:NoSl (.Name y p13):=by intro _ _;rfl)
  (hd:.(3)=false:=by decide) (hcd:.(27)=false:=by decide) (hd2:(y==("__debug__":Str))=false:=by decide) (hcd2:(y==("__classdict__":Str))=false:=by decide)
  (hb:∀ p,z1x (.Name x p) f X.env (eval (.Name x p) X.env)=eval (.Name x p) X.env:=by intro _;rfl) :
  PSs X [.If (.Compare (.Name y p1) [.NotIn] [.Attribute (.Name x p2) f p3] p4) body [] p10,.Return .(24) p15] (tP X.prog X.w X.K f):=λ π s σ H D I ⟨a,b,m,F,xs,ks,h0,h1,h,k⟩=>by
 refine z27 (z49 (z3G (Ia hN2 hv2 hd2 hcd2 I h1 λ u r=>jq hN hv hd hcd (hb _) I h0 h.at_ λ tk=>?_) hm));obtain rfl:u=z0b b:=r;have I1:=I.tok tk;refine z97 (knd:=nK X) (by show X.A.units+1+1<z0h;omega) (L_ I1 h.ky) h.sm (QC I1 h) (z1J ?_);rw[h.pr];show z02 _ _ (z1K [] X.env) _ _ _;refine z1V ?_;have I2:∀ tk,Inv X π σ H { s with toks:=tk }:=λ tk=>I.tok tk;refine z27 (thn (?_:z02 .(0) X.A (exec (.Return .(24) p15) X.env) (SP X π D) X.xe _) λ fl s1 q=>?_)
 ·refine z4_ (Y8 z6U.lookup hsl (jq hN hv hd hcd (hb _) (I2 _) h0 h.at_ λ tk2=>Ia hN2 hv2 hd2 hcd2 (I2 tk2) h1 λ u r=>⟨(QC (I2 tk2) h).typeIs,?_⟩));obtain rfl:u=z0b b:=r;exact Zy (F:=F) (by omega) (I2 tk2) h.ky (QC (I2 tk2) h) h.al h.pr λ u tk3 ru=>⟨.int (F ks),σ,H,I2 tk3,ru,k⟩
 ·cases fl with
  | next=>
   obtain⟨σ',H2,I3,q⟩:=q;exact Ln (X:=X) π s1 σ' H2 D I3 q
  | ret v=>exact q
  | brk=>exact q
  | cont=>exact q
theorem fn_P {K:z08}{base:Heap}{f:Addr}{k:Nat}{fl:Str}(F:Fun K x qual st f fd) (S:FnScope N ps (Ab st)) (hl:ps.length=2)
  (hb:∀ (cdv:z00) (A:z0a) (outer:List Env) (s:z03) (H:Hp) (E:XK),Room k (A.deeper (z1E qual (Ab st) s.heap.objs.size f cdv))->PSs (cxOf CX0 P w K mg base N qual (Ab st) f cdv A outer s H E).nox (B_ st) (tP P w K fl)) :
  FnOk P w K mg base CX0 (k+1) f fd ps (spP P w K fl):=by
 refine F.ok S (λ vs H Q E h=>?_) (λ cdv A outer s H vs Q E hr h=>?_)
 ·obtain⟨a,b,m,F,xs,ks,rfl,_⟩:=h;rw[hl];rfl
 ·obtain⟨a,b,m,F,xs,ks,rfl,h,q⟩:=h;exact⟨_,hb cdv A outer s H E hr,a,b,m,F,xs,ks,rfl,rfl,h,q⟩
def memB (i:Nat) (f:Str) (j:Nat) (ft:FT) (c mth:Str) (fr:FE):FS:=λ ρ=>match uF (fldD f) (vF i) ρ,(vF j ρ).bind keyP,ft ρ with
 | some (.mem F),some ps,some true=>retF fr ρ
 | some (.mem F),some ps,some false=>if F (kks ps)=0/\(vF i ρ).map (Dg c mth)=some true then some (.rt (.int 0) ρ) else none
 | _,_,_=>none
theorem W4 {K:z08}{m:Addr}{o:HO}(hn:∀ u,H m=some u->¬ Tu u) (h:MemK K H ks b):MemK K (upd H m o) ks b:=by
 have tp:∀ {c:Addr}{xs:List V},TupAt K H c xs->TupAt K (upd H m o) c xs:=λ {c xs} z=>by
  rcases z with (z | ⟨u,z⟩) | z
  ·exact .inl (.inl (by rw[Ak (λ e=>hn (.tup xs) (by rw[<-e];exact z) trivial)];exact z))
  ·exact .inl (.inr ⟨u,by rw[Ak (λ e=>hn (.frz u (.tup xs)) (by rw[<-e];exact z) trivial)];exact z⟩)
  ·exact .inr z
 obtain⟨bs,h1,h2⟩:=h;exact⟨bs,tp h1,Paired.mapP h2 λ _ _ z=>tp z⟩
theorem W5 {m:Addr}{o u:HO}(h:H m=some u):upd (upd H m o) m u=H:=by
 funext c;unfold upd;split
 ·rename_i e;rw[e,h]
 ·rfl
theorem jr {y mth:Str}{sf:Stmt}{psf:List Str}{k0:Nat}{test:Expr}{q1 q2 q3 q4 q5:Pos}{jj:Nat}{pl:Sem Bool}{d:Mx X.K C mth qual sf psf}(hu:X.A.units+64<z0h) (hG:G.K=X.K) (hcl:∀ c C,G.cl c=some C->Cls X.K C/\Bf X.K C f) (hc:G.cl c=some C) (hN:X.N[i]?=some x) (hv:Vis X.env.scope x) (hN2:X.N[j]?=some y) (hv2:Vis X.env.scope y) (ht:PFT X G test ft)
    (F2:FnOk X.prog X.w X.K X.mg X.base CX0 k0 d.f d.fd psf (spP X.prog X.w X.K f)) (hr:Room k0 X.A)
    (hret:PSD X G (.Return (some .(41)) q5) (retF fr))
    (hs:z1o (.Constant (.int 0) jj p9) (some (.Subscript (.Attribute (.Name x p5) f p6) (.Name y p7) p8)) p10.line X.env=pure false:=by rfl) (hm:z17 .NotIn (.Attribute (.Name x p2) f p3)=false:=by rfl)
    (hd:.(3)=false:=by decide) (hcd:.(27)=false:=by decide) (hd2:(y==("__debug__":Str))=false:=by decide) (hcd2:(y==("__classdict__":Str))=false:=by decide)
    (hb:∀ p,z1x (.Name x p) f X.env (eval (.Name x p) X.env)=eval (.Name x p) X.env:=by intro _;rfl)
    (hst:z09 [.Name y q3] X.env=(false,eval (.Name y q3) X.env)::z09 [] X.env:=by rfl) (hpl:(z0B q4 (z09 [] X.env)).any (·.1)=false:=by rfl)
    (hcall:eval .(41) X.env=(do
      let ov <-eval (.Name x q1) X.env
      z1X q2.atName
      let (f,first) <-z1v [ov] (z29 ov mth pl)
      z2a q4 f first (z0B q4 (z09 [.Name y q3] X.env)) (z1D q4 (z1p [] X.env))):=by rfl) :
    PSDs X G [.If (.BoolOp .And [.Compare (.Name y p1) [.NotIn] [.Attribute (.Name x p2) f p3] p4,.UnaryOp .Not test p11] p12) [.Assign [.Subscript (.Attribute (.Name x p5) f p6) (.Name y p7) p8] (.Constant (.int 0) jj p9) p10] [] p13,.Return (some .(41)) q5] (memB i f j ft c mth fr):=λ A0 He π s σ H D I ⟨ρ,o,⟨A,w⟩,e,k⟩=>by
  unfold memB at e;split at e
  · rename_i F ps ef ek et
    refine Ac (jH hu hG hcl hN hv hN2 hv2 ht hs hm hd hcd hd2 hcd2 hb) (Ae hret) (A0:=A0) He π s σ H D I ⟨ρ,o,⟨A,w⟩,?_,k⟩;unfold seqF memZ;rw[ef,ek,et];simp only[true_or,if_true];exact e
  · rename_i F ps ef ek et
    split at e
    · rename_i hF
      obtain⟨hF,hob⟩:=hF;cases e;obtain⟨dk,ek1,ek2⟩:=z4E.mp ek;obtain⟨m,fm⟩:=jF (X:=X) hG hcl w.ok ef;obtain⟨b,hb1,mk,kin⟩:=K7 (X:=X) hG w.ok ek1 ek2;obtain⟨od,eo,hob⟩:=z1U.mp hob;have hobj:∃ a C' dx fs,σ[i]?=some (some (.ref a))/\H a=some (.ins C' dx fs)/\Cls X.K C'/\Bf X.K C' f/\fs.lookup f=some (.ref m)/\C'=C/\fs.lookup mth=none:=by
        have hz:ρ[i]?=some (.fz od):=by
          unfold vF at eo;split at eo
          · rename_i z hz;cases eo;exact hz
          · cases eo
        obtain⟨v,g1,g2⟩:=w.ok.fz i od hz;obtain⟨a,C',dx,fs,a1,a2,a3,a4,a5⟩:=fm.at_;cases od with
        | ob c' gs=>
          simp only[Dg,z0Q,beq_iff_eq,z3q] at hob;obtain⟨rfl,hn⟩:=hob;cases g2 with
          | @ob a' C2 dx2 _ fs2 _ t1 t2 t3 t4=>
            rw[a1] at g1;cases g1;have t2':=Ar _ _ t2;rw[a2] at t2';cases t2';rw[hc] at t1;cases t1;exact⟨a,C,dx,fs,a1,a2,a3,a4,a5,rfl,MK t3 hn⟩
        | _=>simp[Dg] at hob
      obtain⟨a,C',dx,fs,a1,a2,a3,a4,a5,rfl,a6⟩:=hobj;have rest:∀ (H':Hp) (s':z03) (xs:List (List (List Key)×Addr×z00)),Same H H'->Inv X π σ H' s'->s'.heap.DictOfH (nK X) m xs->(∀ q∈xs,MemK X.K H' q.1 q.2.1/\Kin q.1/\RelV (.int (F q.1)) q.2.2)->(z0I xs (kks ps)).isSome=true ->
          z02 .(0) X.A (z1K [.Return (some .(41)) q5] X.env) (SP X π D) X.xe s':=λ H' s' xs sm I' dd al pr=>by
        have hm':H' m=some (.mem F X.K):=sm _ _ fm.mem;have ntu:∀ u,H' m=some u->¬ Tu u:=λ u e z=>by rw[hm'] at e;cases e;exact z
        obtain⟨hs1,_⟩:=YM I' hm';obtain⟨o',es,ep,g,ex,dt,ee,is,nd⟩:=id dd;have ph:J6 X.prog X.w m xs s'.heap:=⟨o',es,ep,g,ex,dt,ee,nd⟩;have I2:Inv X π σ (upd H' m (.ext (J6 X.prog X.w m xs))) s':=I'.write (x:=m) (e:=m) (o:=.ext (J6 X.prog X.w m xs)) (h':=s'.heap) (t':=s'.toks) (by rw[hm'];exact trivial) (.inl rfl) (λ _ _ _ z=>z) ⟨o',g⟩
          ⟨ph,⟨o',g⟩,λ h1 h2 ⟨o,es,ep,z1,z2⟩ kk=>⟨o,es,ep,kk _ z1,z2⟩⟩
        have ha2:upd H' m (.ext (J6 X.prog X.w m xs)) a=some (.ins C' dx fs):=by
          rw[Ak (λ e=>by have:=sm _ _ a2;rw[e,hm'] at this;cases this)];exact sm _ _ a2
        have P2:Pres X.prog X.w X.K f (upd H' m (.ext (J6 X.prog X.w m xs))) a b m F xs (kks ps):=⟨⟨C',dx,fs,ha2,a3,a4,a5⟩,hs1,Aj,λ q hq=>⟨W4 ntu (al q hq).1,(al q hq).2⟩,W4 ntu (H_ sm mk),pr⟩;have key:=Y5 (pl:=pl) (Xd hN hv hd hcd) a3 d.me F2 hr d.B .nil WF (Bp (Xd hN2 hv2 hd2 hcd2) DG hst) hst hpl hcall π s' σ _ (λ v H3=>v=.int 0/\H3=upd H' m (.ext (J6 X.prog X.w m xs))) I2 ⟨_,a1,a,dx,fs,rfl,ha2,a6,_,hb1,a,b,m,F,xs,kks ps,rfl,P2,by rw[hF],rfl⟩;have one:z02 .(0) X.A (exec (.Return (some .(41)) q5) X.env) (SP X π D) X.xe s':=by
          refine z4_ (thn key λ u s1 q=>?_);obtain⟨v,H3,I3,ru,ev,eH⟩:=q;subst ev eH;obtain⟨⟨o4,es4,ep4,z1,z2,z3,z4,z5⟩,_,_⟩:=(show BV X.prog X.w _ s1.heap m (.ext (J6 X.prog X.w m xs)) from I3.hok m _ Aj);have I4:=I3.write (x:=m) (e:=m) (o:=.mem F X.K) (h':=s1.heap) (t':=s1.toks) (by rw[Aj];exact trivial) (.inl rfl) (λ _ _ _ z=>z) ⟨o4,z1⟩ (by
            rw[W5 hm'];exact⟨hs1,xs,al,o4,es4,ep4,z1,z2,z3,z4,z5⟩)
          rw[W5 hm'] at I4;exact⟨.int 0,σ,H',I4,ru,k (.int 0) σ H' A (w.mono sm) (.int 0)⟩
        refine z27 (thn one λ fl s1 q=>?_);cases fl with
        | next=>
          obtain⟨σ',H2,I2,q⟩:=q;exact Ln (X:=X) π s1 σ' H2 D I2 q
        | ret v=>exact q
        | brk=>exact q
        | cont=>exact q
      have put:∀ (H':Hp) (s':z03),Same H H'->Inv X π σ H' s'->z02 .(0) X.A (z1K [.Assign [.Subscript (.Attribute (.Name x p5) f p6) (.Name y p7) p8] (.Constant (.int 0) jj p9) p10] X.env) (λ fl s'=>fl=.next/\∃ H2 xs,Same H H2/\Inv X π σ H2 s'/\s'.heap.DictOfH (nK X) m xs/\(∀ q∈xs,MemK X.K H2 q.1 q.2.1/\Kin q.1/\RelV (.int (F q.1)) q.2.2)/\(z0I xs (kks ps)).isSome=true) X.xe s':=λ H' s' sm I'=>by
        refine z27 (z5f (z67 ?_) hs);have I2:=I'.tok (s'.toks+1);refine M8 hN hv hd hcd (hb _) I2 (fm.mono sm) λ tk3=>Ia hN2 hv2 hd2 hcd2 (I2.tok tk3) hb1 λ u r=>?_;obtain rfl:u=z0b b:=r;refine mem_set (F:=F) (by omega) (I2.tok tk3) (sm _ _ fm.mem) (H_ sm mk) kin (by rw[hF];exact⟨_,rfl⟩) λ xs' s2 I3 dd' al' pr'=>?_;exact z1V ⟨rfl,H',xs',sm,I3,dd',al',pr'⟩
      refine z27 (thn (Q:=λ fl s'=>fl=.next/\∃ H2 xs,Same H H2/\Inv X π σ H2 s'/\s'.heap.DictOfH (nK X) m xs/\(∀ q∈xs,MemK X.K H2 q.1 q.2.1/\Kin q.1/\RelV (.int (F q.1)) q.2.2)/\(z0I xs (kks ps)).isSome=true) (z49 (z3H (z3G (Ia hN2 hv2 hd2 hcd2 I hb1 λ u r=>M8 hN hv hd hcd (hb _) I fm λ tk=>?_) hm))) λ fl s1 q=>?_)
      · obtain rfl:u=z0b b:=r
        refine P0 (F:=F) (by omega) (I.tok tk) fm.mem mk λ xs tk2 dd al=>z1J ?_;have I2:=(I.tok tk).tok tk2;cases pr:(z0I xs (kks ps)).isSome with
        | true=>
          show z02 _ _ (z1K [] X.env) _ _ _;exact z1V ⟨rfl,H,xs,Same.refl H,I2,dd,al,pr⟩
        | false=>
          show z02 _ _ (z2G _ _ _) _ _ _;refine z3H (z69 (thn (@ht A π _ σ H (λ b H1=>Same H H1/\b=false) I2 ⟨ρ,_,w.ok,et,λ H1 s1=>⟨s1,rfl⟩⟩) λ b s1 ⟨H1,I1,sm,eb⟩=>?_));subst eb;refine z68 ?_;show z02 _ _ (z1K [_] X.env) _ _ _;exact put H1 s1 sm I1
      · obtain⟨rfl,H2,xs,sm,I2,dd,al,pr⟩:=q
        exact rest H2 s1 xs sm I2 dd al pr
    · cases e
  · cases e
end
def gxL (K:z08) (l:List (Str×Addr)):Gx:={ K:=K,cl:=λ c=>l.lookup c }
section
variable {K:z08}{a b:Str}{C1 C2:Addr}{l:List (Str×Addr)}
theorem jt:(gxL K ((a,C)::l)).cl a=some C:=by
 show z0m a ((a,C)::l)=some C;rw[z0r,beq_self_eq_true]
theorem vy (e:(b==a)=false) (h:(gxL K l).cl b=some C):(gxL K ((a,C1)::l)).cl b=some C:=by
 show z0m b ((a,C1)::l)=some C;rw[z0r,e];exact h
def FlOk (K:z08) (l:List (Str×Addr)) (x:Str):Prop:=∀ c C,l.lookup c=some C->Cls K C/\Bf K C x
theorem fl_n:FlOk K [] x:=λ _ _ h=>by cases h
theorem fl_c (cl:Cls K C) (n:z18 K (.ref C) x=some none) (h:FlOk K l x):FlOk K ((a,C)::l) x:=λ c C' e=>by
 rw[z0r] at e;split at e
 ·cases e;exact⟨cl,n⟩
 ·exact h _ _ e
theorem M9 (X:K.In h) (f:FlOk K l x):∀ c C',(gxL K l).cl c=some C'->Cls K C'/\Bf K C' x:=λ c C' h=>f c C' h
def kxL {g:Addr}{n:Nat}{its:Array z00}{xs:List Str}(X:K.In h) (N:h.Ns z0T mg) (a:z41 K z0T x=some (some (.ref g))) (lk:K.lookup g=some ⟨.type "tuple",od,.seq its n,osl⟩) (hz:its.size<=sizeLine) (r:Vals (xs.map V.str) its.toList):Kx (gxL K l) mg x (.tup (xs.map .str)):=⟨g,z30 X N a,T4 lk hz r⟩
end
end PV
namespace PV
open PySem PySem.Spec L2 EX
open PyProof.Rows hiding St
section
open PySem.MeetsSeq PySem.SeqAt
end
section
end
section
variable {a:Expr}{fa:FE}{px rp p:Pos}{h:FZ}
end
def bd2:D->Option (List D)
 | .tup [a,b]=>some [a,b]
 | _=>none
def UW (src:FI) (ga:FT) (fe:FE):FE:=Ja bd2 src ga fe
section
variable {t u:Str}{elt iter:Expr}{ifs:List Expr}{pt:Pos}{k1:Nat}
theorem bnd2 {N:Nat}:Bnd G N 2 bd2 (gTup G.K 2 (V4 (Hq N) (V4 (Hq (N+1)) gNil))):=λ A σ os H x d es Q hl ho e r k=>by
 unfold bd2 at e;split at e
 ·rename_i a b;cases e;cases r with
  | tup h l q=>
   rename_i c xs;obtain⟨x,ys,rfl,r1,r2⟩:=(show RepL G (hid A H) xs [a,b] from⟨l,q⟩).uncons;obtain⟨y,zs,rfl,r3,r4⟩:=r2.uncons;have e0:=r4.nil_inv;subst e0
   match os,ho with
   | [o1,o2],_=>
   refine⟨c,[x,y],rfl,Dl Ar h,rfl,x,[y],rfl,?_⟩;refine⟨y,[],rfl,rfl,?_⟩;have z:((σ++[o1,o2]).set N (some x)).set (N+1) (some y)=σ++[some x,some y]:=by
    rw[<-hl,z6Q _ _ (z06 _),z3k];show (σ++[some x,o2]).set (σ.length+1) (some y)=_;rw[z6Q _ _ (z1O _),show σ.length+1-σ.length=1 by omega];rfl
   show Q (((σ++[o1,o2]).set N (some x)).set (N+1) (some y)) H;rw[z];exact k [x,y] rfl (.cons r1 (.cons r3 .nil))
 ·cases e
theorem gTwo {N':List Str}(hG:G.K=X.K) (eN:DK [t,u] X.N++[t,u]=N') (c:CompOkL X scope [t,u]) (hc:X.calm=true) (s2:z03) (H2:Hp) (fp:List Addr):PG (Cg X scope N' s2 H2 fp) (.Tuple [.Name t p1,.Name u p2] k1 pt) (gTup G.K 2 (V4 (Hq X.N.length) (V4 (Hq (X.N.length+1)) gNil))):=by
 subst eN;rw[hG];have at0:(DK [t,u] X.N++[t,u])[X.N.length]?=some t:=by unfold DK;rw[z1Y (by rw[z07];exact z06 _),z07,z3k];rfl
 have at1:(DK [t,u] X.N++[t,u])[X.N.length+1]?=some u:=by unfold DK;rw[z1Y (by rw[z07];exact z1O _),z07,Nat.add_sub_cancel_left];rfl
 have lt:=z5g (env:=X.env) (c.tl t (by simp));have lu:=z5g (env:=X.env) (c.tl u (by simp));exact dN hc (RN (Qx c.nd at0 (.inl lt) (.inr lt)) (RN (Qx c.nd at1 (.inl lu) (.inr lu)) Yw rfl) rfl) rfl rfl
theorem ju (N':List Str) (eN:DK [t,u] X.N++[t,u]=N') (c:CompOkL X scope [t,u]) (hc:X.calm=true) (hG:G.K=X.K) (hi:PFI X G true (.Tuple [.Name t p1,.Name u p2] k1 pt) iter src)
  (hI:∀ s2 H2 fp,PFTs (Cg X scope N' s2 H2 fp) G ifs ga) (hE:∀ s2 H2 fp,PF (Cg X scope N' s2 H2 fp) G elt fe) (hs:∀ x,z3c iter X.env x=pure x:=by intro _;rfl):PN X G (.ListComp elt [⟨.Tuple [.Name t p1,.Name u p2] k1 pt,iter,ifs,0⟩] scope pos) (UW src ga fe):=
 λ A=>WT N' eN c hc hi (gTwo hG eN c hc) bnd2 hI hE hs A
theorem cO2 {t u:Str}(hN:X.N=N) (hs:X.env.scope=sc) (h:Ny N sc scope [t,u]=true:=by decide +kernel):CompOkL X scope [t,u]:=Rn hN hs h
end
end PV
namespace K61
open PySem L2 PV
abbrev cs (x:Str):List Nat:=x.cps.toList
def LET:Str:="abcdefghijklmnopqrstuvwxyz"
def IsL (x:Str):Prop:=∀ c∈cs x,c∈cs LET
def KEPT:List Str:=["not","and","or","some","all"]
structure Wd (x:Str):Prop where
 lo:1<=x.length
 hi:x.length<=8
 isL:IsL x
 kept:x∉KEPT
structure Wl where
 n:Nat
 ms:List (Str×List Nat)
 ts:List (Str×List (Nat×Nat))
abbrev iN (t:Nat):D:=.int (t:Int)
abbrev pN (q:Nat×Nat):D:=.tup [.int (q.1:Int),.int (q.2:Int)]
def lM (l:List Nat):D:=.lst (l.map iN)
def lT (l:List (Nat×Nat)):D:=.lst (l.map pN)
def eM (ms:List (Str×List Nat)):List (Key×D):=ms.map λ p=>(.inr p.1,lM p.2)
def eT (ts:List (Str×List (Nat×Nat))):List (Key×D):=ts.map λ p=>(.inr p.1,lT p.2)
def kM (l:List Nat):D:=.dk (l.map λ (t:Nat)=>((.inl (t:Int):Key),.bl true))
def kT (l:List (Nat×Nat)):D:=.dt (l.map λ q=>([(.inl (q.1:Int):Key),.inl (q.2:Int)],.bl true))
def oM (ms:List (Str×List Nat)):List (Key×D):=ms.map λ p=>(.inr p.1,kM p.2)
def oT (ts:List (Str×List (Nat×Nat))):List (Key×D):=ts.map λ p=>(.inr p.1,kT p.2)
def wob (W:Wl):D:=.ob "World" [("size",.int W.n),("marked",.dk (oM W.ms)),("tied",.dk (oT W.ts))]
structure WOk (W:Wl):Prop where
 n5:W.n<=5
 m3:W.ms.length<=3
 t3:W.ts.length<=3
 mw:∀ p∈W.ms,Wd p.1
 tw:∀ p∈W.ts,Wd p.1
 nd:(W.ms.map (·.1)++W.ts.map (·.1)).Nodup
 ml:∀ p∈W.ms,p.2.Nodup/\p.2.length<=100/\∀ t∈p.2,t<W.n
 tl:∀ p∈W.ts,p.2.Nodup/\p.2.length<=100/\∀ q∈p.2,q.1<W.n/\q.2<W.n
def wd (W:Wl):D:=.lst [.int (W.n:Int),.dk (eM W.ms),.dk (eT W.ts)]
def lN (os:List Nat):D:=.lst (os.map iN)
abbrev Pr:=Nat×Nat
def mk (W:Wl) (w:Str) (i:Nat):Bool:=match W.ms.find? (λ p=>p.1=w) with | some p=>decide (i∈p.2) | none=>false
def tk (W:Wl) (w:Str) (i j:Nat):Bool:=match W.ts.find? (λ p=>p.1=w) with | some p=>decide ((i,j)∈p.2) | none=>false
abbrev mw (W:Wl):List Str:=W.ms.map (·.1)
abbrev tw (W:Wl):List Str:=W.ts.map (·.1)
def SX (W V:Wl) (q:Pr):Bool:=(mw W).all λ w=>mk W w q.1==mk V w q.2
def KY (W V:Wl) (p q:Pr):Bool:=(tw W).all λ w=>tk W w p.1 q.1==tk V w p.2 q.2
def goB (W V:Wl) (p q:Pr):Bool:=(decide (p.1=q.1)==decide (p.2=q.2))&&(KY W V p q&&KY W V q p)
def fwB (W V:Wl) (ps:List Pr) (q:Pr):Bool:=(SX W V q&&KY W V q q)&&ps.all λ p=>goB W V p q
def unp (n:Nat) (xs:List Nat):List Nat:=(z0d n).filter λ t=>decide (t∉xs)
def endl (W V:Wl):Nat:=max W.n V.n+1
def bst (l:List Nat):Nat:=l.foldr max 0
def stp (W V:Wl) (R:List Pr->Nat) (ps:List Pr):Nat:=
 let fs:=unp W.n .(42)
 let ss:=unp V.n (ps.map (·.2))
 let rw:=λ q:Pr=>if fwB W V ps q then R (Ah (ps++[q])) else 0
 min (endl W V) (1+((fs.map λ f=>bst (ss.map λ s=>rw (f,s)))++ss.map λ s=>bst (fs.map λ f=>rw (f,s))).foldr min (endl W V))
def rkN (W V:Wl):Nat->List Pr->Nat
 | 0,_=>0
 | n+1,ps=>stp W V (rkN W V n) ps
def afS (W V:Wl) (ps:List Pr):Bool:=ps.all λ p=>(SX W V p&&KY W V p p)&&ps.all (goB W V p)
def rkF (W V:Wl) (ps:List Pr):Nat:=if afS W V ps then rkN W V 6 ps else 0
def unk1:List Key->Pr
 | [.inl i,.inl j]=>(i.toNat,j.toNat)
 | _=>(0,0)
def FW (W V:Wl) (ks:List (List Key)):Int:=(rkF W V (ks.map unk1):Nat)
open Classical in
noncomputable def FF (a b:D):List (List Key)->Int:=if h:∃ x:Wl×Wl,a=wob x.1/\b=wob x.2 then FW (choose h).1 (choose h).2 else λ _=>0
noncomputable def Phi (ρ:Rho):Option (List (List Key)->Int):=match vF 1 ρ,vF 2 ρ with
 | some a,some b=>some (FF a b)
 | _,_=>none
end K61
namespace K61
open PySem PySem.Spec L2 PV EX
open PyProof.Rows hiding St
noncomputable section
def c_KEPT_TEXTS:D:=(.tup ((["not","and","or","some","all"]:List Str).map .str))
def GF:FT:=blF (bF (eqD false) (bF Y_ (bF shrD (vF 3) (bF addD (bF mulD (kF (.int 5)) (vF 5)) (vF 9))) .(13)) .(13))
def K_:FE:=vF 9
def GJ:FS:=putF 4 (bF ixE (vF 1) (vF 5)) (Bb (rngI (vF 0)) (GF) (K_))
def GK:FT:=blF (bF (eqD false) (bF Y_ (bF shrD (vF 3) (bF addD (bF addD (bF addD (kF (.int 15)) (bF mulD (kF (.int 25)) (vF 5))) (bF mulD (kF (.int 5)) (vF 8))) (vF 9))) .(13)) .(13))
def Ie:FE:=tupF (Aa (vF 8) (Aa (vF 9) (nilA)))
def GP:FS:=setF 7 (bF addD (vF 7) (Bb (rngI (vF 0)) (GK) (Ie)))
def GQ:FS:=seqF (setF 7 (lstF (nilA))) (seqF (forS (rngI (vF 0)) (Bv 8) (GP)) (putF 6 (bF ixE (vF 2) (vF 5)) (vF 7)))
def J7:FS:=seqF (setW 4 (kF (.dk []))) (seqF (forS (rngI (uF lenE (vF 1))) (Bv 5) (GJ)) (seqF (setW 6 (kF (.dk []))) (seqF (forS (rngI (uF lenE (vF 2))) (Bv 5) (GQ)) (fzS [4,6] (retF (lstF (Aa (vF 0) (Aa (vF 4) (Aa (vF 6) (nilA))))))))))
def Eo:List D->Option D:=runF 9 4 J7
def Hg:FE:=bF ixE (vF 1) (vF 5)
def Fg:FS:=putF 2 (vF 3) (Bb (seqA (bF ixE (bF ixE (vF 0) .(13)) (vF 3))) (allT) (Hg))
def Hh:FE:=tupF (Aa (bF ixE (vF 1) (bF ixE (vF 5) .(29))) (Aa (bF ixE (vF 1) (bF ixE (vF 5) .(13))) (nilA)))
def Fi:FS:=putF 4 (vF 3) (Bb (seqA (bF ixE (bF ixE (vF 0) (kF (.int 2))) (vF 3))) (allT) (Hh))
def Jc:FS:=seqF (setW 2 (kF (.dk []))) (seqF (forS (seqA (bF ixE (vF 0) .(13))) (Bv 3) (Fg)) (seqF (setW 4 (kF (.dk []))) (seqF (forS (seqA (bF ixE (vF 0) (kF (.int 2)))) (Bv 3) (Fi)) (fzS [2,4] (retF (lstF (Aa (bF ixE (vF 0) .(29)) (Aa (vF 2) (Aa (vF 4) (nilA))))))))))
def G9:List D->Option D:=runF 5 2 Jc
def Bh:FT:=blF (bF (eqD true) (vF 2) (lstF (nilA)))
def Bw:FS:=seqF (setF 4 (bF modD (vF 0) (uF lenD (vF 2)))) (seqF (setF 0 (bF JD (vF 0) (uF lenD (vF 2)))) (seqF (mutF appL 3 (bF ixD (vF 2) (vF 4))) (setF 2 (bF addD (slF (vF 2) (noO) (someO (vF 4))) (slF (vF 2) (someO (bF addD (vF 4) .(13))) (noO))))))
def J8:FS:=seqF (setF 2 (uF Wv (vF 1))) (seqF (setW 3 (lstF (nilA))) (seqF (Gq (Bh) (Bw) 60) (fzS [3] (retF (vF 3)))))
def Hw:List D->Option D:=runF 5 2 J8
def Ig:FT:=blF (bF (eqD true) (vF 2) (vF 1))
def Ih:FE:=vF 2
def J9:FS:=seqF (ifS (blF (bF (inF false) (vF 1) (vF 0))) (retF (Bb (seqA (vF 0)) (Ig) (Ih))) (nxF)) (retF (bF addD (vF 0) (lstF (Aa (vF 1) (nilA)))))
def Di:List D->Option D:=runF 2 2 J9
def DR:FS:=seqF (asgF (vF 0) (tupG 3 (BK 2 (BK 3 (BK 4 (nilG)))))) (seqF (setF 5 (bF modD (vF 1) (bF maxD (vF 2) .(13)))) (seqF (setF 6 (bF modD (bF JD (vF 1) (kF (.int 5))) (bF maxD (vF 2) .(13)))) (seqF (ifS (orT (blF (bF (eqD false) (vF 2) .(29))) (blF (bF (eqD false) (bF addD (uF lenE (vF 3)) (uF lenE (vF 4))) .(29)))) (retF (vF 0)) (nxF)) (seqF (setF 7 (bF modD (bF JD (vF 1) (kF (.int 25))) (bF addD (uF lenE (vF 3)) (uF lenE (vF 4))))) (seqF (setW 8 (uF T5 (vF 3))) (seqF (setW 9 (uF T5 (vF 4))) (seqF (ifS (blF (bF ltD (vF 7) (uF lenE (vF 3)))) (seqF (setF 10 (bF ixE (uF K1 (vF 3)) (vF 7))) (putF 8 (vF 10) (Am (Di) (Aa (bF ixE (vF 3) (vF 10)) (Aa (vF 5) (nilA)))))) (seqF (setF 10 (bF ixE (uF K1 (vF 4)) (bF subD (vF 7) (uF lenE (vF 3))))) (putF 9 (vF 10) (Am (Di) (Aa (bF ixE (vF 4) (vF 10)) (Aa (tupF (Aa (vF 5) (Aa (vF 6) (nilA)))) (nilA))))))) (fzS [8,9] (retF (lstF (Aa (vF 2) (Aa (vF 8) (Aa (vF 9) (nilA))))))))))))))
def CQ:List D->Option D:=runF 11 2 DR
def Ep:FS:=seqF (asgF (vF 0) (tupG 4 (BK 1 (BK 2 (BK 3 (BK 4 (nilG))))))) (seqF (setF 5 (bF modD (bF mulD (vF 2) (kF (.int 27182818284590452353602874713526624977572470936999595749669))) (bF shlD .(13) (kF (.int 90))))) (seqF (ifS (blF (bF (eqD false) (bF modD (vF 1) (kF (.int 3))) (kF (.int 2)))) (setF 5 (bF modD (vF 2) (bF shlD .(13) (kF (.int 90))))) (nxF)) (seqF (setF 6 (bF modD (bF mulD (bF JD (vF 1) (kF (.int 3))) (kF (.int 1000000007))) (kF (.int 2147483647)))) (seqF (setF 7 (bF ixE (lstF (Aa (kF (.int 2)) (Aa (kF (.int 3)) (Aa .(13) (Aa (kF (.int 3)) (Aa (kF (.int 4)) (Aa (kF (.int 2)) (Aa (kF (.int 3)) (Aa .(29) (Aa (kF (.int 4)) (Aa (kF (.int 2)) (Aa (kF (.int 3)) (Aa (kF (.int 5)) (nilA)))))))))))))) (bF modD (vF 6) (kF (.int 12))))) (seqF (setF 8 (slF (lstF (Aa (kF (.str "red")) (Aa (kF (.str "o")) (Aa (kF (.str "redo")) (nilA))))) (noO) (someO (bF modD (bF JD (vF 6) (kF (.int 12))) (kF (.int 3)))))) (seqF (setF 9 (slF (lstF (Aa (kF (.str "near")) (Aa (kF (.str "n")) (Aa (kF (.str "under")) (nilA))))) (noO) (someO (bF modD (bF JD (vF 6) (kF (.int 36))) (kF (.int 3)))))) (seqF (setF 10 (Am (Eo) (Aa (vF 7) (Aa (vF 8) (Aa (vF 9) (Aa (vF 5) (nilA))))))) (seqF (setF 11 (bF modD (vF 3) (kF (.int 5)))) (seqF (ifS (blF (bF (eqD false) (vF 11) .(29))) (retF (lstF (Aa (vF 10) (Aa (Am (Eo) (Aa (bF modD (bF JD (vF 3) (kF (.int 5))) (kF (.int 5))) (Aa (vF 8) (Aa (vF 9) (Aa (bF modD (vF 4) (bF shlD .(13) (kF (.int 90)))) (nilA)))))) (nilA))))) (nxF)) (seqF (ifS (blF (bF (eqD false) (vF 11) .(13))) (retF (lstF (Aa (vF 10) (Aa (Am (Eo) (Aa (bF minD (bF addD (vF 7) .(13)) (kF (.int 4))) (Aa (vF 8) (Aa (vF 9) (Aa (vF 5) (nilA)))))) (nilA))))) (nxF)) (seqF (setF 12 (Am (G9) (Aa (vF 10) (Aa (Am (Hw) (Aa (bF JD (vF 3) (kF (.int 5))) (Aa (vF 7) (nilA)))) (nilA))))) (seqF (ifS (blF (bF (eqD false) (vF 11) (kF (.int 2)))) (retF (lstF (Aa (vF 10) (Aa (vF 12) (nilA))))) (nxF)) (retF (lstF (Aa (vF 10) (Aa (Am (CQ) (Aa (vF 12) (Aa (bF JD (vF 4) (kF (.int 3))) (nilA)))) (nilA)))))))))))))))))
def Cp:List D->Option D:=runF 13 1 Ep
def Ii:FS:=ifS (blF (bF gtD (vF 0) (vF 1))) (badF) (nxF)
def Bj:List D->Option D:=runF 2 2 Ii
def GR:FS:=ifS (orT (blF (bF ltD (vF 1) .(29))) (blF (bF geD (vF 1) (vF 0)))) (badF) (nxF)
def BZ:List D->Option D:=runF 2 2 GR
def Fj:FS:=seqF (Fw (Am (BZ) (Aa (vF 0) (Aa (vF 3) (nilA))))) (putF 2 (vF 3) (kF (.bl true)))
def Jd:FS:=seqF (setW 2 (kF (.dk []))) (seqF (forS (seqA (vF 1)) (Bv 3) (Fj)) (fzS [2] (retF (vF 2))))
def Dr:List D->Option D:=runF 4 2 Jd
def GX:FS:=seqF (Fw (Am (BZ) (Aa (vF 0) (Aa (vF 3) (nilA))))) (seqF (Fw (Am (BZ) (Aa (vF 0) (Aa (vF 4) (nilA))))) (Wb 2 (Aa (vF 3) (Aa (vF 4) (nilA))) (kF (.bl true))))
def J_:FS:=seqF (setW 2 (kF (.dt []))) (seqF (forS (seqA (vF 1)) (tupG 2 (BK 3 (BK 4 (nilG)))) (GX)) (fzS [2] (retF (vF 2))))
def Er:List D->Option D:=runF 5 2 J_
def HR:FE:=bF (inF false) (vF 1) (kF (.str "abcdefghijklmnopqrstuvwxyz"))
def QD:FS:=seqF (ifS (orT (blF (bF (inF false) (vF 0) (kF c_KEPT_TEXTS))) (orT (blF (bF (eqD false) (uF lenE (vF 0)) .(29))) (blF (bF gtD (uF lenE (vF 0)) (kF (.int 8)))))) (retF (kF (.bl false))) (nxF)) (retF (uF allD (Bb (seqA (vF 0)) (allT) (HR))))
def Es:List D->Option D:=runF 1 1 QD
def CT:FEs:=GC (ifE (Rr (notT (trF (Am (Es) (Aa (vF 4) (nilA))))))) (Qh "marked" (vF 4) (Am (Dr) (Aa (vF 1) (Aa (vF 5) (nilA)))))
def CV:FEs:=GC (ifE (orTE (Rr (notT (trF (Am (Es) (Aa (vF 4) (nilA)))))) (inTE "marked" (vF 4)))) (Qh "tied" (vF 4) (Am (Er) (Aa (vF 1) (Aa (vF 6) (nilA)))))
def Gv:FEs:=GC (pureE (Fw (Am (Bj) (Aa (vF 1) (Aa (kF (.int 5)) (nilA)))))) (GC (pureE (Fw (Am (Bj) (Aa (uF lenE (vF 2)) (Aa (kF (.int 3)) (nilA)))))) (GC (pureE (Fw (Am (Bj) (Aa (uF lenE (vF 3)) (Aa (kF (.int 3)) (nilA)))))) (GC (IW "size" (vF 1)) (GC (Qg "marked" (kF (.dk []))) (GC (Qg "tied" (kF (.dk []))) (GC (forE (Pk (vF 2)) (tupG 2 (BK 4 (BK 5 (nilG)))) (CT)) (GC (forE (Pk (vF 3)) (tupG 2 (BK 4 (BK 6 (nilG)))) (CV)) (nilE))))))))
def CK:Addr->List D->Option Ef:=runI 7 4 Gv
def Ft:FS:=retF (uF sdkD (uF (fldD "marked") (vF 0)))
def CW:List D->Option D:=runF 1 1 Ft
def GZ:FS:=retF (uF sdkD (uF (fldD "tied") (vF 0)))
def Cq:List D->Option D:=runF 1 1 GZ
def Hi:FS:=ifS (orT (blF (bF (eqD true) (Dy "World" "mark_words" (CW) (vF 0) nilA) (Dy "World" "mark_words" (CW) (vF 1) nilA))) (blF (bF (eqD true) (Dy "World" "tie_words" (Cq) (vF 0) nilA) (Dy "World" "tie_words" (Cq) (vF 1) nilA)))) (badF) (nxF)
def Fl:List D->Option D:=runF 2 2 Hi
def Bs:FS:=seqF (Fw (Am (BZ) (Aa (uF (fldD "size") (vF 0)) (Aa (vF 3) (nilA))))) (Fw (Am (BZ) (Aa (uF (fldD "size") (vF 1)) (Aa (vF 4) (nilA)))))
def Dj:FS:=seqF (Fw (Am (Fl) (Aa (vF 0) (Aa (vF 1) (nilA))))) (forS (seqA (vF 2)) (tupG 2 (BK 3 (BK 4 (nilG)))) (Bs))
def BR:List D->Option D:=runF 5 3 Dj
def Ga:FS:=ifS (blF (bF (eqD true) (bF (inF false) (bF ixE (vF 2) .(29)) (bF ixE (uF (fldD "marked") (vF 0)) (vF 3))) (bF (inF false) (bF ixE (vF 2) .(13)) (bF ixE (uF (fldD "marked") (vF 1)) (vF 3))))) (retF (kF (.bl false))) (nxF)
def Hj:FS:=seqF (forS (seqA (uF (fldD "marked") (vF 0))) (Bv 3) (Ga)) (retF (kF (.bl true)))
def Fo:List D->Option D:=runF 4 3 Hj
def Gb:FS:=ifS (blF (bF (eqD true) (inTF (Aa (bF ixE (vF 2) .(29)) (Aa (bF ixE (vF 3) .(29)) (nilA))) (bF ixE (uF (fldD "tied") (vF 0)) (vF 4))) (inTF (Aa (bF ixE (vF 2) .(13)) (Aa (bF ixE (vF 3) .(13)) (nilA))) (bF ixE (uF (fldD "tied") (vF 1)) (vF 4))))) (retF (kF (.bl false))) (nxF)
def Hk:FS:=seqF (forS (seqA (uF (fldD "tied") (vF 0))) (Bv 4) (Gb)) (retF (kF (.bl true)))
def Cd:List D->Option D:=runF 5 4 Hk
def Je:FS:=seqF (ifS (blF (bF (eqD true) (bF (eqD false) (bF ixE (vF 2) .(29)) (bF ixE (vF 3) .(29))) (bF (eqD false) (bF ixE (vF 2) .(13)) (bF ixE (vF 3) .(13))))) (retF (kF (.bl false))) (nxF)) (retF (andF (Am (Cd) (Aa (vF 0) (Aa (vF 1) (Aa (vF 2) (Aa (vF 3) (nilA)))))) (Am (Cd) (Aa (vF 0) (Aa (vF 1) (Aa (vF 3) (Aa (vF 2) (nilA))))))))
def G_:List D->Option D:=runF 4 4 Je
def FN:FE:=Am (G_) (Aa (vF 0) (Aa (vF 1) (Aa (vF 4) (Aa (vF 3) (nilA)))))
def JK:FS:=seqF (ifS (orT (notT (trF (Am (Fo) (Aa (vF 0) (Aa (vF 1) (Aa (vF 3) (nilA))))))) (notT (trF (Am (Cd) (Aa (vF 0) (Aa (vF 1) (Aa (vF 3) (Aa (vF 3) (nilA))))))))) (retF (kF (.bl false))) (nxF)) (retF (uF allD (Bb (seqA (vF 2)) (allT) (FN))))
def Eb:List D->Option D:=runF 4 4 JK
def HS:FE:=Am (Eb) (Aa (vF 0) (Aa (vF 1) (Aa (slF (vF 2) (noO) (someO (vF 3))) (Aa (vF 4) (nilA)))))
def MN:FS:=retF (uF allD (UW (enIB (vF 2)) (allT) (HS)))
def Et:List D->Option D:=runF 3 3 MN
def Yb:FS:=seqF (Fw (Am (BR) (Aa (vF 0) (Aa (vF 1) (Aa (vF 2) (nilA)))))) (retF (Am (Et) (Aa (vF 0) (Aa (vF 1) (Aa (vF 2) (nilA))))))
def Ve:List D->Option D:=runF 3 3 Yb
def Bk:FS:=ifS (andT (blF (bF ltD (uF lenE (vU 3)) (kF (.int 4)))) (andT (blF (bF gtD (uF (fldD "size") (vF 0)) .(29))) (blF (bF gtD (uF (fldD "size") (vF 1)) .(29))))) (seqF (setF 5 (tupF (Aa (bF modD (bF JD (vF 4) (kF (.int 4))) (uF (fldD "size") (vF 0))) (Aa (bF modD (bF JD (vF 4) (kF (.int 20))) (uF (fldD "size") (vF 1))) (nilA))))) (ifS (orT (blF (bF (eqD false) (bF modD (vF 4) (kF (.int 4))) .(29))) (trF (Am (Ve) (Aa (vF 0) (Aa (vF 1) (Aa (bF addD (vU 3) (lstF (Aa (vF 5) (nilA)))) (nilA))))))) (mutF appL 3 (vF 5)) (nxF))) (nxF)
def KC:FS:=seqF (setW 3 (lstF (nilA))) (seqF (forS (seqA (vF 2)) (Bv 4) (Bk)) (fzS [3] (retF (vF 3))))
def Hx:List D->Option D:=runF 6 3 KC
def KD:FT:=blF (bF (inF true) (vF 2) (vF 1))
def KH:FE:=vF 2
def M_:FS:=retF (Bb (rngI (vF 0)) (KD) (KH))
def Ij:List D->Option D:=runF 2 2 M_
def Gd (rec_Ranks_rank_of_fitting:List D->Option D):FS:=seqF (ifS (notT (trF (Am (Eb) (Aa (uF (fldD "one") (vF 0)) (Aa (uF (fldD "other") (vF 0)) (Aa (vF 1) (Aa (vF 2) (nilA)))))))) (retF .(29)) (nxF)) (retF (Dy "Ranks" "rank_of_fitting" (rec_Ranks_rank_of_fitting) (vF 0) (Aa (uF tslD (bF catU (vF 1) (tupF (Aa (vF 2) (nilA))))) (nilA))))
def Bl (rec_Ranks_rank_of_fitting:List D->Option D):List D->Option D:=runF 3 3 (Gd rec_Ranks_rank_of_fitting)
def Ey (rec_Ranks_rank_of_fitting:List D->Option D):FE:=Dy "Ranks" "rank_with" (Bl rec_Ranks_rank_of_fitting) (vF 0) (Aa (vF 1) (Aa (vF 3) (nilA)))
def Ge (rec_Ranks_rank_of_fitting:List D->Option D):FS:=retF (bF Tv (Bb (seqA (vF 2)) (allT) ((Ey rec_Ranks_rank_of_fitting))) .(29))
def Av (rec_Ranks_rank_of_fitting:List D->Option D):List D->Option D:=runF 3 3 (Ge rec_Ranks_rank_of_fitting)
def Ec (rec_Ranks_rank_of_fitting:List D->Option D):FE:=bF ixE (vF 7) .(29)
def Ed (rec_Ranks_rank_of_fitting:List D->Option D):FE:=bF ixE (vF 7) .(13)
def Eg (rec_Ranks_rank_of_fitting:List D->Option D):FE:=tupF (Aa (vF 5) (Aa (vF 7) (nilA)))
def Cr (rec_Ranks_rank_of_fitting:List D->Option D):FS:=mutF appL 4 (Dy "Ranks" "best_rank" (Av rec_Ranks_rank_of_fitting) (vF 0) (Aa (vF 1) (Aa (Bb (seqA (vF 3)) (allT) ((Eg rec_Ranks_rank_of_fitting))) (nilA))))
def Eh (rec_Ranks_rank_of_fitting:List D->Option D):FE:=tupF (Aa (vF 7) (Aa (vF 6) (nilA)))
def Cu (rec_Ranks_rank_of_fitting:List D->Option D):FS:=mutF appL 4 (Dy "Ranks" "best_rank" (Av rec_Ranks_rank_of_fitting) (vF 0) (Aa (vF 1) (Aa (Bb (seqA (vF 2)) (allT) ((Eh rec_Ranks_rank_of_fitting))) (nilA))))
def Fv (rec_Ranks_rank_of_fitting:List D->Option D):FS:=seqF (setF 2 (Am (Ij) (Aa (uF (fldD "size") (uF (fldD "one") (vF 0))) (Aa (Bb (seqA (vF 1)) (allT) ((Ec rec_Ranks_rank_of_fitting))) (nilA))))) (seqF (setF 3 (Am (Ij) (Aa (uF (fldD "size") (uF (fldD "other") (vF 0))) (Aa (Bb (seqA (vF 1)) (allT) ((Ed rec_Ranks_rank_of_fitting))) (nilA))))) (seqF (setW 4 (lstF (nilA))) (seqF (forS (seqA (vF 2)) (Bv 5) ((Cr rec_Ranks_rank_of_fitting))) (seqF (forS (seqA (vF 3)) (Bv 6) ((Cu rec_Ranks_rank_of_fitting))) (retF (bF minD (uF (fldD "endless") (vF 0)) (bF addD .(13) (bF W2 (vU 4) (uF (fldD "endless") (vF 0))))))))))
def CZ (rec_Ranks_rank_of_fitting:List D->Option D):List D->Option D:=runF 7 2 (Fv rec_Ranks_rank_of_fitting)
def Bd (rec_Ranks_rank_of_fitting:List D->Option D):FS:=memR 0 "reckoned" 1 (Dy "Ranks" "least_rank" (CZ rec_Ranks_rank_of_fitting) (vF 0) (Aa (vF 1) (nilA)))
def Ag:Nat->List D->Option D
 | 0=>λ _=>none
 | n+1=>runF 2 2 (Bd (Ag n))
def Fp:FS:=seqF (setF 2 (uF tssD (vF 1))) (memB 0 "reckoned" 2 (trF (Am (Et) (Aa (uF (fldD "one") (vF 0)) (Aa (uF (fldD "other") (vF 0)) (Aa (vF 2) (nilA)))))) "Ranks" "rank_of_fitting" (Dy "Ranks" "rank_of_fitting" (Ag 8) (vF 0) (Aa (vF 2) (nilA))))
def BJ:List D->Option D:=runF 3 2 Fp
def Gf:FS:=seqF (setF 2 (Dy "Ranks" "rank_of" (BJ) (vF 0) (Aa (vF 1) (nilA)))) (retF (ifF (blF (bF (eqD false) (vF 2) (uF (fldD "endless") (vF 0)))) (kF .non) (vF 2)))
def Cv:List D->Option D:=runF 3 2 Gf
def Gw:FEs:=GC (IW "one" (vF 1)) (GC (IW "other" (vF 2)) (GC (IW "reckoned" (memE Phi)) (GC (IW "endless" (bF addD (bF maxD (uF (fldD "size") (vF 1)) (uF (fldD "size") (vF 2))) .(13))) (nilE))))
def CN:Addr->List D->Option Ef:=runI 3 3 Gw
def Yc:FS:=seqF (Fw (Am (BR) (Aa (vF 0) (Aa (vF 1) (Aa (vF 2) (nilA)))))) (retF (Dy "Ranks" "told_rank" (Cv) (mkI "Ranks" (CN) (Aa (vF 0) (Aa (vF 1) (nilA)))) (Aa (vF 2) (nilA))))
def Sd:List D->Option D:=runF 3 3 Yc
def Ik:FS:=retF (ifF (blF (bF (eqD false) (vF 1) .(29))) (uF (fldD "size") (uF (fldD "one") (vF 0))) (uF (fldD "size") (uF (fldD "other") (vF 0))))
def DW:List D->Option D:=runF 2 2 Ik
def QF:FS:=retF (ifF (blF (bF (eqD false) (vF 0) .(29))) (tupF (Aa (vF 1) (Aa (vF 2) (nilA)))) (tupF (Aa (vF 2) (Aa (vF 1) (nilA)))))
def MP:List D->Option D:=runF 3 3 QF
def Jf:FE:=Am (MP) (Aa (vF 1) (Aa (vF 2) (Aa (vF 3) (nilA))))
def LC:FS:=retF (Bb (rngI (Am (DW) (Aa (vF 0) (Aa (bF subD .(13) (vF 1)) (nilA))))) (allT) (Jf))
def HW:List D->Option D:=runF 3 3 LC
def Gy:FE:=Dy "Ranks" "rank_of" (BJ) (vF 0) (Aa (bF addD (vF 1) (lstF (Aa (vF 4) (nilA)))) (nilA))
def Il:FS:=retF (Bb (seqA (Am (HW) (Aa (vF 0) (Aa (vF 2) (Aa (vF 3) (nilA)))))) (allT) (Gy))
def Gg:List D->Option D:=runF 4 4 Il
def Aw:FS:=ifS (blF (bF ltD (bF Tv (Am (Gg) (Aa (vF 0) (Aa (vF 1) (Aa (vF 3) (Aa (vF 4) (nilA)))))) .(29)) (vF 2))) (retF (tupF (Aa (vF 3) (Aa (vF 4) (nilA))))) (nxF)
def Dz:FS:=forS (rngI (Am (DW) (Aa (vF 0) (Aa (vF 3) (nilA))))) (Bv 4) (Aw)
def Hl:FS:=seqF (setF 2 (Dy "Ranks" "rank_of" (BJ) (vF 0) (Aa (vF 1) (nilA)))) (seqF (ifS (orT (blF (bF (eqD false) (vF 2) .(29))) (blF (bF (eqD false) (vF 2) (uF (fldD "endless") (vF 0))))) (badF) (nxF)) (forS (seqA (tupF (Aa .(29) (Aa .(13) (nilA))))) (Bv 3) (Dz)))
def Dp:List D->Option D:=runF 5 2 Hl
def NB:FS:=seqF (Fw (Am (BR) (Aa (vF 0) (Aa (vF 1) (Aa (vF 2) (nilA)))))) (retF (Am (Dp) (Aa (mkI "Ranks" (CN) (Aa (vF 0) (Aa (vF 1) (nilA)))) (Aa (uF K1 (vF 2)) (nilA)))))
def Gz:List D->Option D:=runF 3 3 NB
def Hm:FS:=retF (andF (uF (isiD "int") (vF 0)) (andF (notF (uF (isiD "bool") (vF 0))) (andF (bF leD .(29) (vF 0)) (bF ltD (vF 0) (vF 1)))))
def Ce:List D->Option D:=runF 2 2 Hm
def HB:FS:=seqF (setF 10 (bF ixE (lstF (Aa (tupF (Aa (vF 7) (Aa (vF 9) (nilA)))) (Aa (tupF (Aa (vF 9) (Aa (vF 7) (nilA)))) (nilA)))) (vF 6))) (seqF (setF 11 (Am (Sd) (Aa (vF 0) (Aa (vF 1) (Aa (bF addD (vF 2) (lstF (Aa (vF 10) (nilA)))) (nilA)))))) (ifS (orT (blF (uF (isND false) (vF 11))) (blF (bF geD (vF 11) (vF 3)))) (retF (kF (.bl false))) (nxF)))
def HX:FS:=seqF (setF 3 (Am (Sd) (Aa (vF 0) (Aa (vF 1) (Aa (vF 2) (nilA)))))) (seqF (ifS (orT (blF (uF (isND false) (vF 3))) (blF (bF (eqD false) (vF 3) .(29)))) (retF (kF (.bl true))) (nxF)) (seqF (setF 4 (uF K1 (vF 2))) (seqF (setF 5 (Am (Gz) (Aa (vF 0) (Aa (vF 1) (Aa (vF 4) (nilA)))))) (seqF (ifS (orT (notT (trF (uF (isiD "tuple") (vF 5)))) (orT (blF (bF (eqD true) (uF lenE (vF 5)) (kF (.int 2)))) (orT (notT (trF (Am (Ce) (Aa (bF ixE (vF 5) .(29)) (Aa (kF (.int 2)) (nilA)))))) (blF (bF (eqD true) (vF 4) (vF 2)))))) (retF (kF (.bl false))) (nxF)) (seqF (asgF (vF 5) (tupG 2 (BK 6 (BK 7 (nilG))))) (seqF (setF 8 (lstF (Aa (uF (fldD "size") (vF 0)) (Aa (uF (fldD "size") (vF 1)) (nilA))))) (seqF (ifS (notT (trF (Am (Ce) (Aa (vF 7) (Aa (bF ixE (vF 8) (vF 6)) (nilA)))))) (retF (kF (.bl false))) (nxF)) (seqF (forS (rngI (bF ixE (vF 8) (bF subD .(13) (vF 6)))) (Bv 9) (HB)) (retF (bF (eqD false) (Am (Gz) (Aa (vF 0) (Aa (vF 1) (Aa (vF 4) (nilA))))) (vF 5)))))))))))
def Ei:List D->Option D:=runF 12 3 HX
def JL:FS:=seqF (ifS (blF (bF ltD (vF 1) (uF lenD (vF 0)))) (retF (bF ixD (vF 0) (vF 1))) (nxF)) (retF .(29))
def HY:List D->Option D:=runF 2 2 JL
def RD:FE:=Am (HY) (Aa (vF 0) (Aa (vF 6) (nilA)))
def jw:FS:=seqF (asgF (Am (Cp) (Aa (Bb (rngI (kF (.int 4))) (allT) (RD)) (nilA))) (tupG 2 (BK 1 (BK 2 (nilG))))) (seqF (setF 3 (mkI "World" (CK) (Aa (bF ixE (vF 1) .(29)) (Aa (bF ixE (vF 1) .(13)) (Aa (bF ixE (vF 1) (kF (.int 2))) (nilA)))))) (seqF (setF 4 (mkI "World" (CK) (Aa (bF ixE (vF 2) .(29)) (Aa (bF ixE (vF 2) .(13)) (Aa (bF ixE (vF 2) (kF (.int 2))) (nilA)))))) (seqF (setF 5 (Am (Hx) (Aa (vF 3) (Aa (vF 4) (Aa (slF (vF 0) (someO (kF (.int 5))) (someO (kF (.int 12)))) (nilA)))))) (retF (andF (Am (Ei) (Aa (vF 3) (Aa (vF 4) (Aa (vF 5) (nilA))))) (Am (Ei) (Aa (vF 3) (Aa (vF 4) (Aa (slF (vF 5) (noO) (someO (uF negD .(13)))) (nilA))))))))))
def W6:List D->Option D:=runF 6 1 jw
end
def top (i:Nat):Stmt:=PySem.Challenge.pw_twinrounds_k61_pointing.main.body.getD i (.Pass ⟨0,0,0,0⟩)
abbrev Hy:Stmt:=top 42
abbrev HD:Stmt:=top 44
abbrev Ol:Stmt:=top 43
abbrev KJ:Stmt:=top 45
abbrev LK:Stmt:=top 46
abbrev Om:Stmt:=top 47
abbrev LQ:Stmt:=top 15
abbrev JM:Stmt:=top 16
abbrev Mm:Stmt:=top 17
abbrev Oo:Stmt:=top 18
abbrev QG:Stmt:=top 14
abbrev Jp:Stmt:=inClass (top 19) 0
abbrev Im:Stmt:=inClass (top 19) 3
abbrev JN:Stmt:=inClass (top 19) 4
abbrev KZ:Stmt:=top 21
abbrev Gh:Stmt:=top 22
abbrev Ka:Stmt:=top 23
abbrev Kc:Stmt:=top 24
abbrev Mp:Stmt:=top 25
abbrev LR:Stmt:=top 26
abbrev QH:Stmt:=top 27
abbrev jz:Stmt:=top 28
abbrev Oq:Stmt:=top 48
abbrev NK:Stmt:=top 30
abbrev JP:Stmt:=inClass (top 31) 3
abbrev Gi:Stmt:=inClass (top 31) 4
abbrev Bq:Stmt:=inClass (top 31) 5
abbrev Fx:Stmt:=inClass (top 31) 2
abbrev Kd:Stmt:=inClass (top 31) 1
abbrev JQ:Stmt:=inClass (top 31) 6
abbrev Jq:Stmt:=inClass (top 31) 0
abbrev j5:Stmt:=top 32
abbrev La:Stmt:=top 34
abbrev Ua:Stmt:=top 35
abbrev Lb:Stmt:=top 36
abbrev Io:Stmt:=top 37
abbrev Ke:Stmt:=top 38
abbrev Sg:Stmt:=top 39
abbrev Kf:Stmt:=top 49
abbrev Qk:Stmt:=top 50
abbrev Ql:Stmt:=top 41
abbrev j6:Stmt:=top 51
set_option genInjectivity false in
structure Tx (G:Gx) (mg:Str->Option z00) where
 C_World:Addr
 gc_World:G.cl "World"=some C_World
 cl_World:Cls G.K C_World
 mC_World:mg "World"=some (.ref C_World)
 C_Ranks:Addr
 gc_Ranks:G.cl "Ranks"=some C_Ranks
 cl_Ranks:Cls G.K C_Ranks
 mC_Ranks:mg "Ranks"=some (.ref C_Ranks)
 x__law_world:Dx G.K mg "_law_world" Hy ["_law_size","_law_marks","_law_ties","_law_bits"]
 x__law_turned:Dx G.K mg "_law_turned" HD ["_law_world_here","_law_order_here"]
 x__law_order:Dx G.K mg "_law_order" Ol ["_law_cell_here","_law_size"]
 x__law_other:Dx G.K mg "_law_other" KJ ["_law_row","_law_item"]
 x__law_changed:Dx G.K mg "_law_changed" LK ["_law_world_here","_law_cell_here"]
 x__law_twins:Dx G.K mg "_law_twins" Om ["_law_cells"]
 x_refuse_above:Dx G.K mg "refuse_above" LQ ["number","most"]
 x_refuse_no_thing:Dx G.K mg "refuse_no_thing" JM ["size","thing"]
 x_kept_things:Dx G.K mg "kept_things" Mm ["size","things"]
 x_kept_pairs:Dx G.K mg "kept_pairs" Oo ["size","pairs"]
 x_is_word:Dx G.K mg "is_word" QG ["text"]
 x_World___init__:Ix G.K C_World "World.__init__" Jp ["self","size","marks","ties"]
 x_World_mark_words:Mx G.K C_World "mark_words" "World.mark_words" Im ["self"]
 x_World_tie_words:Mx G.K C_World "tie_words" "World.tie_words" JN ["self"]
 x_refuse_unlike:Dx G.K mg "refuse_unlike" KZ ["one","other"]
 x_refuse_strange_pairs:Dx G.K mg "refuse_strange_pairs" Gh ["one","other","pairs"]
 x_bear_the_same:Dx G.K mg "bear_the_same" Ka ["one","other","pair"]
 x_lead_the_same:Dx G.K mg "lead_the_same" Kc ["one","other","pair","further"]
 x_go_together:Dx G.K mg "go_together" Mp ["one","other","pair","further"]
 x_fits_with:Dx G.K mg "fits_with" LR ["one","other","pairs","further"]
 x_all_fit:Dx G.K mg "all_fit" QH ["one","other","pairs"]
 x_fits:Dx G.K mg "fits" jz ["one","other","pairs"]
 x__law_pairs:Dx G.K mg "_law_pairs" Oq ["_law_here","_law_there","_law_cells"]
 x_unpaired:Dx G.K mg "unpaired" NK ["size","paired"]
 x_Ranks_rank_with:Mx G.K C_Ranks "rank_with" "Ranks.rank_with" JP ["self","pairs","further"]
 x_Ranks_best_rank:Mx G.K C_Ranks "best_rank" "Ranks.best_rank" Gi ["self","pairs","choices"]
 x_Ranks_least_rank:Mx G.K C_Ranks "least_rank" "Ranks.least_rank" Bq ["self","pairs"]
 x_Ranks_rank_of_fitting:Mx G.K C_Ranks "rank_of_fitting" "Ranks.rank_of_fitting" Fx ["self","pairs"]
 x_Ranks_rank_of:Mx G.K C_Ranks "rank_of" "Ranks.rank_of" Kd ["self","pairs"]
 x_Ranks_told_rank:Mx G.K C_Ranks "told_rank" "Ranks.told_rank" JQ ["self","pairs"]
 x_Ranks___init__:Ix G.K C_Ranks "Ranks.__init__" Jq ["self","one","other"]
 x_rank:Dx G.K mg "rank" j5 ["one","other","pairs"]
 x_size_of_side:Dx G.K mg "size_of_side" La ["ranks","side"]
 x_pair_of:Dx G.K mg "pair_of" Ua ["side","thing","replied"]
 x_new_pairs:Dx G.K mg "new_pairs" Lb ["ranks","side","thing"]
 x_ranks_behind:Dx G.K mg "ranks_behind" Io ["ranks","pairs","side","thing"]
 x_good_pointing:Dx G.K mg "good_pointing" Ke ["ranks","pairs"]
 x_pointing:Dx G.K mg "pointing" Sg ["one","other","pairs"]
 x__law_is_thing:Dx G.K mg "_law_is_thing" Kf ["_law_found","_law_size"]
 x__law_good:Dx G.K mg "_law_good" Qk ["_law_here","_law_there","_law_row"]
 x__law_cell:Dx G.K mg "_law_cell" Ql ["_law_script","_law_k"]
 x_law:Dx G.K mg "law" j6 ["_law_script"]
 z_all:mg "all"=none
 z_bool:mg "bool"=none
 z_dict:mg "dict"=none
 z_enumerate:mg "enumerate"=none
 z_int:mg "int"=none
 z_isinstance:mg "isinstance"=none
 z_len:mg "len"=none
 z_list:mg "list"=none
 z_max:mg "max"=none
 z_min:mg "min"=none
 z_range:mg "range"=none
 z_set:mg "set"=none
 z_sorted:mg "sorted"=none
 z_tuple:mg "tuple"=none
 s_MOST_LETTERS:Sx mg "MOST_LETTERS" (.int 8)
 s_LETTERS:Sx mg "LETTERS" (.str "abcdefghijklmnopqrstuvwxyz")
 s_MOST_THINGS:Sx mg "MOST_THINGS" (.int 5)
 s_MOST_WORDS:Sx mg "MOST_WORDS" (.int 3)
 fl_size:∀ c C,G.cl c=some C->Cls G.K C/\Bf G.K C "size"
 fl_marked:∀ c C,G.cl c=some C->Cls G.K C/\Bf G.K C "marked"
 fl_tied:∀ c C,G.cl c=some C->Cls G.K C/\Bf G.K C "tied"
 fl_other:∀ c C,G.cl c=some C->Cls G.K C/\Bf G.K C "other"
 fl_one:∀ c C,G.cl c=some C->Cls G.K C/\Bf G.K C "one"
 fl_endless:∀ c C,G.cl c=some C->Cls G.K C/\Bf G.K C "endless"
 fl_reckoned:∀ c C,G.cl c=some C->Cls G.K C/\Bf G.K C "reckoned"
 c_KEPT_TEXTS:Kx G mg "KEPT_TEXTS" K61.c_KEPT_TEXTS
section
variable {base:Heap}
abbrev Dk:List Str:=["_law_size","_law_marks","_law_ties","_law_bits","_law_some","_law_k","_law_others","_law_found","_law_thing"]
theorem CG:FnScope Dk ["_law_size","_law_marks","_law_ties","_law_bits"] (Ab Hy):=scO
theorem Jg (T:Tx G mg):DOk P w base T.x__law_world 1 (spD G Eo):=
 fnX (k:=0) (N:=Dk) (b:=J7) T.x__law_world CG λ _ _ _ _ _ _ hr=>Ac (sW CG.nd 4 (Ro)) (Ac (Cz z13 rfl (G7 rfl T.z_range (pU (BW ((Bc rfl).or Bg) Ck rfl T.z_len Ea (vp 1)))) (Ci (gN CG.nd 5)) (Ae (J1 (Hr hr) (pv 4) (iX hr (vp 1) (vp 5)) (C_ ["_law_size","_law_marks","_law_ties","_law_bits","_law_some","_law_k","_law_others","_law_found","","_law_thing"] (by show Ez "_law_thing" Dk++(["_law_thing"]:List Str)=_;decide +kernel) (cO (N:=Dk) (sc:=Ab Hy) rfl rfl) rfl (G7 rfl T.z_range (vp 0)) (λ _ _ _=>Nv (tEq hr (pU (Gr dY WL (pU (Gr dX ZD (vp 3) (pU (bAdd (pU (bMul (iP) (vp 5))) (vp 9))))) (iP))) (iP))) (λ _ _ _=>vr 9))))) (Ac (sW CG.nd 6 (Ro)) (Ac (Cz z13 rfl (G7 rfl T.z_range (pU (BW ((Bc rfl).or Bg) Ck rfl T.z_len Ea (vp 2)))) (Ci (gN CG.nd 5)) (Ac (sF CG.nd 7 (Du (Ad))) (Ac (Cz z13 rfl (G7 rfl T.z_range (vp 0)) (Ci (gN CG.nd 8)) (Ae (sF CG.nd 7 (bAdd (vp 7) (pU (C_ (nT Dk "_law_to") (by show Ez "_law_to" Dk++(["_law_to"]:List Str)=_;decide +kernel) (cO (N:=Dk) (sc:=Ab Hy) rfl rfl) rfl (G7 rfl T.z_range (vp 0)) (λ _ _ _=>Nv (tEq hr (pU (Gr dY WL (pU (Gr dX ZD (vp 3) (pU (bAdd (pU (bAdd (pU (bAdd (iP) (pU (bMul (iP) (vp 5))))) (pU (bMul (iP) (vp 8))))) (vp 9))))) (iP))) (iP))) (λ _ _ _=>Gu (pav 8 (pav 9 (Ad)))))))))) (Ae (J1 (Hr hr) (pv 6) (iX hr (vp 2) (vp 5)) (vr 7)))))) (Ae (Mz [4,6] (Ai (Du (pav 0 (pav 4 (pav 6 (Ad)))))))))))
abbrev CJ:List Str:=["_law_world_here","_law_order_here","_law_some","_law_word","_law_others"]
theorem Ej:FnScope CJ ["_law_world_here","_law_order_here"] (Ab HD):=scO
theorem Sh (T:Tx G mg):DOk P w base T.x__law_turned 1 (spD G G9):=
 fnX (k:=0) (N:=CJ) (b:=Jc) T.x__law_turned Ej λ _ _ _ _ _ _ hr=>Ac (sW Ej.nd 2 (Ro)) (Ac (Cz z13 rfl (BX rfl (iX hr (vp 0) (iP))) (Ci (gN Ej.nd 3)) (Ae (J1 (Hr hr) (pv 2) (vr 3) (C_ (nT CJ "_law_thing") (by show Ez "_law_thing" CJ++(["_law_thing"]:List Str)=_;decide +kernel) (cO (N:=CJ) (sc:=Ab HD) rfl rfl) rfl (PFI.top (BX rfl (iX hr (pU (iX hr (vp 0) (iP))) (vp 3)))) (λ _ _ _=>DN) (λ _ _ _=>iX hr (vp 1) (vp 5)))))) (Ac (sW Ej.nd 4 (Ro)) (Ac (Cz z13 rfl (BX rfl (iX hr (vp 0) (iP))) (Ci (gN Ej.nd 3)) (Ae (J1 (Hr hr) (pv 4) (vr 3) (C_ (nT CJ "_law_both") (by show Ez "_law_both" CJ++(["_law_both"]:List Str)=_;decide +kernel) (cO (N:=CJ) (sc:=Ab HD) rfl rfl) rfl (PFI.top (BX rfl (iX hr (pU (iX hr (vp 0) (iP))) (vp 3)))) (λ _ _ _=>DN) (λ _ _ _=>Gu (Af (iX hr (vp 1) (pU (iX hr (vp 5) (iP)))) (Af (iX hr (vp 1) (pU (iX hr (vp 5) (iP)))) (Ad) An) An)))))) (Ae (Mz [2,4] (Ai (Du (Af (iX hr (vp 0) (iP)) (pav 2 (pav 4 (Ad))) An))))))))
abbrev Ot:List Str:=["_law_cell_here","_law_size","_law_left","_law_found","_law_at"]
theorem Ds:FnScope Ot ["_law_cell_here","_law_size"] (Ab Ol):=scO
theorem Td (T:Tx G mg):DOk P w base T.x__law_order 1 (spD G Hw):=
 fnX (k:=0) (N:=Ot) (b:=J8) T.x__law_order Ds λ _ _ _ _ _ _ hr=>Ac (sF Ds.nd 2 (pP rfl T.z_list rfl T.z_range (vp 1))) (Ac (sW Ds.nd 3 (X6 (Ad))) (Ac (bY 60 z13 (tNe hr (vp 2) (pU (Du (Ad)))) (Ac (sF Ds.nd 4 (bMod (vp 0) (pU (BW (Bc rfl) Q3 rfl T.z_len Ea (vp 2))))) (Ac (sF Ds.nd 0 (bDiv (vp 0) (pU (BW (Bc rfl) Q3 rfl T.z_len Ea (vp 2))))) (Ac (Q4 (pv 3) (iD (vp 2) (vp 4))) (Ae (sF Ds.nd 2 (bAdd (pU (IV rfl (vp 2) (Jk) (HJ (vp 4)))) (pU (IV rfl (vp 2) (HJ (pU (bAdd (vp 4) (iP)))) (Jk)))))))))) (Ae (Mz [3] (Ai (vr 3))))))
abbrev Gj:List Str:=["_law_row","_law_item"]
theorem Te:FnScope Gj ["_law_row","_law_item"] (Ab KJ):=scO
theorem Mq (T:Tx G mg):DOk P w base T.x__law_other 1 (spD G Di):=
 fnX (k:=0) (N:=Gj) (b:=J9) T.x__law_other Te λ _ _ _ _ _ _ hr=>Ac (By (tIn hr (vp 1) (vp 0)) (Ae (Ai (C_ (nT Gj "_law_one") (by show Ez "_law_one" Gj++(["_law_one"]:List Str)=_;decide +kernel) (cO (N:=Gj) (sc:=Ab KJ) rfl rfl) rfl (PFI.top (BX rfl (vr 0))) (λ _ _ _=>Nv (tNe hr (vp 2) (vp 1))) (λ _ _ _=>vr 2)))) (Be)) (Ae (Ai (bAdd (vp 0) (pU (Du (pav 1 (Ad)))))))
abbrev Ld:List Str:=["_law_world_here","_law_cell_here","_law_size","_law_some","_law_others","_law_here","_law_there","_law_at","_law_marked","_law_tied","_law_word"]
theorem Az:FnScope Ld ["_law_world_here","_law_cell_here"] (Ab LK):=scO
theorem Qs (T:Tx G mg):DOk P w base T.x__law_changed 2 (spD G CQ):=
 fnX (k:=1) (N:=Ld) (b:=DR) T.x__law_changed Az λ _ _ _ _ _ _ hr=>Ac (Q6 (JG rfl rfl (BL (gN Az.nd 2) (BL (gN Az.nd 3) (BL (gN Az.nd 4) (HN))))) (vr 0)) (Ac (sF Az.nd 5 (bMod (vp 1) (pU (Ky (O8 rfl) Ri rfl T.z_max Rm (vp 2) (iP))))) (Ac (sF Az.nd 6 (bMod (pU (bDiv (vp 1) (iP))) (pU (Ky (O8 rfl) Ri rfl T.z_max Rm (vp 2) (iP))))) (Ac (By (PFW.pt (Gs (tEq hr (vp 2) (iP)) (Dq (tEq hr (pU (bAdd (pU (BW ((Bc rfl).or Bg) Ck rfl T.z_len Ea (vp 3))) (pU (BW ((Bc rfl).or Bg) Ck rfl T.z_len Ea (vp 4))))) (iP))))) (Ae (Ai (vr 0))) (Be)) (Ac (sF Az.nd 7 (bMod (pU (bDiv (vp 1) (iP))) (pU (bAdd (pU (BW ((Bc rfl).or Bg) Ck rfl T.z_len Ea (vp 3))) (pU (BW ((Bc rfl).or Bg) Ck rfl T.z_len Ea (vp 4))))))) (Ac (sW Az.nd 8 (ZQ rfl T.z_dict ZK (vp 3))) (Ac (sW Az.nd 9 (ZQ rfl T.z_dict ZK (vp 4))) (Ac (By (tLt (vp 7) (pU (BW ((Bc rfl).or Bg) Ck rfl T.z_len Ea (vp 3)))) (Ac (sF Az.nd 10 (iX hr (pU (Lq ((Ht.or (Hu rfl)).or (Hv rfl)) Lz rfl T.z_list Nx (vp 3))) (vp 7))) (Ae (J1 (Hr hr) (pv 8) (vr 10) (fX (Mq T) hr (Af (iX hr (vp 3) (vp 10)) (pav 5 (Ad)) An))))) (Ac (sF Az.nd 10 (iX hr (pU (Lq ((Ht.or (Hu rfl)).or (Hv rfl)) Lz rfl T.z_list Nx (vp 4))) (pU (bSub (vp 7) (pU (BW ((Bc rfl).or Bg) Ck rfl T.z_len Ea (vp 3))))))) (Ae (J1 (Hr hr) (pv 9) (vr 10) (fX (Mq T) hr (Af (iX hr (vp 4) (vp 10)) (Af (Gu (pav 5 (pav 6 (Ad)))) (Ad) SJ) An)))))) (Ae (Mz [8,9] (Ai (Du (pav 2 (pav 8 (pav 9 (Ad)))))))))))))))
abbrev Ou:List Str:=["_law_cells","_law_one","_law_two","_law_three","_law_four","_law_bits","_law_number","_law_size","_law_marks","_law_ties","_law_first","_law_kind","_law_second"]
theorem Ay:FnScope Ou ["_law_cells"] (Ab Om):=scO
theorem Tf (T:Tx G mg):DOk P w base T.x__law_twins 3 (spD G Cp):=
 fnX (k:=2) (N:=Ou) (b:=Ep) T.x__law_twins Ay λ _ _ _ _ _ _ hr=>Ac (Q6 (JG rfl rfl (BL (gN Ay.nd 1) (BL (gN Ay.nd 2) (BL (gN Ay.nd 3) (BL (gN Ay.nd 4) (HN)))))) (vr 0)) (Ac (sF Ay.nd 5 (bMod (pU (bMul (vp 2) (iP))) (pU (Gr Uu Uv (iP) (iP))))) (Ac (By (tEq hr (pU (bMod (vp 1) (iP))) (iP)) (Ae (sF Ay.nd 5 (bMod (vp 2) (pU (Gr Uu Uv (iP) (iP)))))) (Be)) (Ac (sF Ay.nd 6 (bMod (pU (bMul (pU (bDiv (vp 1) (iP))) (iP))) (iP))) (Ac (sF Ay.nd 7 (iX hr (pU (Du (iI (iI (iI (iI (iI (iI (iI (iI (iI (iI (iI (iI (Ad))))))))))))))) (pU (bMod (vp 6) (iP))))) (Ac (sF Ay.nd 8 (IV rfl (pU (Du (iS (iS (iS (Ad)))))) (Jk) (HJ (pU (bMod (pU (bDiv (vp 6) (iP))) (iP)))))) (Ac (sF Ay.nd 9 (IV rfl (pU (Du (iS (iS (iS (Ad)))))) (Jk) (HJ (pU (bMod (pU (bDiv (vp 6) (iP))) (iP)))))) (Ac (sF Ay.nd 10 (fX (Jg T) hr (pav 7 (pav 8 (pav 9 (pav 5 (Ad))))))) (Ac (sF Ay.nd 11 (bMod (vp 3) (iP))) (Ac (By (tEq hr (vp 11) (iP)) (Ae (Ai (Du (pav 10 (Af (fX (Jg T) hr (Af (bMod (pU (bDiv (vp 3) (iP))) (iP)) (pav 8 (pav 9 (Af (bMod (vp 4) (pU (Gr Uu Uv (iP) (iP)))) (Ad) FJ))) FJ)) (Ad) G8))))) (Be)) (Ac (By (tEq hr (vp 11) (iP)) (Ae (Ai (Du (pav 10 (Af (fX (Jg T) hr (Af (Ky (Ti rfl) WQ rfl T.z_min X5 (pU (bAdd (vp 7) (iP))) (iP)) (pav 8 (pav 9 (pav 5 (Ad)))) G8)) (Ad) G8))))) (Be)) (Ac (sF Ay.nd 12 (fX (Sh T) hr (pav 10 (Af (fX (Td T) hr (Af (bDiv (vp 3) (iP)) (pav 7 (Ad)) FJ)) (Ad) G8)))) (Ac (By (tEq hr (vp 11) (iP)) (Ae (Ai (Du (pav 10 (pav 12 (Ad)))))) (Be)) (Ae (Ai (Du (pav 10 (Af (fX (Qs T) hr (pav 12 (Af (bDiv (vp 4) (iP)) (Ad) FJ))) (Ad) G8)))))))))))))))))
abbrev Le:List Str:=["number","most"]
theorem Qt:FnScope Le ["number","most"] (Ab LQ):=scO
theorem Hn (T:Tx G mg):DOk P w base T.x_refuse_above 1 (spD G Bj):=
 fnX (k:=0) (N:=Le) (b:=Ii) T.x_refuse_above Qt λ _ _ _ _ _ _ hr=>Ae (By (tGt (vp 0) (vp 1)) (Ae (Hz)) (Be))
abbrev JR:List Str:=["size","thing"]
theorem NP:FnScope JR ["size","thing"] (Ab JM):=scO
theorem Ca (T:Tx G mg):DOk P w base T.x_refuse_no_thing 1 (spD G BZ):=
 fnX (k:=0) (N:=JR) (b:=GR) T.x_refuse_no_thing NP λ _ _ _ _ _ _ hr=>Ae (By (PFW.pt (Gs (tLt (vp 1) (iP)) (Dq (tGe (vp 1) (vp 0))))) (Ae (Hz)) (Be))
abbrev Mr:List Str:=["size","things","kept","thing"]
theorem Ip:FnScope Mr ["size","things"] (Ab Mm):=scO
theorem Sq (T:Tx G mg):DOk P w base T.x_kept_things 2 (spD G Dr):=
 fnX (k:=1) (N:=Mr) (b:=Jd) T.x_kept_things Ip λ _ _ _ _ _ _ hr=>Ac (sW Ip.nd 2 (Ro)) (Ac (Cz z13 rfl (BX rfl (vr 1)) (Ci (gN Ip.nd 3)) (Ac (Dn (fX (Ca T) hr (pav 0 (pav 3 (Ad))))) (Ae (J1 (Hr hr) (pv 2) (vr 3) (Jj))))) (Ae (Mz [2] (Ai (vr 2)))))
abbrev Ov:List Str:=["size","pairs","kept","one","other"]
theorem HF:FnScope Ov ["size","pairs"] (Ab Oo):=scO
theorem Tg (T:Tx G mg):DOk P w base T.x_kept_pairs 2 (spD G Er):=
 fnX (k:=1) (N:=Ov) (b:=J_) T.x_kept_pairs HF λ _ _ _ _ _ _ hr=>Ac (sW HF.nd 2 (xU)) (Ac (Cz z13 rfl (BX rfl (vr 1)) (JG rfl rfl (BL (gN HF.nd 3) (BL (gN HF.nd 4) (HN)))) (Ac (Dn (fX (Ca T) hr (pav 0 (pav 3 (Ad))))) (Ac (Dn (fX (Ca T) hr (pav 0 (pav 4 (Ad))))) (Ae (gK (Hr hr) (pv 2) (pav 3 (pav 4 (Ad))) (Jj)))))) (Ae (Mz [2] (Ai (vr 2)))))
abbrev Jr:List Str:=["text"]
theorem Yd:FnScope Jr ["text"] (Ab QG):=scO
theorem Ss (T:Tx G mg):DOk P w base T.x_is_word 1 (spD G Es):=
 fnX (k:=0) (N:=Jr) (b:=QD) T.x_is_word Yd λ _ _ _ _ _ _ hr=>Ac (By (PFW.pt (Gs (tIn hr (vp 0) (pU (JZ (Lj (v:=.ref T.c_KEPT_TEXTS.a) rfl T.c_KEPT_TEXTS.m rfl) T.c_KEPT_TEXTS.r))) (Gs (tEq hr (pU (BW ((Bc rfl).or Bg) Ck rfl T.z_len Ea (vp 0))) (iP)) (Dq (tGt (pU (BW ((Bc rfl).or Bg) Ck rfl T.z_len Ea (vp 0))) (pU (JZ (Lj (v:=(.int 8)) rfl T.s_MOST_LETTERS.m ⟨_,rfl⟩) (.int _)))))))) (Ae (Ai (Jj))) (Be)) (Ae (Ai (BW (Pq rfl) U4 rfl T.z_all YC (pU (C_ (nT Jr "letter") (by show Ez "letter" Jr++(["letter"]:List Str)=_;decide +kernel) (cO (N:=Jr) (sc:=Ab QG) rfl rfl) rfl (PFI.top (BX rfl (vr 0))) (λ _ _ _=>DN) (λ _ _ _=>cIn hr (vp 1) (pU (JZ (Lj (v:=(.str "abcdefghijklmnopqrstuvwxyz")) rfl T.s_LETTERS.m ⟨_,rfl⟩) (.str _)))))))))
abbrev Js:List Str:=["self","size","marks","ties","word","things","pairs"]
theorem Cw:FnScope Js ["self","size","marks","ties"] (Ab Jp):=scO
theorem JS (T:Tx G mg):FnOk P w G.K mg base CX0 3 T.x_World___init__.f T.x_World___init__.fd ["self","size","marks","ties"] (spI G "World" CK):=
 fn_I (c:="World") (k:=2) (N:=Js) (b:=Gv) T.x_World___init__.F Cw (by decide) λ cdv A outer s H E hr=>Do (Rv (Dn (fX (Hn T) hr (pav 1 (Af (JZ (Lj (v:=(.int 5)) rfl T.s_MOST_THINGS.m ⟨_,rfl⟩) (.int _)) (Ad) RC)))) VB) (Do (Rv (Dn (fX (Hn T) hr (Af (BW ((Bc rfl).or Bg) Ck rfl T.z_len Ea (vp 2)) (Af (JZ (Lj (v:=(.int 3)) rfl T.s_MOST_WORDS.m ⟨_,rfl⟩) (.int _)) (Ad) RC) G8))) VB) (Do (Rv (Dn (fX (Hn T) hr (Af (BW ((Bc rfl).or Bg) Ck rfl T.z_len Ea (vp 3)) (Af (JZ (Lj (v:=(.int 3)) rfl T.s_MOST_WORDS.m ⟨_,rfl⟩) (.int _)) (Ad) RC) G8))) VB) (Do (K6 T.fl_size (pv 0) (vr 1)) (Do (Wj T.fl_marked (pv 0) Ro) (Do (Wj T.fl_tied (pv 0) Ro) (Do (Zn z13 rfl (T6 (top:=false) (vr 2)) (JG rfl rfl (BL (gN Cw.nd 4) (BL (gN Cw.nd 5) (HN)))) (ik (Q8 (by decide) (Q8 (by decide) (ig)))) (Wh (ie (Wi (JF (G5 (pU (fX (Ss T) hr (pav 4 (Ad)))) rfl))) (Ae Hz)) (Zm (Wk (Hr hr) T.fl_marked (pv 0) (vr 4) (fX (Sq T) hr (pav 1 (pav 5 (Ad)))))))) (Do (Zn z13 rfl (T6 (top:=false) (vr 3)) (JG rfl rfl (BL (gN Cw.nd 4) (BL (gN Cw.nd 6) (HN)))) (ik (Q8 (by decide) (Q8 (by decide) (ig)))) (Wh (ie (PWE.pt (vM (Wi (JF (G5 (pU (fX (Ss T) hr (pav 4 (Ad)))) rfl))) (ou (vN (Hr hr) T.fl_marked (pv 0) (vr 4))))) (Ae Hz)) (Zm (Wk (Hr hr) T.fl_tied (pv 0) (vr 4) (fX (Tg T) hr (pav 1 (pav 6 (Ad)))))))) (Zo))))))))
abbrev Ir:List Str:=["self"]
theorem Mf:FnScope Ir ["self"] (Ab Im):=scO
theorem Hs (T:Tx G mg):FnOk P w G.K mg base CX0 1 T.x_World_mark_words.f T.x_World_mark_words.fd ["self"] (spD G CW):=
 fn_D (k:=0) (N:=Ir) (b:=Ft) T.x_World_mark_words.F Mf (by decide) λ _ _ _ _ _ _ hr=>Ae (Ai (BW (Ml rfl) Z8 rfl T.z_sorted Lr (pU (BP T.fl_marked (vp 0)))))
abbrev JT:List Str:=["self"]
theorem NQ:FnScope JT ["self"] (Ab JN):=scO
theorem Iu (T:Tx G mg):FnOk P w G.K mg base CX0 1 T.x_World_tie_words.f T.x_World_tie_words.fd ["self"] (spD G Cq):=
 fn_D (k:=0) (N:=JT) (b:=GZ) T.x_World_tie_words.F NQ (by decide) λ _ _ _ _ _ _ hr=>Ae (Ai (BW (Ml rfl) Z8 rfl T.z_sorted Lr (pU (BP T.fl_tied (vp 0)))))
abbrev Kg:List Str:=["one","other"]
theorem QJ:FnScope Kg ["one","other"] (Ab KZ):=scO
theorem QK (T:Tx G mg):DOk P w base T.x_refuse_unlike 2 (spD G Fl):=
 fnX (k:=1) (N:=Kg) (b:=Hi) T.x_refuse_unlike QJ λ _ _ _ _ _ _ hr=>Ae (By (PFW.pt (Gs (tNe hr (pU (mO T.gc_World T.cl_World (Hs T) hr (vr 0))) (pU (mO T.gc_World T.cl_World (Hs T) hr (vr 1)))) (Dq (tNe hr (pU (mO T.gc_World T.cl_World (Iu T) hr (vr 0))) (pU (mO T.gc_World T.cl_World (Iu T) hr (vr 1))))))) (Ae (Hz)) (Be))
abbrev Gk:List Str:=["one","other","pairs","first","second"]
theorem DX:FnScope Gk ["one","other","pairs"] (Ab Gh):=scO
theorem DY (T:Tx G mg):DOk P w base T.x_refuse_strange_pairs 3 (spD G BR):=
 fnX (k:=2) (N:=Gk) (b:=Dj) T.x_refuse_strange_pairs DX λ _ _ _ _ _ _ hr=>Ac (Dn (fX (QK T) hr (pav 0 (pav 1 (Ad))))) (Ae (Cz z13 rfl (BX rfl (vr 2)) (JG rfl rfl (BL (gN DX.nd 3) (BL (gN DX.nd 4) (HN)))) (Ac (Dn (fX (Ca T) hr (Af (BP T.fl_size (vp 0)) (pav 3 (Ad)) Br))) (Ae (Dn (fX (Ca T) hr (Af (BP T.fl_size (vp 1)) (pav 4 (Ad)) Br)))))))
abbrev Kh:List Str:=["one","other","pair","word"]
theorem Jt:FnScope Kh ["one","other","pair"] (Ab Ka):=scO
theorem QL (T:Tx G mg):DOk P w base T.x_bear_the_same 1 (spD G Fo):=
 fnX (k:=0) (N:=Kh) (b:=Hj) T.x_bear_the_same Jt λ _ _ _ _ _ _ hr=>Ac (Cz z13 rfl (BX rfl (BP T.fl_marked (vp 0))) (Ci (gN Jt.nd 3)) (Ae (By (tNe hr (pU (cIn hr (pU (iX hr (vp 2) (iP))) (pU (iX hr (pU (BP T.fl_marked (vp 0))) (vp 3))))) (pU (cIn hr (pU (iX hr (vp 2) (iP))) (pU (iX hr (pU (BP T.fl_marked (vp 1))) (vp 3)))))) (Ae (Ai (Jj))) (Be)))) (Ae (Ai (Jj)))
abbrev Kl:List Str:=["one","other","pair","further","word"]
theorem Ju:FnScope Kl ["one","other","pair","further"] (Ab Kc):=scO
theorem G3 (T:Tx G mg):DOk P w base T.x_lead_the_same 1 (spD G Cd):=
 fnX (k:=0) (N:=Kl) (b:=Hk) T.x_lead_the_same Ju λ _ _ _ _ _ _ hr=>Ac (Cz z13 rfl (BX rfl (BP T.fl_tied (vp 0))) (Ci (gN Ju.nd 4)) (Ae (By (tNe hr (pU (je hr (Af (iX hr (vp 2) (iP)) (Af (iX hr (vp 3) (iP)) (Ad) An) An) (pU (iX hr (pU (BP T.fl_tied (vp 0))) (vp 4))))) (pU (je hr (Af (iX hr (vp 2) (iP)) (Af (iX hr (vp 3) (iP)) (Ad) An) An) (pU (iX hr (pU (BP T.fl_tied (vp 1))) (vp 4)))))) (Ae (Ai (Jj))) (Be)))) (Ae (Ai (Jj)))
abbrev Ms:List Str:=["one","other","pair","further"]
theorem Su:FnScope Ms ["one","other","pair","further"] (Ab Mp):=scO
theorem Sv (T:Tx G mg):DOk P w base T.x_go_together 2 (spD G G_):=
 fnX (k:=1) (N:=Ms) (b:=Je) T.x_go_together Su λ _ _ _ _ _ _ hr=>Ac (By (tNe hr (pU (cEq hr (pU (iX hr (vp 2) (iP))) (pU (iX hr (vp 3) (iP))))) (pU (cEq hr (pU (iX hr (vp 2) (iP))) (pU (iX hr (vp 3) (iP)))))) (Ae (Ai (Jj))) (Be)) (Ae (Ai (Rg (fX (G3 T) hr (pav 0 (pav 1 (pav 2 (pav 3 (Ad)))))) (Xx (fX (G3 T) hr (pav 0 (pav 1 (pav 3 (pav 2 (Ad))))))))))
abbrev Ha:List Str:=["one","other","pairs","further"]
theorem Vf:FnScope Ha ["one","other","pairs","further"] (Ab LR):=scO
theorem Ox (T:Tx G mg):DOk P w base T.x_fits_with 3 (spD G Eb):=
 fnX (k:=2) (N:=Ha) (b:=JK) T.x_fits_with Vf λ _ _ _ _ _ _ hr=>Ac (By (PFW.pt (Gs (JF (G5 (pU (fX (QL T) hr (pav 0 (pav 1 (pav 3 (Ad)))))) rfl)) (Dq (JF (G5 (pU (fX (G3 T) hr (pav 0 (pav 1 (pav 3 (pav 3 (Ad))))))) rfl))))) (Ae (Ai (Jj))) (Be)) (Ae (Ai (BW (Pq rfl) U4 rfl T.z_all YC (pU (C_ (nT Ha "pair") (by show Ez "pair" Ha++(["pair"]:List Str)=_;decide +kernel) (cO (N:=Ha) (sc:=Ab LR) rfl rfl) rfl (PFI.top (BX rfl (vr 2))) (λ _ _ _=>DN) (λ _ _ _=>fX (Sv T) hr (pav 0 (pav 1 (pav 4 (pav 3 (Ad)))))))))))
abbrev MT:List Str:=["one","other","pairs"]
theorem Ye:FnScope MT ["one","other","pairs"] (Ab QH):=scO
theorem Sw (T:Tx G mg):DOk P w base T.x_all_fit 4 (spD G Et):=
 fnX (k:=3) (N:=MT) (b:=MN) T.x_all_fit Ye λ _ _ _ _ _ _ hr=>Ae (Ai (BW (Pq rfl) U4 rfl T.z_all YC (pU (PN.pf (ju ["one","other","pairs","at","pair"] (by show DK ["at","pair"] MT++(["at","pair"]:List Str)=_;decide +kernel) (cO2 (N:=MT) (sc:=Ab QH) rfl rfl) rfl rfl (PFI.top (cX rfl rfl T.z_enumerate (vr 2))) (λ _ _ _=>DN) (λ _ _ _=>fX (Ox T) hr (pav 0 (pav 1 (Af (IV rfl (vp 2) (Jk) (HJ (vp 3))) (pav 4 (Ad)) An)))))))))
abbrev j7:List Str:=["one","other","pairs"]
theorem qH:FnScope j7 ["one","other","pairs"] (Ab jz):=scO
theorem qI (T:Tx G mg):DOk P w base T.x_fits 5 (spD G Ve):=
 fnX (k:=4) (N:=j7) (b:=Yb) T.x_fits qH λ _ _ _ _ _ _ hr=>Ac (Dn (fX (DY T) hr (pav 0 (pav 1 (pav 2 (Ad)))))) (Ae (Ai (fX (Sw T) hr (pav 0 (pav 1 (pav 2 (Ad)))))))
abbrev Oz:List Str:=["_law_here","_law_there","_law_cells","_law_row","_law_cell_here","_law_both"]
theorem HH:FnScope Oz ["_law_here","_law_there","_law_cells"] (Ab Oq):=scO
theorem Th (T:Tx G mg):DOk P w base T.x__law_pairs 6 (spD G Hx):=
 fnX (k:=5) (N:=Oz) (b:=KC) T.x__law_pairs HH λ _ _ _ _ _ _ hr=>Ac (sW HH.nd 3 (X6 (Ad))) (Ac (Cz z13 rfl (BX rfl (vr 2)) (Ci (gN HH.nd 4)) (Ae (By (PFW.pt (ZF (tLt (pU (BW ((Bc rfl).or Bg) Ck rfl T.z_len Ea (vq 3))) (iP)) (ZF (tGt (pU (BP T.fl_size (vp 0))) (iP)) (Xy (tGt (pU (BP T.fl_size (vp 1))) (iP)))))) (Ac (sF HH.nd 5 (Gu (Af (bMod (pU (bDiv (vp 4) (iP))) (pU (BP T.fl_size (vp 0)))) (Af (bMod (pU (bDiv (vp 4) (iP))) (pU (BP T.fl_size (vp 1)))) (Ad) FJ) FJ))) (Ae (By (PFW.pt (Gs (tEq hr (pU (bMod (vp 4) (iP))) (iP)) (Dq (G5 (pU (fX (qI T) hr (pav 0 (pav 1 (Af (bAdd (vq 3) (pU (Du (pav 5 (Ad))))) (Ad) FJ))))) rfl)))) (Ae (Q4 (pv 3) (vr 5))) (Be)))) (Be)))) (Ae (Mz [3] (Ai (vr 3)))))
abbrev Iv:List Str:=["size","paired"]
theorem W7:FnScope Iv ["size","paired"] (Ab NK):=scO
theorem Qm (T:Tx G mg):DOk P w base T.x_unpaired 1 (spD G Ij):=
 fnX (k:=0) (N:=Iv) (b:=M_) T.x_unpaired W7 λ _ _ _ _ _ _ hr=>Ae (Ai (C_ (nT Iv "thing") (by show Ez "thing" Iv++(["thing"]:List Str)=_;decide +kernel) (cO (N:=Iv) (sc:=Ab NK) rfl rfl) rfl (G7 rfl T.z_range (vp 0)) (λ _ _ _=>Nv (tNi hr (vp 2) (vp 1))) (λ _ _ _=>vr 2)))
abbrev JV:List Str:=["self","pairs","further"]
theorem NT:FnScope JV ["self","pairs","further"] (Ab JP):=scO
theorem NZ (T:Tx G mg) {m:Nat}{rec_Ranks_rank_of_fitting:List D->Option D}(hm:3<=m) (hrec:FnOk P w G.K mg base CX0 m T.x_Ranks_rank_of_fitting.f T.x_Ranks_rank_of_fitting.fd ["self","pairs"] (spD G rec_Ranks_rank_of_fitting)):FnOk P w G.K mg base CX0 (m+1) T.x_Ranks_rank_with.f T.x_Ranks_rank_with.fd ["self","pairs","further"] (spD G (Bl rec_Ranks_rank_of_fitting)):=
 fn_D (k:=m+0) (N:=JV) (b:=Gd rec_Ranks_rank_of_fitting) T.x_Ranks_rank_with.F NT (by decide) λ _ _ _ _ _ _ hr=>Ac (By (JF (G5 (pU (fX (Ox T) hr (Af (BP T.fl_one (vp 0)) (Af (BP T.fl_other (vp 0)) (pav 1 (pav 2 (Ad))) Br) Br))) rfl)) (Ae (Ai (PQ))) (Be)) (Ae (Ai (mA T.gc_Ranks T.cl_Ranks (hrec) hr (vr 0) (Af (vh rfl rfl rfl T.z_tuple Ru rfl T.z_sorted Lr (pU (Gr qC jg (vp 1) (pU (Gu (pav 2 (Ad))))))) (Ad) G8))))
abbrev Cy:List Str:=["self","pairs","choices"]
theorem Nb:FnScope Cy ["self","pairs","choices"] (Ab Gi):=scO
theorem Iw (T:Tx G mg) {m:Nat}{rec_Ranks_rank_of_fitting:List D->Option D}(hm:3<=m) (hrec:FnOk P w G.K mg base CX0 m T.x_Ranks_rank_of_fitting.f T.x_Ranks_rank_of_fitting.fd ["self","pairs"] (spD G rec_Ranks_rank_of_fitting)):FnOk P w G.K mg base CX0 (m+2) T.x_Ranks_best_rank.f T.x_Ranks_best_rank.fd ["self","pairs","choices"] (spD G (Av rec_Ranks_rank_of_fitting)):=
 fn_D (k:=m+1) (N:=Cy) (b:=Ge rec_Ranks_rank_of_fitting) T.x_Ranks_best_rank.F Nb (by decide) λ _ _ _ _ _ _ hr=>Ae (Ai (ZJ rfl rfl rfl T.z_max Rm (pU (C_ (nT Cy "further") (by show Ez "further" Cy++(["further"]:List Str)=_;decide +kernel) (cO (N:=Cy) (sc:=Ab Gi) rfl rfl) rfl (PFI.top (BX rfl (vr 2))) (λ _ _ _=>DN) (λ _ _ _=>mA T.gc_Ranks T.cl_Ranks (NZ T (by omega) (hrec)) hr (vr 0) (pav 1 (pav 3 (Ad)))))) (PQ)))
abbrev Ao:List Str:=["self","pairs","firsts","seconds","reached","first","second"]
theorem Bm:FnScope Ao ["self","pairs"] (Ab Bq):=scO
theorem Mg (T:Tx G mg) {m:Nat}{rec_Ranks_rank_of_fitting:List D->Option D}(hm:3<=m) (hrec:FnOk P w G.K mg base CX0 m T.x_Ranks_rank_of_fitting.f T.x_Ranks_rank_of_fitting.fd ["self","pairs"] (spD G rec_Ranks_rank_of_fitting)):FnOk P w G.K mg base CX0 (m+3) T.x_Ranks_least_rank.f T.x_Ranks_least_rank.fd ["self","pairs"] (spD G (CZ rec_Ranks_rank_of_fitting)):=
 fn_D (k:=m+2) (N:=Ao) (b:=Fv rec_Ranks_rank_of_fitting) T.x_Ranks_least_rank.F Bm (by decide) λ _ _ _ _ _ _ hr=>Ac (sF Bm.nd 2 (fX (Qm T) hr (Af (BP T.fl_size (pU (BP T.fl_one (vp 0)))) (Af (C_ (nT Ao "pair") (by show Ez "pair" Ao++(["pair"]:List Str)=_;decide +kernel) (cO (N:=Ao) (sc:=Ab Bq) rfl rfl) rfl (PFI.top (BX rfl (vr 1))) (λ _ _ _=>DN) (λ _ _ _=>iX hr (vp 7) (iP))) (Ad) HQ) Br))) (Ac (sF Bm.nd 3 (fX (Qm T) hr (Af (BP T.fl_size (pU (BP T.fl_other (vp 0)))) (Af (C_ (nT Ao "pair") (by show Ez "pair" Ao++(["pair"]:List Str)=_;decide +kernel) (cO (N:=Ao) (sc:=Ab Bq) rfl rfl) rfl (PFI.top (BX rfl (vr 1))) (λ _ _ _=>DN) (λ _ _ _=>iX hr (vp 7) (iP))) (Ad) HQ) Br))) (Ac (sW Bm.nd 4 (X6 (Ad))) (Ac (Cz z13 rfl (BX rfl (vr 2)) (Ci (gN Bm.nd 5)) (Ae (Q4 (pv 4) (mA T.gc_Ranks T.cl_Ranks (Iw T (by omega) (hrec)) hr (vr 0) (pav 1 (Af (C_ ["self","pairs","firsts","seconds","reached","first","","second"] (by show Ez "second" Ao++(["second"]:List Str)=_;decide +kernel) (cO (N:=Ao) (sc:=Ab Bq) rfl rfl) rfl (PFI.top (BX rfl (vr 3))) (λ _ _ _=>DN) (λ _ _ _=>Gu (pav 5 (pav 7 (Ad))))) (Ad) HQ)))))) (Ac (Cz z13 rfl (BX rfl (vr 3)) (Ci (gN Bm.nd 6)) (Ae (Q4 (pv 4) (mA T.gc_Ranks T.cl_Ranks (Iw T (by omega) (hrec)) hr (vr 0) (pav 1 (Af (C_ ["self","pairs","firsts","seconds","reached","","second","first"] (by show Ez "first" Ao++(["first"]:List Str)=_;decide +kernel) (cO (N:=Ao) (sc:=Ab Bq) rfl rfl) rfl (PFI.top (BX rfl (vr 2))) (λ _ _ _=>DN) (λ _ _ _=>Gu (pav 7 (pav 6 (Ad))))) (Ad) HQ)))))) (Ae (Ai (Ky (Ti rfl) WQ rfl T.z_min X5 (pU (BP T.fl_endless (vp 0))) (pU (bAdd (iP) (pU (p_ rfl rfl rfl T.z_min X5 (vq 4) (BP T.fl_endless (vp 0)))))))))))))
abbrev Dc:List Str:=["self","pairs"]
theorem Fb:FnScope Dc ["self","pairs"] (Ab Fx):=scO
theorem Fe (T:Tx G mg):∀ n:Nat,FnOk P w G.K mg base CX0 (n*4+3) T.x_Ranks_rank_of_fitting.f T.x_Ranks_rank_of_fitting.fd ["self","pairs"] (spD G (Ag n))
 | 0=>oK
 | n+1=>(fn_D (k:=n*4+6) (N:=Dc) (b:=Bd (Ag n)) T.x_Ranks_rank_of_fitting.F Fb (by decide) λ _ _ _ _ _ _ hr=>jG hr.units rfl T.fl_reckoned rfl .(11) rfl .(11) (mA T.gc_Ranks T.cl_Ranks (Mg T (by omega) (Fe T n)) hr (vr 0) (pav 1 (Ad)))).mono (by omega)
theorem JC (T:Tx G mg):FnOk P w G.K mg base CX0 1 T.x_Ranks_rank_of_fitting.f T.x_Ranks_rank_of_fitting.fd ["self","pairs"] (spP P w G.K "reckoned"):=
 fn_P (k:=0) (N:=Dc) T.x_Ranks_rank_of_fitting.F Fb rfl λ _ _ _ _ _ _ hr=>qG hr.units rfl .(11) rfl .(11)
abbrev Km:List Str:=["self","pairs","known"]
theorem Jv:FnScope Km ["self","pairs"] (Ab Kd):=scO
theorem G4 (T:Tx G mg):FnOk P w G.K mg base CX0 36 T.x_Ranks_rank_of.f T.x_Ranks_rank_of.fd ["self","pairs"] (spD G BJ):=
 fn_D (k:=35) (N:=Km) (b:=Fp) T.x_Ranks_rank_of.F Jv (by decide) λ _ _ _ _ _ _ hr=>Ac (sF Jv.nd 2 (vg hr.units rfl rfl rfl T.z_tuple Ru rfl T.z_sorted Lr rfl T.z_set vG (vp 1))) (jr (d:=T.x_Ranks_rank_of_fitting) hr.units rfl T.fl_reckoned T.gc_Ranks rfl .(11) rfl .(11) (G5 (pU (fX (Sw T) hr (Af (BP T.fl_one (vp 0)) (Af (BP T.fl_other (vp 0)) (pav 2 (Ad)) Br) Br))) rfl) (JC T) (hr.mono (by omega)) (Ai (mA T.gc_Ranks T.cl_Ranks (Fe T 8) hr (vr 0) (pav 2 (Ad)))))
abbrev JW:List Str:=["self","pairs","reached"]
theorem Iz:FnScope JW ["self","pairs"] (Ab JQ):=scO
theorem Nf (T:Tx G mg):FnOk P w G.K mg base CX0 37 T.x_Ranks_told_rank.f T.x_Ranks_told_rank.fd ["self","pairs"] (spD G Cv):=
 fn_D (k:=36) (N:=JW) (b:=Gf) T.x_Ranks_told_rank.F Iz (by decide) λ _ _ _ _ _ _ hr=>Ac (sF Iz.nd 2 (mA T.gc_Ranks T.cl_Ranks (G4 T) hr (vr 0) (pav 1 (Ad)))) (Ae (Ai (fL (tEq hr (vp 2) (pU (BP T.fl_endless (vp 0)))) (uo) (vr 2))))
abbrev Jw:List Str:=["self","one","other"]
theorem O3:FnScope Jw ["self","one","other"] (Ab Jq):=scO
theorem JX (T:Tx G mg):FnOk P w G.K mg base CX0 1 T.x_Ranks___init__.f T.x_Ranks___init__.fd ["self","one","other"] (spI G "Ranks" CN):=
 fn_I (c:="Ranks") (k:=0) (N:=Jw) (b:=Gw) T.x_Ranks___init__.F O3 (by decide) λ cdv A outer s H E hr=>Do (K6 T.fl_one (pv 0) (vr 1)) (Do (K6 T.fl_other (pv 0) (vr 2)) (Do (K6 T.fl_reckoned (pv 0) (vZ rfl)) (Do (K6 T.fl_endless (pv 0) (bAdd (pU (Ky (O8 rfl) Ri rfl T.z_max Rm (pU (BP T.fl_size (vp 1))) (pU (BP T.fl_size (vp 2))))) (iP))) (Zo))))
abbrev j8:List Str:=["one","other","pairs"]
theorem qJ:FnScope j8 ["one","other","pairs"] (Ab j5):=scO
theorem aA (T:Tx G mg):DOk P w base T.x_rank 38 (spD G Sd):=
 fnX (k:=37) (N:=j8) (b:=Yc) T.x_rank qJ λ _ _ _ _ _ _ hr=>Ac (Dn (fX (DY T) hr (pav 0 (pav 1 (pav 2 (Ad)))))) (Ae (Ai (mA T.gc_Ranks T.cl_Ranks (Nf T) hr (U_ T.gc_Ranks T.x_Ranks___init__.mM (JX T) (hr.mono (by omega)) rfl T.mC_Ranks T.x_Ranks___init__.B (pav 0 (pav 1 (Ad)))) (pav 2 (Ad)))))
abbrev Lf:List Str:=["ranks","side"]
theorem Qu:FnScope Lf ["ranks","side"] (Ab La):=scO
theorem Ko (T:Tx G mg):DOk P w base T.x_size_of_side 1 (spD G DW):=
 fnX (k:=0) (N:=Lf) (b:=Ik) T.x_size_of_side Qu λ _ _ _ _ _ _ hr=>Ae (Ai (fL (tEq hr (vp 1) (iP)) (BP T.fl_size (pU (BP T.fl_one (vp 0)))) (BP T.fl_size (pU (BP T.fl_other (vp 0))))))
abbrev Ub:List Str:=["side","thing","replied"]
theorem Yg:FnScope Ub ["side","thing","replied"] (Ab Ua):=scO
theorem Yh (T:Tx G mg):DOk P w base T.x_pair_of 1 (spD G MP):=
 fnX (k:=0) (N:=Ub) (b:=QF) T.x_pair_of Yg λ _ _ _ _ _ _ hr=>Ae (Ai (fL (tEq hr (vp 0) (iP)) (Gu (pav 1 (pav 2 (Ad)))) (Gu (pav 2 (pav 1 (Ad))))))
abbrev Hd:List Str:=["ranks","side","thing"]
theorem Vg:FnScope Hd ["ranks","side","thing"] (Ab Lb):=scO
theorem Vh (T:Tx G mg):DOk P w base T.x_new_pairs 2 (spD G HW):=
 fnX (k:=1) (N:=Hd) (b:=LC) T.x_new_pairs Vg λ _ _ _ _ _ _ hr=>Ae (Ai (C_ (nT Hd "replied") (by show Ez "replied" Hd++(["replied"]:List Str)=_;decide +kernel) (cO (N:=Hd) (sc:=Ab Lb) rfl rfl) rfl (G7 rfl T.z_range (pU (fX (Ko T) hr (pav 0 (Af (bSub (iP) (vp 1)) (Ad) FJ))))) (λ _ _ _=>DN) (λ _ _ _=>fX (Yh T) hr (pav 1 (pav 2 (pav 3 (Ad)))))))
abbrev Ek:List Str:=["ranks","pairs","side","thing"]
theorem Qv:FnScope Ek ["ranks","pairs","side","thing"] (Ab Io):=scO
theorem Qw (T:Tx G mg):DOk P w base T.x_ranks_behind 37 (spD G Gg):=
 fnX (k:=36) (N:=Ek) (b:=Il) T.x_ranks_behind Qv λ _ _ _ _ _ _ hr=>Ae (Ai (C_ (nT Ek "pair") (by show Ez "pair" Ek++(["pair"]:List Str)=_;decide +kernel) (cO (N:=Ek) (sc:=Ab Io) rfl rfl) rfl (PFI.top (BX rfl (fX (Vh T) hr (pav 0 (pav 2 (pav 3 (Ad))))))) (λ _ _ _=>DN) (λ _ _ _=>mA T.gc_Ranks T.cl_Ranks (G4 T) hr (vr 0) (Af (bAdd (vp 1) (pU (Du (pav 4 (Ad))))) (Ad) FJ))))
abbrev Kp:List Str:=["ranks","pairs","reached","side","thing"]
theorem Eu:FnScope Kp ["ranks","pairs"] (Ab Ke):=scO
theorem QM (T:Tx G mg):DOk P w base T.x_good_pointing 38 (spD G Dp):=
 fnX (k:=37) (N:=Kp) (b:=Hl) T.x_good_pointing Eu λ _ _ _ _ _ _ hr=>Ac (sF Eu.nd 2 (mA T.gc_Ranks T.cl_Ranks (G4 T) hr (vr 0) (pav 1 (Ad)))) (Ac (By (PFW.pt (Gs (tEq hr (vp 2) (iP)) (Dq (tEq hr (vp 2) (pU (BP T.fl_endless (vp 0))))))) (Ae (Hz)) (Be)) (Ae (Cz z13 rfl (BX rfl (Gu (iI (iI (Ad))))) (Ci (gN Eu.nd 3)) (Ae (Cz z13 rfl (G7 rfl T.z_range (pU (fX (Ko T) hr (pav 0 (pav 3 (Ad)))))) (Ci (gN Eu.nd 4)) (Ae (By (tLt (pU (ZJ rfl rfl rfl T.z_max Rm (pU (fX (Qw T) hr (pav 0 (pav 1 (pav 3 (pav 4 (Ad))))))) (PQ))) (vp 2)) (Ae (Ai (Gu (pav 3 (pav 4 (Ad)))))) (Be))))))))
abbrev Sy:List Str:=["one","other","pairs"]
theorem W8:FnScope Sy ["one","other","pairs"] (Ab Sg):=scO
theorem Qn (T:Tx G mg):DOk P w base T.x_pointing 39 (spD G Gz):=
 fnX (k:=38) (N:=Sy) (b:=NB) T.x_pointing W8 λ _ _ _ _ _ _ hr=>Ac (Dn (fX (DY T) hr (pav 0 (pav 1 (pav 2 (Ad)))))) (Ae (Ai (fX (QM T) hr (Af (U_ T.gc_Ranks T.x_Ranks___init__.mM (JX T) (hr.mono (by omega)) rfl T.mC_Ranks T.x_Ranks___init__.B (pav 0 (pav 1 (Ad)))) (Af (Lq ((Ht.or (Hu rfl)).or (Hv rfl)) Lz rfl T.z_list Nx (vp 2)) (Ad) G8) G8))))
abbrev Kq:List Str:=["_law_found","_law_size"]
theorem QQ:FnScope Kq ["_law_found","_law_size"] (Ab Kf):=scO
theorem Jx (T:Tx G mg):DOk P w base T.x__law_is_thing 1 (spD G Ce):=
 fnX (k:=0) (N:=Kq) (b:=Hm) T.x__law_is_thing QQ λ _ _ _ _ _ _ hr=>Ae (Ai (Rg (X4 oH rfl rfl T.z_isinstance Jb rfl T.z_int vD (vp 0)) (Rg (uw (X4 gB rfl rfl T.z_isinstance Jb rfl T.z_bool oJ (vp 0))) (Rg (Ut ww ur (iP) (vp 0) (Ks _)) (Xx (Ut rC fK (vp 0) (vp 1) (Ks _)))))))
abbrev Qo:List Str:=["_law_here","_law_there","_law_row","_law_most","_law_handed","_law_found","_law_side","_law_thing","_law_sizes","_law_partner","_law_both","_law_least"]
theorem Bt:FnScope Qo ["_law_here","_law_there","_law_row"] (Ab Qk):=scO
theorem O4 (T:Tx G mg):DOk P w base T.x__law_good 40 (spD G Ei):=
 fnX (k:=39) (N:=Qo) (b:=HX) T.x__law_good Bt λ _ _ _ _ _ _ hr=>Ac (sF Bt.nd 3 (fX (aA T) hr (pav 0 (pav 1 (pav 2 (Ad)))))) (Ac (By (PFW.pt (Gs (ZS (vp 3)) (Dq (tEq hr (vp 3) (iP))))) (Ae (Ai (Jj))) (Be)) (Ac (sF Bt.nd 4 (Lq ((Ht.or (Hu rfl)).or (Hv rfl)) Lz rfl T.z_list Nx (vp 2))) (Ac (sF Bt.nd 5 (fX (Qn T) hr (pav 0 (pav 1 (pav 4 (Ad)))))) (Ac (By (PFW.pt (Gs (JF (G5 (pU (X4 bu rfl rfl T.z_isinstance Jb rfl T.z_tuple Ru (vp 5))) rfl)) (Gs (tNe hr (pU (BW ((Bc rfl).or Bg) Ck rfl T.z_len Ea (vp 5))) (iP)) (Gs (JF (G5 (pU (fX (Jx T) hr (Af (iX hr (vp 5) (iP)) (iI (Ad)) An))) rfl)) (Dq (tNe hr (vp 4) (vp 2))))))) (Ae (Ai (Jj))) (Be)) (Ac (Q6 (JG rfl rfl (BL (gN Bt.nd 6) (BL (gN Bt.nd 7) (HN)))) (vr 5)) (Ac (sF Bt.nd 8 (Du (Af (BP T.fl_size (vp 0)) (Af (BP T.fl_size (vp 1)) (Ad) Br) Br))) (Ac (By (JF (G5 (pU (fX (Jx T) hr (pav 7 (Af (iX hr (vp 8) (vp 6)) (Ad) An)))) rfl)) (Ae (Ai (Jj))) (Be)) (Ac (Cz z13 rfl (G7 rfl T.z_range (pU (iX hr (vp 8) (pU (bSub (iP) (vp 6)))))) (Ci (gN Bt.nd 9)) (Ac (sF Bt.nd 10 (iX hr (pU (Du (Af (Gu (pav 7 (pav 9 (Ad)))) (Af (Gu (pav 9 (pav 7 (Ad)))) (Ad) SJ) SJ))) (vp 6))) (Ac (sF Bt.nd 11 (fX (aA T) hr (pav 0 (pav 1 (Af (bAdd (vp 2) (pU (Du (pav 10 (Ad))))) (Ad) FJ))))) (Ae (By (PFW.pt (Gs (ZS (vp 11)) (Dq (tGe (vp 11) (vp 3))))) (Ae (Ai (Jj))) (Be)))))) (Ae (Ai (cEq hr (pU (fX (Qn T) hr (pav 0 (pav 1 (pav 4 (Ad)))))) (vp 5))))))))))))
abbrev Qp:List Str:=["_law_script","_law_k"]
theorem Vi:FnScope Qp ["_law_script","_law_k"] (Ab Ql):=scO
theorem Vj (T:Tx G mg):DOk P w base T.x__law_cell 1 (spD G HY):=
 fnX (k:=0) (N:=Qp) (b:=JL) T.x__law_cell Vi λ _ _ _ _ _ _ hr=>Ac (By (tLt (vp 1) (pU (BW (Bc rfl) Q3 rfl T.z_len Ea (vp 0)))) (Ae (Ai (iD (vp 0) (vp 1)))) (Be)) (Ae (Ai (PQ)))
abbrev W9:List Str:=["_law_script","_law_first","_law_second","_law_here","_law_there","_law_row"]
theorem QR:FnScope W9 ["_law_script"] (Ab j6):=scO
theorem vz (T:Tx G mg):DOk P w base T.x_law 41 (spD G W6):=
 fnX (k:=40) (N:=W9) (b:=jw) T.x_law QR λ _ _ _ _ _ _ hr=>Ac (Q6 (JG rfl rfl (BL (gN QR.nd 1) (BL (gN QR.nd 2) (HN)))) (fX (Tf T) hr (Af (C_ (nT W9 "_law_k") (by show Ez "_law_k" W9++(["_law_k"]:List Str)=_;decide +kernel) (cO (N:=W9) (sc:=Ab j6) rfl rfl) rfl (G7 rfl T.z_range (iP)) (λ _ _ _=>DN) (λ _ _ _=>fX (Vj T) hr (pav 0 (pav 6 (Ad))))) (Ad) HQ))) (Ac (sF QR.nd 3 (U_ T.gc_World T.x_World___init__.mM (JS T) (hr.mono (by omega)) rfl T.mC_World T.x_World___init__.B (Af (iX hr (vp 1) (iP)) (Af (iX hr (vp 1) (iP)) (Af (iX hr (vp 1) (iP)) (Ad) An) An) An))) (Ac (sF QR.nd 4 (U_ T.gc_World T.x_World___init__.mM (JS T) (hr.mono (by omega)) rfl T.mC_World T.x_World___init__.B (Af (iX hr (vp 2) (iP)) (Af (iX hr (vp 2) (iP)) (Af (iX hr (vp 2) (iP)) (Ad) An) An) An))) (Ac (sF QR.nd 5 (fX (Th T) hr (pav 3 (pav 4 (Af (IV rfl (vp 0) (HJ (iP)) (HJ (iP))) (Ad) An))))) (Ae (Ai (Rg (fX (O4 T) hr (pav 3 (pav 4 (pav 5 (Ad))))) (Xx (fX (O4 T) hr (pav 3 (pav 4 (Af (IV rfl (vp 5) (Jk) (HJ (pU (vA (iP))))) (Ad) An)))))))))))
end
abbrev gx (K:z08) (C_World C_Ranks:Addr):Gx:=gxL K [("World",C_World),("Ranks",C_Ranks)]
def tO (K:z08):Sp:=λ vs H Q _=>∃ (a:Addr) (ns:List Int),vs=[.ref a]/\SqL K H a (ns.map V.int)/\ns.length<=63/\(∀ i∈ns,z1q i<=1048576)/\∀ H',Q (.bl true) H'
theorem v4 (ht:∀ ns:List Int,ns.length<=63->(∀ i∈ns,z1q i<=1048576)->W6 [.lst (ns.map .int)]=some (.bl true)) {K:z08}{C_World C_Ranks:Addr}(vs:List V) (H:Hp) (Q:VK) (E:XK) (h:tO K vs H Q E):spD (gx K C_World C_Ranks) W6 vs H Q E:=by
 obtain⟨a,ns,rfl,hs,hl,hbt,k⟩:=h;refine⟨[],[.lst (ns.map .int)],.bl true,(λ _ z=>nomatch z),RepL.cons ?_ RepL.nil,ht ns hl hbt,λ v H2 _ r=>?_⟩
 ·have e:hid [] H=H:=by funext b;exact CP (λ z=>nomatch z)
  rw[e];refine .lst hs (by simp) λ i x d h1 h2=>?_;rw[z0q] at h1 h2;cases e2:ns[i]? with
  | none=>rw[e2] at h1;cases h1
  | some z=>rw[e2] at h1 h2;cases h1;cases h2;exact .int z
 ·cases r;exact k H2
end K61
section
open PySem L2 PV
local macro_rules | `(tactic| w_up) => `(tactic| (rw [List.map_cons, En, e_tg, J3, KR]; simp only [List.set_cons_zero, List.set_cons_succ]))
local macro_rules | `(tactic| simp only [cK, $ls,*] $[$l:location]?) => `(tactic| simp only [E_, e_nx, e_rt, rT, e_if, rW, rY, Zb, U8, rZ, gW, gY, Zc, e_b, e_bs, e_u, e_us, gZ, Zd, gf, Ze, gj, sH, gk, gr, gw, YG, g8, g_, h_, e_bl, sI, iB, Zf, Zg, sJ, iC, iG, iH, iJ, Zh, iK, Zi, sO, iM, iQ, e_sl, sS, sU, Zj, Wg, e_v, e_vs, e_vU, sV, e_k, Rp, Rq, M3, iR, iT, iU, K4, iV, DP, Jm, e_tr, iW, Zk, sZ, iY, Px, En, Dv, N7, J3, e_tg, KR, List.length_cons, List.length_nil, List.map_cons, List.map_nil, List.cons_append, List.nil_append, List.replicate_succ, List.replicate_zero, List.getElem?_cons_zero, List.getElem?_cons_succ, List.set_cons_zero, List.set_cons_succ, Nat.reduceAdd, Nat.reduceSub, Nat.reduceEqDiff, Nat.zero_add, truB, Bool.not_true, Bool.not_false, decide_true, decide_false, List.append_nil, Int.reduceLT, Int.reduceLE, Int.reduceNeg, Int.reduceEq, Int.reduceToNat, Nat.reduceLeDiff, $ls,*] $[$l:location]?)
local macro_rules | `(tactic| simp only [cK]) => `(tactic| simp only [cK, e_nx])
local macro_rules | `(tactic| simp only [kC, $ls,*] $[$l:location]?) => `(tactic| simp only [$ls,*, E_, e_nx, e_rt, rT, e_if, rW, rY, Zb, U8, rZ, gW, gY, Zc, e_b, e_bs, e_u, e_us, gZ, Zd, gf, Ze, gj, sH, gk, gr, gw, YG, g8, g_, h_, e_bl, sI, iB, Zf, Zg, sJ, iC, iG, iH, iJ, Zh, iK, Zi, sO, iM, iQ, e_sl, sS, sU, Zj, Wg, e_v, e_vs, e_vU, sV, e_k, Rp, Rq, M3, iR, iT, iU, K4, iV, DP, Jm, e_tr, iW, Zk, sZ, iY, Px, En, Dv, N7, J3, e_tg, KR, List.length_cons, List.length_nil, List.map_cons, List.map_nil, List.cons_append, List.nil_append, List.replicate_succ, List.replicate_zero, List.getElem?_cons_zero, List.getElem?_cons_succ, List.set_cons_zero, List.set_cons_succ, Nat.reduceAdd, Nat.reduceSub, Nat.reduceEqDiff, Nat.zero_add, truB, Bool.not_true, Bool.not_false, decide_true, decide_false, List.append_nil, Int.reduceLT, Int.reduceLE, Int.reduceNeg, Int.reduceEq, Int.reduceToNat, Nat.reduceLeDiff] $[$l:location]?)
local macro_rules | `(tactic| simp only [kiC, $ls,*] $[$l:location]?) => `(tactic| simp only [kC, $ls,*, F_, Em, K3, Pu, T7, ZW, ZX, ZZ, Qf, Za] $[$l:location]?)
local macro_rules | `(tactic| simp only [dK, $ls,*] $[$l:location]?) => `(tactic| simp only [cK, N8, Zq, Zr, DQ, Ff, OD, OJ, Ry, M5, vO, o9, xj, xm, vP, Oa, R1, $ls,*] $[$l:location]?)
local macro_rules | `(tactic| simp only [ciK, $ls,*] $[$l:location]?) => `(tactic| simp only [cK, F_, Em, K3, Pu, T7, ZW, ZX, ZZ, Qf, Za, $ls,*] $[$l:location]?)
local macro_rules | `(tactic| simp only [diK, $ls,*] $[$l:location]?) => `(tactic| simp only [dK, F_, Em, K3, Pu, T7, ZW, ZX, ZZ, Qf, Za, $ls,*] $[$l:location]?)
namespace K61
open PySem L2 PV
theorem qK (ns:List Int) (k:Nat):HY [.lst (ns.map .int),.int (k:Int)]=some (.int (ns.getD k 0)):=by
 by_cases h:k<ns.length
 ·have eg:ns.getD k 0=ns[k]:=by simp[h]
  rw[eg];have e:atI (ns.map D.int) (k:Int)=some (.int ns[k]):=by
   rw[vL (by omega) (by simpa using h)];simp[h]
  simp[HY,runF,JL,seqF,ifS,blF,bF,vF,uF,Ew,lenD,T7,h,retF,ixD,e]
 ·have eg:ns.getD k 0=0:=by simp[z1_.mp h]
  rw[eg];simp[HY,runF,JL,seqF,ifS,blF,bF,vF,uF,Ew,lenD,T7,h,retF,nxF,kF]
theorem v5 (x:Str):(cs x).length=x.length:=by simp[cs,z6D]
theorem aB (L:List D) (x:D) (h:L.length<=1000):appL (.lst L) x=some (.lst (L++[x])):=by
 unfold appL;show (if L.length<sizeLine then some (D.lst (L++[x])) else none)=_;rw[if_pos (z2Q h (by decide))]
theorem Lg (n:Nat) (t:Nat) (h:t<n):BZ [.int (n:Int),.int (t:Int)]=some .non:=by
 have c1:¬ ((t:Int)<0):=by omega
 have c2:¬ ((n:Int)<=t):=by omega
 simp only[ciK,BZ,GR,c1,c2]
theorem j9 {t:Nat}(h:t∉l):(.inl (t:Int):Key)∉(l.map λ (t:Nat)=>((.inl (t:Int):Key),D.bl true)).map (·.1):=by
 intro z;rw[z0p] at z;obtain⟨u,hu,e⟩:=z0f.mp z;simp at e;have e':u=t:=by omega
 exact h (e'▸hu)
theorem Uc (n:Nat) (x z0:Slot):∀ (r p:List Nat) (z:Slot),(p++r).Nodup->(∀ t∈r,t<n)->(p++r).length<=100 ->
  ∃ z',forF (tgB (Bv 3) Fj) (r.map iN) [.fz .(1),x,.ow (kM p),z]=some (.nx [.fz .(1),x,.ow (kM (p++r)),z'])
 | [],p,z,_,_,_=>⟨z,by rw[z1g];rfl⟩
 | t::r,p,z,nd,hl,hlen=>by
  have nt:t∉p:=by
   intro q;rw[z0W] at nd;exact nd.2.2 t q t (by simp) rfl
  have e1:=Lg n t (hl t (by simp));have e2:Df (kM p) (.int (t:Int)) (.bl true)=some (kM (p++[t])):=by
   show Df (.dk _) _ _=_;rw[vQ _ _ _ (by simp at hlen ⊢;omega),putL_new (j9 nt)];simp[kM]
  have b:Fj [.fz .(1),x,.ow (kM p),.fz (iN t)]=some (.nx [.fz .(1),x,.ow (kM (p++[t])),.fz (iN t)]):=by
   simp only[dK,Fj,e1,e2]
  obtain⟨z',ih⟩:=Uc n x z0 r (p++[t]) (.fz (iN t)) (by simpa using nd) (λ u hu=>hl u (by simp[hu])) (by simpa using hlen);refine⟨z',?_⟩
  w_up
  rw[b,Dv,ih];simp
theorem qL (n:Nat) (l:List Nat) (nd:l.Nodup) (hl:∀ t∈l,t<n) (hlen:l.length<=100):Dr [.int (n:Int),lM l]=some (kM l):=by
 obtain⟨z',e⟩:=Uc n (.fz (lM l)) .un l [] .un (by simpa using nd) hl (by simpa using hlen);rw[z1H] at e;have e0:(D.dk [])=kM []:=rfl;simp only[dK,Dr,Jd,e0,lM,e] at e ⊢
theorem j_ {t:Nat×Nat}{l:List (Nat×Nat)}(h:t∉l):[(.inl (t.1:Int):Key),.inl (t.2:Int)]∉(l.map λ (q:Nat×Nat)=>([(.inl (q.1:Int):Key),.inl (q.2:Int)],D.bl true)).map (·.1):=by
 intro z;rw[z0p] at z;obtain⟨u,hu,e⟩:=z0f.mp z;simp at e;have e':u=t:=by
  obtain⟨a,b⟩:=u;obtain⟨c,d⟩:=t;simp at e ⊢;omega
 exact h (e'▸hu)
theorem S5 (n:Nat) (x:Slot):∀ (r p:List (Nat×Nat)) (z z2:Slot),(p++r).Nodup->(∀ t∈r,t.1<n/\t.2<n)->(p++r).length<=100 ->
  ∃ z' z2',forF (tgB (tupG 2 (BK 3 (BK 4 nilG))) GX) (r.map pN) [.fz .(1),x,.ow (kT p),z,z2]=some (.nx [.fz .(1),x,.ow (kT (p++r)),z',z2'])
 | [],p,z,z2,_,_,_=>⟨z,z2,by rw[z1g];rfl⟩
 | t::r,p,z,z2,nd,hl,hlen=>by
  have nt:t∉p:=by
   intro q;rw[z0W] at nd;exact nd.2.2 t q t (by simp) rfl
  have e1:=Lg n t.1 (hl t (by simp)).1;have e1':=Lg n t.2 (hl t (by simp)).2;have e2:Nz (kT p) [.int (t.1:Int),.int (t.2:Int)] (.bl true)=some (kT (p++[t])):=by
   show Nz (.dt _) _ _=_;rw[vR _ _ _ _ (by simp at hlen ⊢;omega),putL_new (j_ nt)];simp[kT]
  have b:GX [.fz .(1),x,.ow (kT p),.fz (.int (t.1:Int)),.fz (.int (t.2:Int))]=some (.nx [.fz .(1),x,.ow (kT (p++[t])),.fz (.int (t.1:Int)),.fz (.int (t.2:Int))]):=by
   simp only[dK,GX,e1,e1',e2]
  obtain⟨z',z2',ih⟩:=S5 n x r (p++[t]) (.fz (.int (t.1:Int))) (.fz (.int (t.2:Int))) (by simpa using nd) (λ u hu=>hl u (by simp[hu])) (by simpa using hlen);refine⟨z',z2',?_⟩;rw[z0c,En,e_tg,Oa,KR];simp only[z1e,z1f];rw[b,Dv,ih];simp
theorem kE (n:Nat) (l:List (Nat×Nat)) (nd:l.Nodup) (hl:∀ t∈l,t.1<n/\t.2<n) (hlen:l.length<=100):Er [.int (n:Int),lT l]=some (kT l):=by
 obtain⟨z',z2',e⟩:=S5 n (.fz (lT l)) l [] .un .un (by simpa using nd) hl (by simpa using hlen);rw[z1H] at e;have e0:(D.dt [])=kT []:=rfl;simp only[dK,Er,J_,e0,lT,e] at e ⊢
theorem v6 (c:Nat):inD false (.str ⟨#[c]⟩) (.str LET)=some (.bl (!(z2J LET ⟨#[c]⟩ 0 LET.length 1).isEmpty)):=zE_ _
theorem v7:∀ c∈cs LET,(!(z2J LET ⟨#[c]⟩ 0 LET.length 1).isEmpty)=true:=by decide +kernel
theorem qM (h:x∉KEPT):inF false (.str x) c_KEPT_TEXTS=some (.bl false):=by
 have e:inF false (.str x) c_KEPT_TEXTS=inD false (.str x) (.lst (KEPT.map .str)):=rfl;rw[e,oh];have:(KEPT.any λ y=>y==x)=false:=by
  rw[z85];intro y hy hz;have:=beq_iff_eq.mp hz;exact h (this▸hy)
 rw[this]
theorem v8 (x:Str) (h:x.length<=10000000):lenE (.str x)=some (.int x.length):=xf x h
theorem aC (h:Wd x):Es [.str x]=some (.bl true):=by
 have k:=qM h.kept;have h1:=h.lo;have h2:=h.hi;have l:=v8 x (by omega);have c0:¬ ((x.length:Int)=0):=by omega
 have c8:¬ ((8:Int)<x.length):=by omega
 have cc:∀ l:List Nat,(∀ c∈l,c∈cs LET)->Jh [.fz (.str x)] allT HR (l.map λ c=>.str ⟨#[c]⟩)=some (l.map λ _=>.bl true):=by
  intro l
  induction l with
  | nil=>intro _;rfl
  | cons c r ih=>
   intro hl;have v:HR ([.fz (.str x)]++[.fz (.str ⟨#[c]⟩)])=some (.bl true):=by
    have e:inF false (.str ⟨#[c]⟩) (.str LET)=some (.bl true):=by
     show inD false (.str ⟨#[c]⟩) (.str LET)=_;rw[v6,v7 c (hl c (by simp))]
    have hL:(z0E "abcdefghijklmnopqrstuvwxyz")=LET:=rfl;simp only[cK,HR,hL,e]
   rw[z0c,J2,iR,v,ih λ d hd=>hl d (by simp[hd])];rfl
 have c1:Bb (seqA (vF 0)) allT HR [.fz (.str x)]=some (.lst ((cs x).map λ _=>.bl true)):=by
  refine Q7 (ds:=(cs x).map λ c=>.str ⟨#[c]⟩) (by rfl) (by rw[z07,v5];omega) (cc (cs x) h.isL)
 have al:∀ l:List Nat,allD (.lst (l.map λ _=>.bl true))=some (.bl true):=by
  intro l;have q:∀ l:List Nat,blsD (l.map λ _=>D.bl true)=some (l.map λ _=>true):=by
   intro l
   induction l with
   | nil=>rfl
   | cons c r ih=>simp[blsD,ih]
  show (blsD (l.map λ _=>D.bl true)).map _=_;rw[q];simp
 simp only[ciK,Es,QD,k,l,c0,c8,c1,al]
theorem S6 (i j:Int) (h:i<=j):Bj [.int i,.int j]=some .non:=by
 have c:¬ (j<i):=by omega
 simp only[ciK,Bj,Ii,c]
abbrev fS (n:Nat):Str×Bool×D:=("size",false,.int (n:Int))
abbrev fM (ms:List (Str×List Nat)):Str×Bool×D:=("marked",true,.dk (oM ms))
abbrev fT (ts:List (Str×List (Nat×Nat))):Str×Bool×D:=("tied",true,.dk (oT ts))
theorem q1:(("marked":Str)=="size")=false:=by decide +kernel
theorem q2:(("tied":Str)=="size")=false:=by decide +kernel
theorem q3:(("tied":Str)=="marked")=false:=by decide +kernel
theorem n1:¬ (("size":Str)="marked"):=by decide +kernel
theorem n2:¬ (("size":Str)="tied"):=by decide +kernel
theorem n3:¬ (("marked":Str)="tied"):=by decide +kernel
theorem lkM (n:Nat) (d e:D):z0m ("marked":Str) [fS n,("marked",true,d),("tied",true,e)]=some (true,d):=by
 rw[z0r,q1];show z0m ("marked":Str) [("marked",true,d),("tied",true,e)]=_;rw[z0r,show (("marked":Str)=="marked")=true by decide +kernel]
theorem lkT (n:Nat) (d e:D):z0m ("tied":Str) [fS n,("marked",true,d),("tied",true,e)]=some (true,e):=by
 rw[z0r,q2];show z0m ("tied":Str) [("marked",true,d),("tied",true,e)]=_;rw[z0r,q3];show z0m ("tied":Str) [("tied",true,e)]=_;rw[z0r,show (("tied":Str)=="tied")=true by decide +kernel]
theorem rpM (n:Nat) (d e d':D):repE "marked" d' [fS n,("marked",true,d),("tied",true,e)]=[fS n,("marked",true,d'),("tied",true,e)]:=by
 unfold repE repE;rw[if_neg n1,if_pos rfl]
theorem rpT (n:Nat) (d e e':D):repE "tied" e' [fS n,("marked",true,d),("tied",true,e)]=[fS n,("marked",true,d),("tied",true,e')]:=by
 unfold repE repE repE;rw[if_neg n2,if_neg n3,if_pos rfl]
theorem I_ {α:Type}{w:Str}(f:α->D) {l:List (Str×α)}(h:w∉l.map (·.1)):(.inr w:Key)∉(l.map λ p=>((.inr p.1:Key),f p.2)).map (·.1):=by
 intro z;rw[z0p] at z;obtain⟨u,hu,e⟩:=z0f.mp z;simp at e;exact h (z0f.mpr ⟨u,hu,e⟩)
theorem S7 (n:Nat) (hn:n<=5) (x:Addr) (a b:D) (e:D) (z6:Slot):∀ (r p:List (Str×List Nat)) (z4 z5:Slot),((p++r).map (·.1)).Nodup->(∀ q∈r,Wd q.1/\q.2.Nodup/\q.2.length<=100/\∀ t∈q.2,t<n)->(p++r).length<=3->(∀ d,z4≠.ow d)->(∀ d,z5≠.ow d)->(∀ d,z6≠.ow d) ->
  ∃ z4' z5',(∀ d,z4'≠.ow d)/\(∀ d,z5'≠.ow d)/\JH (tupG 2 (BK 4 (BK 5 nilG))) CT (r.map λ q=>.tup [.str q.1,lM q.2]) [.fz (.adr x),.fz .(1),.fz a,.fz b,z4,z5,z6] [fS n,fM p,("tied",true,e)]=some ([.fz (.adr x),.fz .(1),.fz a,.fz b,z4',z5',z6],[fS n,fM (p++r),("tied",true,e)])
 | [],p,z4,z5,_,_,_,h4,h5,_=>⟨z4,z5,h4,h5,by rw[z1g];rfl⟩
 | t::r,p,z4,z5,nd,hl,hlen,h4,h5,h6=>by
  obtain⟨w,l⟩:=t;obtain⟨hw,l1,l2,l3⟩:=hl (w,l) (by simp);have nt:w∉p.map (·.1):=by
   intro q;rw[z0S,z0W] at nd;exact nd.2.2 w q w (by simp) rfl
  have e1:=aC hw;have e2:=qL n l l1 l3 l2;have e3:Df (.dk (oM p)) (.str w) (kM l)=some (.dk (oM (p++[(w,l)]))):=by
   rw[M6 _ _ _ (by simp[oM] at hlen ⊢;omega)];have:(.inr w:Key)∉(oM p).map (·.1):=I_ kM nt;rw[putL_new this];simp[oM]
  have b0:CT [.fz (.adr x),.fz .(1),.fz a,.fz b,.fz (.str w),.fz (lM l),z6] [fS n,fM p,("tied",true,e)]=some ([.fz (.adr x),.fz .(1),.fz a,.fz b,.fz (.str w),.fz (lM l),z6],[fS n,fM (p++[(w,l)]),("tied",true,e)]):=by
   have t0:ifE (Rr (notT (trF (Am (Es) (Aa (vF 4) (nilA)))))) [.fz (.adr x),.fz .(1),.fz a,.fz b,.fz (.str w),.fz (lM l),z6] [fS n,fM p,("tied",true,e)]=some ([.fz (.adr x),.fz .(1),.fz a,.fz b,.fz (.str w),.fz (lM l),z6],[fS n,fM p,("tied",true,e)]):=by
    have:notT (trF (Am (Es) (Aa (vF 4) (nilA)))) [.fz (.adr x),.fz .(1),.fz a,.fz b,.fz (.str w),.fz (lM l),z6]=some false:=by simp only[cK,e1]
    unfold ifE Rr;rw[this]
   have t1:Qh "marked" (vF 4) (Am (Dr) (Aa (vF 1) (Aa (vF 5) (nilA)))) [.fz (.adr x),.fz .(1),.fz a,.fz b,.fz (.str w),.fz (lM l),z6] [fS n,fM p,("tied",true,e)]=some ([.fz (.adr x),.fz .(1),.fz a,.fz b,.fz (.str w),.fz (lM l),z6],[fS n,fM (p++[(w,l)]),("tied",true,e)]):=by
    have v1:Am (Dr) (Aa (vF 1) (Aa (vF 5) (nilA))) [.fz (.adr x),.fz .(1),.fz a,.fz b,.fz (.str w),.fz (lM l),z6]=some (kM l):=by simp only[cK,e2]
    have v2:vF 4 [.fz (.adr x),.fz .(1),.fz a,.fz b,.fz (.str w),.fz (lM l),z6]=some (.str w):=rfl;unfold Qh;rw[v1,v2];show (match z0m ("marked":Str) [fS n,fM p,("tied",true,e)] with | some (true,d)=>(Df d (.str w) (kM l)).map λ d'=>(_,repE "marked" d' [fS n,fM p,("tied",true,e)]) | _=>none)=_;rw[lkM];show (Df (.dk (oM p)) (.str w) (kM l)).map _=_;rw[e3];show some (_,repE "marked" _ [fS n,fM p,("tied",true,e)])=_;rw[rpM]
   unfold CT;rw[GD,t0,Dw,t1]
  obtain⟨z4',z5',g4,g5,ih⟩:=S7 n hn x a b e z6 r (p++[(w,l)]) (.fz (.str w)) (.fz (lM l)) (by simpa using nd) (λ u hu=>hl u (by simp[hu])) (by simpa using hlen) (λ d=>by simp) (λ d=>by simp) h6;refine⟨z4',z5',g4,g5,?_⟩;rw[z0c];unfold JH;rw[Oa];have no:noOw [.fz (.adr x),.fz .(1),.fz a,.fz b,.fz (.str w),.fz (lM l),z6]=true:=by
   unfold noOw;cases z6 with
   | ow d=>exact absurd rfl (h6 d)
   | un=>rfl
   | fz d=>rfl
  show (if noOw [.fz (.adr x),.fz .(1),.fz a,.fz b,.fz (.str w),.fz (lM l),z6]=true then (CT [.fz (.adr x),.fz .(1),.fz a,.fz b,.fz (.str w),.fz (lM l),z6] _).bind _ else none)=_;rw[if_pos no,b0];show JH _ _ _ _ _=_;rw[ih];simp
theorem Ud (n:Nat) (hn:n<=5) (x:Addr) (a b:D) (ms:List (Str×List Nat)) (z5:Slot) (h5:∀ d,z5≠.ow d):∀ (r p:List (Str×List (Nat×Nat))) (z4 z6:Slot),((p++r).map (·.1)).Nodup->(∀ q∈r,Wd q.1/\q.1∉ms.map (·.1)/\q.2.Nodup/\q.2.length<=100/\∀ t∈q.2,t.1<n/\t.2<n)->(p++r).length<=3->(∀ d,z4≠.ow d)->(∀ d,z6≠.ow d) ->
  ∃ z4' z6',JH (tupG 2 (BK 4 (BK 6 nilG))) CV (r.map λ q=>.tup [.str q.1,lT q.2]) [.fz (.adr x),.fz .(1),.fz a,.fz b,z4,z5,z6] [fS n,fM ms,fT p]=some ([.fz (.adr x),.fz .(1),.fz a,.fz b,z4',z5,z6'],[fS n,fM ms,fT (p++r)])
 | [],p,z4,z6,_,_,_,h4,h6=>⟨z4,z6,by rw[z1g];rfl⟩
 | t::r,p,z4,z6,nd,hl,hlen,h4,h6=>by
  obtain⟨w,l⟩:=t;obtain⟨hw,nm,l1,l2,l3⟩:=hl (w,l) (by simp);have nt:w∉p.map (·.1):=by
   intro q;rw[z0S,z0W] at nd;exact nd.2.2 w q w (by simp) rfl
  have e1:=aC hw;have e2:=kE n l l1 l3 l2;have e3:Df (.dk (oT p)) (.str w) (kT l)=some (.dk (oT (p++[(w,l)]))):=by
   rw[M6 _ _ _ (by simp[oT] at hlen ⊢;omega)];have:(.inr w:Key)∉(oT p).map (·.1):=I_ kT nt;rw[putL_new this];simp[oT]
  have e4:getK (.inr w:Key) (oM ms)=none:=Pz (I_ kM nm);have b0:CV [.fz (.adr x),.fz .(1),.fz a,.fz b,.fz (.str w),z5,.fz (lT l)] [fS n,fM ms,fT p]=some ([.fz (.adr x),.fz .(1),.fz a,.fz b,.fz (.str w),z5,.fz (lT l)],[fS n,fM ms,fT (p++[(w,l)])]):=by
   have t0:ifE (orTE (Rr (notT (trF (Am (Es) (Aa (vF 4) (nilA)))))) (inTE "marked" (vF 4))) [.fz (.adr x),.fz .(1),.fz a,.fz b,.fz (.str w),z5,.fz (lT l)] [fS n,fM ms,fT p]=some ([.fz (.adr x),.fz .(1),.fz a,.fz b,.fz (.str w),z5,.fz (lT l)],[fS n,fM ms,fT p]):=by
    have u1:notT (trF (Am (Es) (Aa (vF 4) (nilA)))) [.fz (.adr x),.fz .(1),.fz a,.fz b,.fz (.str w),z5,.fz (lT l)]=some false:=by simp only[cK,e1]
    have v2:vF 4 [.fz (.adr x),.fz .(1),.fz a,.fz b,.fz (.str w),z5,.fz (lT l)]=some (.str w):=rfl;have u2:inTE "marked" (vF 4) [.fz (.adr x),.fz .(1),.fz a,.fz b,.fz (.str w),z5,.fz (lT l)] [fS n,fM ms,fT p]=some false:=by
     unfold inTE;rw[v2];show (match z0m ("marked":Str) [fS n,fM ms,fT p] with | some (true,.dk kds)=>(keyD (.str w)).map λ q=>(getK q kds).isSome | _=>none)=_;rw[lkM];show some ((getK (.inr w:Key) (oM ms)).isSome)=_;rw[e4];rfl
    unfold ifE orTE Rr;rw[u1];show (match inTE "marked" (vF 4) _ _ with | some false=>some _ | _=>none)=_;rw[u2]
   have t1:Qh "tied" (vF 4) (Am (Er) (Aa (vF 1) (Aa (vF 6) (nilA)))) [.fz (.adr x),.fz .(1),.fz a,.fz b,.fz (.str w),z5,.fz (lT l)] [fS n,fM ms,fT p]=some ([.fz (.adr x),.fz .(1),.fz a,.fz b,.fz (.str w),z5,.fz (lT l)],[fS n,fM ms,fT (p++[(w,l)])]):=by
    have v1:Am (Er) (Aa (vF 1) (Aa (vF 6) (nilA))) [.fz (.adr x),.fz .(1),.fz a,.fz b,.fz (.str w),z5,.fz (lT l)]=some (kT l):=by simp only[cK,e2]
    have v2:vF 4 [.fz (.adr x),.fz .(1),.fz a,.fz b,.fz (.str w),z5,.fz (lT l)]=some (.str w):=rfl;unfold Qh;rw[v1,v2];show (match z0m ("tied":Str) [fS n,fM ms,fT p] with | some (true,d)=>(Df d (.str w) (kT l)).map λ d'=>(_,repE "tied" d' [fS n,fM ms,fT p]) | _=>none)=_;rw[lkT];show (Df (.dk (oT p)) (.str w) (kT l)).map _=_;rw[e3];show some (_,repE "tied" _ [fS n,fM ms,fT p])=_;rw[rpT]
   unfold CV;rw[GD,t0,Dw,t1]
  obtain⟨z4',z6',ih⟩:=Ud n hn x a b ms z5 h5 r (p++[(w,l)]) (.fz (.str w)) (.fz (lT l)) (by simpa using nd) (λ u hu=>hl u (by simp[hu])) (by simpa using hlen) (λ d=>by simp) (λ d=>by simp);refine⟨z4',z6',?_⟩;rw[z0c];unfold JH;have tg:tupG 2 (BK 4 (BK 6 nilG)) (.tup [.str w,lT l]) [.fz (.adr x),.fz .(1),.fz a,.fz b,z4,z5,z6]=some [.fz (.adr x),.fz .(1),.fz a,.fz b,.fz (.str w),z5,.fz (lT l)]:=by rw[Oa];rfl
  rw[tg];have no:noOw [.fz (.adr x),.fz .(1),.fz a,.fz b,.fz (.str w),z5,.fz (lT l)]=true:=by
   unfold noOw;cases z5 with
   | ow d=>exact absurd rfl (h5 d)
   | un=>rfl
   | fz d=>rfl
  show (if noOw [.fz (.adr x),.fz .(1),.fz a,.fz b,.fz (.str w),z5,.fz (lT l)]=true then (CV [.fz (.adr x),.fz .(1),.fz a,.fz b,.fz (.str w),z5,.fz (lT l)] _).bind _ else none)=_;rw[if_pos no,b0];show JH _ _ _ _ _=_;rw[ih];simp
theorem aD (W:Wl) (h:WOk W) (x:Addr):CK x [.int (W.n:Int),.dk (eM W.ms),.dk (eT W.ts)]=some [fS W.n,fM W.ms,fT W.ts]:=by
 have ndm:(W.ms.map (·.1)).Nodup:=(z0W.mp h.nd).1;have ndt:(W.ts.map (·.1)).Nodup:=(z0W.mp h.nd).2.1;obtain⟨z4,z5,g4,g5,m⟩:=S7 W.n h.n5 x .(26) .(25) (.dk []) .un W.ms [] .un .un (by simpa using ndm) (λ q hq=>⟨h.mw q hq,h.ml q hq⟩) (by simpa using h.m3) (λ d=>by simp) (λ d=>by simp) (λ d=>by simp);obtain⟨z4',z6',t⟩:=Ud W.n h.n5 x .(26) .(25) W.ms z5 g5 W.ts [] z4 .un (by simpa using ndt) (λ q hq=>⟨h.tw q hq,λ z=>(z0W.mp h.nd).2.2 q.1 z q.1 (z0f.mpr ⟨q,hq,rfl⟩) rfl,h.tl q hq⟩) (by simpa using h.t3) g4 (λ d=>by simp);rw[z1H] at m t;change JH _ _ _ _ [fS W.n,fM [],fT []]=some (_,[fS W.n,fM W.ms,fT []]) at m;have r1:=S6 (W.n:Int) 5 (by have:=h.n5;omega);have r2:=S6 ((eM W.ms).length:Int) 3 (by have:=h.m3;simp[eM];omega);have r3:=S6 ((eT W.ts).length:Int) 3 (by have:=h.t3;simp[eT];omega);have no:noOw [.fz (.adr x),.fz .(32),.fz .(26),.fz .(25),.un,.un,.un]=true:=rfl;have p1:pureE (Fw (Am (Bj) (Aa (vF 1) (Aa (kF (.int 5)) (nilA))))) [.fz (.adr x),.fz .(32),.fz .(26),.fz .(25),.un,.un,.un] []=some ([.fz (.adr x),.fz .(32),.fz .(26),.fz .(25),.un,.un,.un],[]):=VF (by simp only[cK,r1]) no;have p2:pureE (Fw (Am (Bj) (Aa (uF lenE (vF 2)) (Aa (kF (.int 3)) (nilA))))) [.fz (.adr x),.fz .(32),.fz .(26),.fz .(25),.un,.un,.un] []=some ([.fz (.adr x),.fz .(32),.fz .(26),.fz .(25),.un,.un,.un],[]):=VF (by simp only[dK,r2]) no;have p3:pureE (Fw (Am (Bj) (Aa (uF lenE (vF 3)) (Aa (kF (.int 3)) (nilA))))) [.fz (.adr x),.fz .(32),.fz .(26),.fz .(25),.un,.un,.un] []=some ([.fz (.adr x),.fz .(32),.fz .(26),.fz .(25),.un,.un,.un],[]):=VF (by simp only[dK,r3]) no;have s1:IW "size" (vF 1) [.fz (.adr x),.fz .(32),.fz .(26),.fz .(25),.un,.un,.un] []=some ([.fz (.adr x),.fz .(32),.fz .(26),.fz .(25),.un,.un,.un],[fS W.n]):=rfl;have s2:Qg "marked" (kF (.dk [])) [.fz (.adr x),.fz .(32),.fz .(26),.fz .(25),.un,.un,.un] [fS W.n]=some ([.fz (.adr x),.fz .(32),.fz .(26),.fz .(25),.un,.un,.un],[fS W.n,fM []]):=by
  have l:z0m ("marked":Str) [fS W.n]=none:=by
   rw[z0r,q1];rfl
  unfold Qg;show (if (z0m ("marked":Str) [fS W.n]).isNone=true/\[fS W.n].length<1000 then some (_,[fS W.n]++[(("marked":Str),true,D.dk [])]) else none)=_;rw[l,if_pos ⟨rfl,(by show 1<1000;decide)⟩];rfl
 have s3:Qg "tied" (kF (.dk [])) [.fz (.adr x),.fz .(32),.fz .(26),.fz .(25),.un,.un,.un] [fS W.n,fM []]=some ([.fz (.adr x),.fz .(32),.fz .(26),.fz .(25),.un,.un,.un],[fS W.n,fM [],fT []]):=by
  have l:z0m ("tied":Str) [fS W.n,fM []]=none:=by
   rw[z0r,q2];show z0m ("tied":Str) [fM []]=none;rw[z0r,q3];rfl
  unfold Qg;show (if (z0m ("tied":Str) [fS W.n,fM []]).isNone=true/\[fS W.n,fM []].length<1000 then some (_,[fS W.n,fM []]++[(("tied":Str),true,D.dk [])]) else none)=_;rw[l,if_pos ⟨rfl,(by show 2<1000;decide)⟩];rfl
 have i1:Pk (vF 2) [.fz (.adr x),.fz .(32),.fz .(26),.fz .(25),.un,.un,.un]=some (W.ms.map λ q=>.tup [.str q.1,lM q.2]):=by
  show some ((eM W.ms).map λ p=>D.tup [kDt p.1,p.2])=_;simp only[eM,z0p,z0V,R1]
 have i2:Pk (vF 3) [.fz (.adr x),.fz .(32),.fz .(26),.fz .(25),z4,z5,.un]=some (W.ts.map λ q=>.tup [.str q.1,lT q.2]):=by
  show some ((eT W.ts).map λ p=>D.tup [kDt p.1,p.2])=_;simp only[eT,z0p,z0V,R1]
 have st:Rt 7 x [.int (W.n:Int),.dk (eM W.ms),.dk (eT W.ts)]=[.fz (.adr x),.fz .(32),.fz .(26),.fz .(25),.un,.un,.un]:=rfl;unfold CK runI;rw[if_pos (show [D.int (W.n:Int),.dk (eM W.ms),.dk (eT W.ts)].length+1=4 from rfl),st];unfold Gv;rw[GD,p1,Dw,GD,p2,Dw,GD,p3,Dw,GD,s1,Dw,GD,s2,Dw,GD,s3,Dw,GD,iw i1,m,Dw,GD,iw i2,t,Dw,iu];rfl
theorem tQ (W:Wl) (h:WOk W) (fs:FA) (ρ:Rho) (hf:fs ρ=some [.int (W.n:Int),.dk (eM W.ms),.dk (eT W.ts)]):mkI "World" CK fs ρ=some (wob W):=by
 unfold mkI;rw[hf];simp only[z0M,aD W h 0];rw[if_pos (λ x=>aD W h x)];rfl
theorem Ma (f:Nat->Bool) (h:Nat->D) (src:FI) (hs:src ρ=some (rngD n)) (hn:n<=1000) (h1:∀ k,k<n->ga (ρ++[.fz (.int k)])=some (f k)) (h2:∀ k,k<n->fe (ρ++[.fz (.int k)])=some (h k)):Bb src ga fe ρ=some (.lst (((z0d n).filter f).map h)):=by
 have c:∀ l:List Nat,(∀ k∈l,k<n)->Jh ρ ga fe (l.map λ (k:Nat)=>D.int k)=some ((l.filter f).map h):=by
  intro l
  induction l with
  | nil=>intro _;rfl
  | cons k r ih=>
   intro hl;rw[z0c,J2,h1 k (hl k (by simp)),h2 k (hl k (by simp)),ih λ d hd=>hl d (by simp[hd]),z9B];cases f k<;>rfl
 exact Q7 hs (by rw[K5];omega) (c (z0d n) λ k hk=>z0o.mp hk)
theorem cY {l:List Str}(nd:l.Nodup) {i j:Nat}(hi:i<l.length) (hj:j<l.length) (e:l[i]=l[j]):i=j:=by
 have h:=z3Z.mp nd
 rcases z5u i j with z | z | z
 ·exact absurd e (h i j hi hj z)
 ·exact z
 ·exact absurd e.symm (h j i hj hi z)
theorem JB (n:Nat) (f:Nat->Bool):((z0d n).filter f).Nodup:=z7E z9C z4y
theorem Vk (n:Nat) (hn:n<=100) (ρ:Rho) (i:Nat) (h:ρ[i]?=some (.fz .(1))):rngI (vF i) ρ=some (rngD n):=by
 have rg:=U9 (n:Int) (by omega);simp only[Rp,e_v,h,e_vs,rg,z1a]
theorem PJ {k:Nat}(h:k<ws.length):ixE (.lst (ws.map .str)) (.int (k:Int))=some (.str ws[k]):=by
 show atI (ws.map D.str) (k:Int)=_;rw[YH,z0q];simp[h]
theorem Yi {α:Type}(f:α->D) (w:Str):∀ (l:List (Str×α)),getK (.inr w:Key) (l.map λ p=>((.inr p.1:Key),f p.2))=(l.find? (λ p=>p.1=w)).map λ p=>f p.2
 | []=>rfl
 | p::r=>by
  rw[z0c,z3h];show (if (.inr p.1:Key)=.inr w then some (f p.2) else getK (.inr w:Key) (r.map λ p=>((.inr p.1:Key),f p.2)))=_
  by_cases h:p.1=w
  ·simp[h]
  ·have:¬ ((.inr p.1:Key)=.inr w):=λ z=>h (z5_ z);rw[if_neg this,Yi f w r];simp[h]
theorem Ho (W:Wl):fldD "size" (wob W)=some .(32):=by
 show z0m ("size":Str) _=_;rfl
theorem S8 (W:Wl):fldD "marked" (wob W)=some (.dk (oM W.ms)):=by
 show z0m ("marked":Str) [(("size":Str),D.int (W.n:Int)),("marked",.dk (oM W.ms)),("tied",.dk (oT W.ts))]=_;simp only[z0m,q1];rfl
theorem Yj (W:Wl):fldD "tied" (wob W)=some (.dk (oT W.ts)):=by
 show z0m ("tied":Str) [(("size":Str),D.int (W.n:Int)),("marked",.dk (oM W.ms)),("tied",.dk (oT W.ts))]=_;simp only[z0m,q2,q3];rfl
theorem qN (x:Nat) (l:List Nat):inF false (.int (x:Int)) (lM l)=some (.bl (l.any λ t=>decide (t=x))):=by
 have h:∀ ys:List Nat,flVs (ys.map iN)=some (ys.map λ (t:Nat)=>V.int t):=λ ys=>by
  induction ys with
  | nil=>rfl
  | cons y r ih=>simp[flVs,flV,ih]
 show ((flV (.int (x:Int))).bind λ v=>(flVs (l.map iN)).map λ vs=>D.bl (inV v vs))=_;rw[h];show some (D.bl (inV (.int (x:Int)) (l.map λ (t:Nat)=>V.int t)))=_;have e:∀ t:Nat,eqV (.int (t:Int)) (.int (x:Int))=decide (t=x):=λ t=>by
  by_cases z:t=x
  ·subst z;simp[eqV]
  ·have:¬ ((t:Int)=(x:Int)):=by omega
   simp[eqV,z,this]
 simp only[inV,z75,z0V,e]
theorem kI (x y:Nat) (l:List (Nat×Nat)):inF false (.tup [.int (x:Int),.int (y:Int)]) (lT l)=some (.bl (l.any λ q=>decide (q.1=x)&&decide (q.2=y))):=by
 have k:∀ q:Nat×Nat,eqK 62 (pN q) (.tup [.int (x:Int),.int (y:Int)])=some (decide (q.1=x)&&decide (q.2=y)):=λ q=>by
  have e:∀ a b:Nat,eqK 61 (.int (a:Int)) (.int (b:Int))=some (decide (a=b)):=λ a b=>by
   show some (eqV (.int (a:Int)) (.int (b:Int)))=_
   by_cases z:a=b
   ·subst z;simp[eqV]
   ·have:¬ ((a:Int)=(b:Int)):=by omega
    simp[eqV,z,this]
  show (if 2=2 then allO (eqK 61) [.int (q.1:Int),.int (q.2:Int)] [.int (x:Int),.int (y:Int)] else none)=_;rw[if_pos rfl];simp only[allO,e];cases decide (q.1=x)<;>cases decide (q.2=y)<;>rfl
 have h1:(l.map pN).all (knows (.tup [.int (x:Int),.int (y:Int)]))=true:=by
  rw[z1c];intro d hd;obtain⟨q,_,rfl⟩:=z0f.mp hd;unfold knows;rw[k q];rfl
 have h2:(l.map pN).any (eqTo (.tup [.int (x:Int),.int (y:Int)]))=l.any λ q=>decide (q.1=x)&&decide (q.2=y):=by
  rw[z75];congr 1;funext q;show eqTo _ (pN q)=_;unfold eqTo;rw[k q]
 show (if (l.map pN).all (knows (.tup [.int (x:Int),.int (y:Int)]))=true then some (D.bl ((l.map pN).any (eqTo (.tup [.int (x:Int),.int (y:Int)])))) else none)=_;rw[if_pos h1,h2]
theorem yH (x:Nat) (l:List Nat):inF false (.int (x:Int)) (kM l)=some (.bl (l.any λ t=>decide (t=x))):=by
 have h:∀ l:List Nat,(getK (.inl (x:Int):Key) (l.map λ (t:Nat)=>((.inl (t:Int):Key),D.bl true))).isSome=l.any λ t=>decide (t=x):=λ l=>by
  induction l with
  | nil=>rfl
  | cons t r ih=>
   rw[z0c,z3g,<-ih];show (if (.inl (t:Int):Key)=.inl (x:Int) then _ else _:Option D).isSome=_
   by_cases z:t=x
   ·subst z;simp
   ·have:¬ ((.inl (t:Int):Key)=.inl (x:Int)):=λ q=>z (by have:=z47 q;omega);rw[if_neg this];simp[z]
 show inF false (.int (x:Int)) (.dk _)=_;rw[Zr];simp only[z0G,if_false,h]
theorem Dt {α:Type}(l:List α) (e g:α->D) (hs:src ρ=some (l.map e)) (hn:l.length<=1000) (h:∀ x∈l,fe (ρ++[.fz (e x)])=some (g x)):Bb src allT fe ρ=some (.lst (l.map g)):=by
 have c:∀ l:List α,(∀ x∈l,fe (ρ++[.fz (e x)])=some (g x))->Jh ρ allT fe (l.map e)=some (l.map g):=by
  intro l
  induction l with
  | nil=>intro _;rfl
  | cons x r ih=>
   intro hl;rw[z0c,J2,hl x (by simp),ih λ d hd=>hl d (by simp[hd])];rfl
 exact Q7 hs (by rw[z07];omega) (c l h)
theorem Vl (os:List Nat) (t:Nat) (h:t<os.length):ixE (lN os) (.int (t:Int))=some (iN (os.getD t 0)):=by
 show atI (os.map iN) (t:Int)=_;rw[YH,z0q];simp[h]
theorem kJ {α:Type}(f:α->D) {l:List (Str×α)}(h:(l.map (·.1)).Nodup):((l.map λ p=>((.inr p.1:Key),f p.2)).map (·.1)).Nodup:=by
 unfold z2e at h ⊢;rw[z1B] at h;rw[z0p,z1B];exact h.imp λ hab e=>hab (z5_ e)
theorem at_M (W:Wl) (h:WOk W) {p:Str×List Nat}(hp:p∈W.ms):ixE .(26) (.str p.1)=some (lM p.2):=by
 rw[N8];exact VD (kJ lM (z0W.mp h.nd).1) (z0f.mpr ⟨p,hp,rfl⟩)
theorem at_T (W:Wl) (h:WOk W) {p:Str×List (Nat×Nat)}(hp:p∈W.ts):ixE .(25) (.str p.1)=some (lT p.2):=by
 rw[N8];exact VD (kJ lT (z0W.mp h.nd).2.1) (z0f.mpr ⟨p,hp,rfl⟩)
theorem aF (k:List (Key×D)):K1 (.dk k)=some (.lst (k.map λ p=>kDt p.1)):=zE_ _
theorem in_i (t:Nat) (l:List Nat):inF false (iN t) (.lst (l.map iN))=some (.bl (decide (t∈l))):=by
 have:=qN t l;unfold lM at this;rw[this];congr 2;rw[z1W];simp
theorem in_p (t:Nat×Nat) (l:List (Nat×Nat)):inF false (pN t) (.lst (l.map pN))=some (.bl (decide (t∈l))):=by
 have:=kI t.1 t.2 l;unfold lT at this;rw[this];congr 2;rw[z1W];simp
theorem W_:∀ {l m:List Nat},l.Nodup->(∀ x∈l,x∈m)->l.length<=m.length
 | [],_,_,_=>z19 _
 | x::r,m,h,hs=>by
  obtain⟨h1,h2⟩:=z2m.mp h;have hx:x∈m:=hs x z0O;have:=W_ (l:=r) (m:=m.erase x) h2 λ y hy=>(z5v (λ e=>by subst e;exact h1 hy)).mpr (hs y (z0y _ hy));rw[z5w hx] at this;have hp:0<m.length:=z5x hx;simp;omega
theorem Nh {α:Type}{l:List α}(nd:l.Nodup) {i j:Nat}(hi:i<l.length) (hj:j<l.length) (e:l[i]=l[j]):i=j:=by
 have h:=z3Z.mp nd
 rcases z5u i j with z | z | z
 ·exact absurd e (h i j hi hj z)
 ·exact z
 ·exact absurd e.symm (h j i hj hi z)
theorem Vm (nd:l.Nodup) (h:∀ t∈l,t<n):l.length<=n:=by
 have:=W_ nd λ t ht=>z0o.mpr (h t ht);simpa using this
theorem kO {l:List (Nat×Nat)}(nd:l.Nodup) (h:∀ q∈l,q.1<n/\q.2<n):l.length<=n*n:=by
 have e:(l.map λ q=>q.1*n+q.2).Nodup:=by
  unfold z2e;rw[z1B];refine z2X (λ {a b} ha hb hab e=>hab ?_) nd;have h1:=h a ha;have h2:=h b hb;have d1:(a.1*n+a.2)/n=a.1:=by rw[z5T,z9D (by omega),z9E h1.2];omega
  have d2:(b.1*n+b.2)/n=b.1:=by rw[z5T,z9D (by omega),z9E h2.2];omega
  have m1:(a.1*n+a.2)%n=a.2:=by rw[z5T,z9F,z9G h1.2]
  have m2:(b.1*n+b.2)%n=b.2:=by rw[z5T,z9F,z9G h2.2]
  have e':a.1*n+a.2=b.1*n+b.2:=e;rw[e'] at d1 m1;exact z3e (d1.symm.trans d2) (m1.symm.trans m2)
 have:=Vm (n:=n*n) e λ t ht=>by
  obtain⟨q,hq,rfl⟩:=z0f.mp ht;have:=h q hq
  calc q.1*n+q.2<q.1*n+n:=by omega
   _=(q.1+1)*n:=by rw[Nat.add_mul,Nat.one_mul]
   _<=n*n:=Nat.mul_le_mul_right _ (by omega)
 simpa using this
theorem QS (W:Wl) (h:WOk W) (ms:List (Str×List Nat)) (ts:List (Str×List (Nat×Nat))) (hm:(ms.map (·.1)).Perm (W.ms.map (·.1))) (ht:(ts.map (·.1)).Perm (W.ts.map (·.1))) (am:∀ p∈ms,p.2.Nodup/\∀ t∈p.2,t<W.n) (at':∀ p∈ts,p.2.Nodup/\∀ q∈p.2,q.1<W.n/\q.2<W.n):WOk ⟨W.n,ms,ts⟩:=by
 refine⟨h.n5,?_,?_,λ p hp=>?_,λ p hp=>?_,?_,λ p hp=>⟨(am p hp).1,?_,(am p hp).2⟩,λ p hp=>⟨(at' p hp).1,?_,(at' p hp).2⟩⟩
 ·have:=hm.length_eq;simp at this;have:=h.m3;show ms.length<=3;omega
 ·have:=ht.length_eq;simp at this;have:=h.t3;show ts.length<=3;omega
 ·obtain⟨q,hq,e⟩:=z0f.mp (hm.mem_iff.mp (z0f.mpr ⟨p,hp,rfl⟩));rw[<-e];exact h.mw q hq
 ·obtain⟨q,hq,e⟩:=z0f.mp (ht.mem_iff.mp (z0f.mpr ⟨p,hp,rfl⟩));rw[<-e];exact h.tw q hq
 ·exact ((hm.append ht).nodup_iff).mpr h.nd
 ·have:=Vm (am p hp).1 (am p hp).2;have:=h.n5;omega
 ·have:=kO (at' p hp).1 (at' p hp).2;have h5:=h.n5;have:W.n*W.n<=25:=Nat.mul_le_mul h5 h5;omega
theorem S9 {os:List Nat}(h:os.Perm (z0d n)) {s t:Nat}(hs:s<n) (ht:t<n) (e:os.getD s 0=os.getD t 0):s=t:=by
 have hl:os.length=n:=by have:=h.length_eq;simpa using this
 have nd:os.Nodup:=h.nodup_iff.mpr z4y;rw[z3v,z3v,z0F (by omega),z0F (by omega)] at e;exact Nh nd _ _ e
theorem Vn {os:List Nat}(h:os.Perm (z0d n)) {s:Nat}(hs:s<n):os.getD s 0<n:=by
 have hl:os.length=n:=by have:=h.length_eq;simpa using this
 rw[z3v,z0F (by omega)];exact z0o.mp (h.mem_iff.mp (z1d (by omega)))
theorem yI (x y:Nat) (l:List (Nat×Nat)):inTO (some [.int (x:Int),.int (y:Int)]) (some (kT l))=some (.bl (l.any λ q=>decide (q.1=x)&&decide (q.2=y))):=by
 have h:∀ l:List (Nat×Nat),(getK [(.inl (x:Int):Key),.inl (y:Int)] (l.map λ (q:Nat×Nat)=>([(.inl (q.1:Int):Key),.inl (q.2:Int)],D.bl true))).isSome=l.any λ q=>decide (q.1=x)&&decide (q.2=y):=λ l=>by
  induction l with
  | nil=>rfl
  | cons t r ih=>
   rw[z0c,z3g,<-ih];show (if [(.inl (t.1:Int):Key),.inl (t.2:Int)]=[.inl (x:Int),.inl (y:Int)] then _ else _:Option D).isSome=_
   by_cases z:t.1=x/\t.2=y
   ·obtain⟨z1,z2⟩:=z;subst z1 z2;simp
   ·have:¬ ([(.inl (t.1:Int):Key),.inl (t.2:Int)]=[.inl (x:Int),.inl (y:Int)]):=λ q=>by
     simp only[z4T,Sum.inl.injEq,and_true] at q;exact z ⟨by omega,by omega⟩
    rw[if_neg this];have:(decide (t.1=x)&&decide (t.2=y))=false:=by
     rw[Bool.and_eq_false_iff]
     by_cases z1:t.1=x
     ·right;exact decide_eq_false λ z2=>z ⟨z1,z2⟩
     ·left;exact decide_eq_false z1
    rw[this,z8i]
 have e:inTO (some [.int (x:Int),.int (y:Int)]) (some (kT l))=some (.bl ((getK [(.inl (x:Int):Key),.inl (y:Int)] (l.map λ (q:Nat×Nat)=>([(.inl (q.1:Int):Key),.inl (q.2:Int)],D.bl true))).isSome)):=by
  unfold kT inTO;simp only[z0M];rw[if_pos (N5 (by show 2<=10000000;decide))];rfl
 rw[e,h]
theorem yJ (fs:FA) (fb:FE) (ρ:Rho):inTF fs fb ρ=inTO (fs ρ) (fb ρ):=zE_ _
theorem XD (ms:List (Str×List Nat)):(oM ms).map (λ p=>kDt p.1)=(ms.map (·.1)).map .str:=by simp[oM,R1]
theorem XF (ts:List (Str×List (Nat×Nat))):(oT ts).map (λ p=>kDt p.1)=(ts.map (·.1)).map .str:=by simp[oT,R1]
theorem kW {k:List (Key×D)}{zs:List Str}(h:k.map (λ p=>kDt p.1)=zs.map .str) (nd:zs.Nodup) (hl:zs.length<=60):sdkD (.dk k)=some (.lst ((Fz zs).map .str)):=by
 show sdkL k=_;unfold sdkL;rw[h,cF,z0M,if_pos ⟨nd,hl⟩]
theorem qO (i:Nat) (l:List Nat):(l.any λ t=>decide (t=i))=decide (i∈l):=by
 rw[z1W];simp
theorem kZ (i j:Nat) (l:List (Nat×Nat)):(l.any λ q=>decide (q.1=i)&&decide (q.2=j))=decide ((i,j)∈l):=by
 rw[z1W];simp
theorem aG {α:Type}{w:Str}{l:List (Str×α)}(h:w∈l.map (·.1)):∃ q,q∈l/\l.find? (λ p=>p.1=w)=some q:=by
 obtain⟨p,hp,e⟩:=z0f.mp h;cases q:l.find? (λ p=>p.1=w) with
 | none=>exact absurd (by simpa using e) (by simpa using z7e.mp q p hp)
 | some x=>exact⟨x,z5A q,rfl⟩
theorem tR (W:Wl) {w:Str}(h:w∈mw W) (i:Nat):∃ d,ixE (.dk (oM W.ms)) (.str w)=some d/\inF false (.int (i:Int)) d=some (.bl (mk W w i)):=by
 obtain⟨q,_,e⟩:=aG h;refine⟨kM q.2,?_,?_⟩
 ·rw[N8];unfold oM;rw[Yi kM w,e];rfl
 ·rw[yH,qO,mk,e]
theorem tU (W:Wl) {w:Str}(h:w∈tw W) (i j:Nat):∃ d,ixE (.dk (oT W.ts)) (.str w)=some d/\inTO (some [.int (i:Int),.int (j:Int)]) (some d)=some (.bl (tk W w i j)):=by
 obtain⟨q,_,e⟩:=aG h;refine⟨kT q.2,?_,?_⟩
 ·rw[N8];unfold oT;rw[Yi kT w,e];rfl
 ·rw[yI,kZ,tk,e]
theorem S_ {α:Type}{tg:FG}{b:FS}(mr:PV.Slot->Rho) (e:α->D) (P:α->Bool) (r:D) (ht:∀ d z,tg d (mr z)=some (mr (.fz d))):∀ (l:List α) (z:PV.Slot),(∀ x∈l,b (mr (.fz (e x)))=some (if P x=true then .nx (mr (.fz (e x))) else .rt r (mr (.fz (e x))))) ->
  ∃ z',forF (tgB tg b) (l.map e) (mr z)=some (if l.all P=true then .nx (mr z') else .rt r (mr z'))
 | [],z,_=>⟨z,rfl⟩
 | x::l,z,h=>by
  rw[z0c,En,e_tg,ht,KR,h x (by simp),z4n];cases hx:P x with
  | false=>exact⟨_,rfl⟩
  | true=>
   obtain⟨z',ih⟩:=S_ mr e P r ht l (.fz (e x)) λ y hy=>h y (by simp[hy]);exact⟨z',by rw[if_pos rfl,Dv,ih,z42]⟩
theorem kh (a b:Bool):eqD true (.bl a) (.bl b)=some (.bl (!(a==b))):=by cases a<;>cases b<;>rfl
structure Sp (W V:Wl):Prop where
 mm:∀ w∈mw W,w∈mw V
 tt:∀ w∈tw W,w∈tw V
theorem ixp0 (q:Pr):ixE (pN q) (.int 0)=some (.int (q.1:Int)):=rfl
theorem ixp1 (q:Pr):ixE (pN q) (.int 1)=some (.int (q.2:Int)):=rfl
theorem aH (W V:Wl) (h:Sp W V) (q:Pr):Fo [wob W,wob V,pN q]=some (.bl (SX W V q)):=by
 have m1:=S8 W;have m2:=S8 V;have i0:=ixp0 q;have i1:=ixp1 q;have n1:=XD W.ms;obtain⟨z',e⟩:=S_ (tg:=Bv 3) (b:=Ga) (λ z=>[.fz (wob W),.fz (wob V),.fz (pN q),z]) D.str (λ w=>mk W w q.1==mk V w q.2) (.bl false) (λ d z=>rfl) (mw W) .un λ w hw=>by
  obtain⟨d1,a1,a2⟩:=tR W hw q.1;obtain⟨d2,b1,b2⟩:=tR V (h.mm w hw) q.2;simp only[cK,Ga,m1,m2,i0,i1,a1,a2,b1,b2,kh];cases (mk W w q.1==mk V w q.2)<;>rfl
 have q1:N_ (some (D.dk (oM W.ms)))=some ((mw W).map .str):=by rw[OJ,n1]
 simp only[cK,Fo,Hj,DQ,m1,q1,e];show _=some (D.bl ((mw W).all λ w=>mk W w q.1==mk V w q.2));cases (mw W).all (λ w=>mk W w q.1==mk V w q.2)<;>rfl
theorem RG (W V:Wl) (h:Sp W V) (p q:Pr):Cd [wob W,wob V,pN p,pN q]=some (.bl (KY W V p q)):=by
 have m1:=Yj W;have m2:=Yj V;have i0:=ixp0 p;have i1:=ixp1 p;have j0:=ixp0 q;have j1:=ixp1 q;have n1:=XF W.ts;obtain⟨z',e⟩:=S_ (tg:=Bv 4) (b:=Gb) (λ z=>[.fz (wob W),.fz (wob V),.fz (pN p),.fz (pN q),z]) D.str (λ w=>tk W w p.1 q.1==tk V w p.2 q.2) (.bl false) (λ d z=>rfl) (tw W) .un λ w hw=>by
  obtain⟨d1,a1,a2⟩:=tU W hw p.1 q.1;obtain⟨d2,b1,b2⟩:=tU V (h.tt w hw) p.2 q.2;simp only[cK,Gb,yJ,m1,m2,i0,i1,j0,j1,a1,a2,b1,b2,kh];cases (tk W w p.1 q.1==tk V w p.2 q.2)<;>rfl
 have q1:N_ (some (D.dk (oT W.ts)))=some ((tw W).map .str):=by rw[OJ,n1]
 simp only[cK,Cd,Hk,DQ,m1,q1,e];show _=some (D.bl ((tw W).all λ w=>tk W w p.1 q.1==tk V w p.2 q.2));cases (tw W).all (λ w=>tk W w p.1 q.1==tk V w p.2 q.2)<;>rfl
theorem Vo (a b:Nat):decide ((a:Int)=(b:Int))=decide (a=b):=by
 by_cases z:a=b
 ·subst z;simp
 ·rw[decide_eq_false z,decide_eq_false (by omega)]
theorem tV (W V:Wl) (h:Sp W V) (p q:Pr):G_ [wob W,wob V,pN p,pN q]=some (.bl (goB W V p q)):=by
 have i0:=ixp0 p;have i1:=ixp1 p;have j0:=ixp0 q;have j1:=ixp1 q;have l1:=RG W V h p q;have l2:=RG W V h q p;simp only[ciK,G_,Je,i0,i1,j0,j1,Vo,kh];unfold goB;cases hx:(decide (p.1=q.1)==decide (p.2=q.2)) with
 | false=>rfl
 | true=>
  simp only[cK,l1,l2];cases KY W V p q with
  | false=>rfl
  | true=>simp only[cK,l2,z42]
theorem Vp {α:Type}(f:α->Bool) (l:List α):allD (.lst (l.map λ x=>.bl (f x)))=some (.bl (l.all f)):=by
 show (blsD _).map _=_;rw[Z6];simp[z0V]
theorem yK (W V:Wl) (h:Sp W V) (ps:List Pr) (hl:ps.length<=1000) (q:Pr):Eb [wob W,wob V,.lst .(12),pN q]=some (.bl (fwB W V ps q)):=by
 have b1:=aH W V h q;have l1:=RG W V h q q;have cm:Bb (seqA (vF 2)) allT FN [.fz (wob W),.fz (wob V),.fz (.lst .(12)),.fz (pN q)]=some (.lst (ps.map λ p=>.bl (goB W V p q))):=
  Dt ps pN (λ p=>.bl (goB W V p q)) (by simp only[cK,DQ,Ff]) hl λ p _=>by
   have g:=tV W V h p q;simp only[cK,FN,g]
 have al:=Vp (λ p=>goB W V p q) ps;unfold fwB;simp only[cK,Eb,JK,b1];cases SX W V q with
 | false=>simp only[cK,z4c]
 | true=>
  simp only[cK,l1];cases KY W V q q with
  | false=>simp only[cK,z42,z4c]
  | true=>simp only[cK,cm,al,z42]
def mzO (c m:Str) (g:List D->Option D) (o:Option D) (ds:Option (List D)):Option D:=o.bind λ o=>if Dg c m o=true then ds.bind λ ds=>g (o::ds) else none
theorem Gm (c m:Str) (g:List D->Option D) (fo:FE) (fs:FA) (ρ:Rho):Dy c m g fo fs ρ=mzO c m g (fo ρ) (fs ρ):=zE_ _
theorem XH {o:D}(h:Dg c m o=true):mzO c m g (some o) (some ds)=g (o::ds):=by
 show (if Dg c m o=true then _ else _)=_;rw[if_pos h];rfl
theorem tW (W:Wl):Dg "World" "mark_words" (wob W)=true:=rfl
theorem tX (W:Wl):Dg "World" "tie_words" (wob W)=true:=rfl
theorem Ue {l m:List Str}(h:l.Perm m):Fz l=Fz m:=YT (Oe l) (Oe m) λ x=>by rw[MJ,MJ,h.mem_iff]
structure Spk (W V:Wl):Prop where
 mm:(mw V).Perm (mw W)
 tt:(tw V).Perm (tw W)
theorem Spk.sp {W V:Wl}(h:Spk W V):Sp W V:=⟨λ w hw=>h.mm.mem_iff.mpr hw,λ w hw=>h.tt.mem_iff.mpr hw⟩
theorem Mt (a b:Nat):eqD false (.int (a:Int)) (.int (b:Int))=some (.bl (decide (a=b))):=by rw[Qf,Vo]
theorem v9 (l:List Pr):lenE (.lst (l.map pN))=some (.int (l.length:Int)):=by
 show lenD (.lst (l.map pN))=_;rw[sX,z07]
theorem tY (a:Nat):gtD (.int (a:Int)) (.int 0)=some (.bl (decide (0<a))):=by
 rw[ZW];congr 2
 by_cases z:0<a
 ·rw[decide_eq_true z,decide_eq_true (by omega)]
 ·rw[decide_eq_false z,decide_eq_false (by omega)]
theorem yL (l:List Pr) (q:Pr) (h:l.length<=1000):appL (.lst (l.map pN)) (pN q)=some (.lst ((l++[q]).map pN)):=by
 rw[aB _ _ (by simpa using h),z0S];rfl
theorem aJ (zs:List Str):eqD true (.lst (zs.map .str)) (.lst (zs.map .str))=some (.bl false):=by
 have h:∀ zs:List Str,allO (eqK 180) (zs.map .str) (zs.map .str)=some true:=λ zs=>by
  induction zs with
  | nil=>rfl
  | cons z r ih=>
   show (match eqK 180 (.str z) (.str z),allO (eqK 180) (r.map .str) (r.map .str) with | some a,some b=>some (a&&b) | _,_=>none)=_;rw[ih];have:eqK 180 (.str z) (.str z)=some true:=by show some (eqV (.str z) (.str z))=_;simp[eqV]
   rw[this];rfl
 unfold eqD;have:eqvD (.lst (zs.map .str)) (.lst (zs.map .str))=some true:=by
  show (if (zs.map D.str).length=(zs.map D.str).length then allO (eqK 180) (zs.map .str) (zs.map .str) else some false)=_;rw[if_pos rfl,h]
 rw[this];rfl
theorem Ug (W:Wl) (h:WOk W):CW [wob W]=some (.lst ((Fz (mw W)).map .str))/\Cq [wob W]=some (.lst ((Fz (tw W)).map .str)):=by
 have nd:=z0W.mp h.nd;have m3:=h.m3;have t3:=h.t3;have s1:=kW (XD W.ms) nd.1 .(17);have s2:=kW (XF W.ts) nd.2.1 .(17);have f1:=S8 W;have f2:=Yj W;constructor
 ·simp only[cK,CW,Ft,f1,s1]
 ·simp only[cK,Cq,GZ,f2,s2]
theorem cZ (W V:Wl) (h:WOk W) (hv:WOk V) (hs:Spk W V):Fl [wob W,wob V]=some .non:=by
 obtain⟨a1,a2⟩:=Ug W h;obtain⟨b1,b2⟩:=Ug V hv;rw[Ue hs.mm] at b1;rw[Ue hs.tt] at b2;have o1:=tW W;have o2:=tW V;have o3:=tX W;have o4:=tX V;have e1:=aJ (Fz (mw W));have e2:=aJ (Fz (tw W));simp only[cK,Fl,Hi,Gm,XH o1,XH o2,XH o3,XH o4,a1,a2,b1,b2,e1,e2]
theorem O5 (W V:Wl) (x2:PV.Slot):∀ (rows:List Pr) (z3 z4:PV.Slot),(∀ r∈rows,r.1<W.n/\r.2<V.n)->∃ y3 y4,forF (tgB (tupG 2 (BK 3 (BK 4 nilG))) Bs) .(9) [.fz (wob W),.fz (wob V),x2,z3,z4]=some (.nx [.fz (wob W),.fz (wob V),x2,y3,y4])
 | [],z3,z4,_=>⟨z3,z4,rfl⟩
 | r::rows,z3,z4,h=>by
  have s1:=Ho W;have s2:=Ho V;have t1:=Lg W.n r.1 (h r (by simp)).1;have t2:=Lg V.n r.2 (h r (by simp)).2;obtain⟨y3,y4,e⟩:=O5 W V x2 rows (.fz (.int (r.1:Int))) (.fz (.int (r.2:Int))) λ x hx=>h x (by simp[hx]);refine⟨y3,y4,?_⟩;have st:Bs [.fz (wob W),.fz (wob V),x2,.fz (.int (r.1:Int)),.fz (.int (r.2:Int))]=some (.nx [.fz (wob W),.fz (wob V),x2,.fz (.int (r.1:Int)),.fz (.int (r.2:Int))]):=by
   simp only[cK,Bs,s1,s2,t1,t2]
  rw[z0c,En,e_tg,Oa,KR];simp only[z1e,z1f];rw[st,Dv,e]
theorem Ng (W V:Wl) (h:WOk W) (hv:WOk V) (hs:Spk W V) (rows:List Pr) (hr:∀ r∈rows,r.1<W.n/\r.2<V.n):BR [wob W,wob V,.lst .(9)]=some .non:=by
 have u:=cZ W V h hv hs;obtain⟨y3,y4,e⟩:=O5 W V (.fz .(5)) rows .un .un hr;simp only[cK,BR,Dj,u,DQ,Ff,e]
theorem aK {α β:Type}(f:α->β) (l:List α) (lo hi:Option Int):cutD (l.map f) lo hi=(cutD l lo hi).map f:=by
 unfold cutD;rw[z07,z3s,z5H]
theorem qP {α:Type}(l:List α) (lo hi:Option Int):(cutD l lo hi).length<=l.length:=by
 unfold cutD;rw[z1i,z2P];omega
theorem v_ (xs:List Nat):eqD true (.lst (xs.map iN)) (.lst [])=some (.bl (decide (xs≠[]))):=by
 cases xs with
 | nil=>rfl
 | cons x r=>
  show (eqvD (.lst _) (.lst _)).map _=_;have:eqvD (.lst ((x::r).map iN)) (.lst [])=some false:=by
   show (if ((x::r).map iN).length=([]:List D).length then allO (eqK 180) ((x::r).map iN) [] else some false)=some false;exact if_neg (by simp)
  rw[this];rfl
theorem Ib {α:Type}(xs:List α) (j:Nat) (h:j<xs.length):(xs[j]::xs.eraseIdx j).Perm xs:=by
 rw[z9H];have e:xs.take j++xs[j]::xs.drop (j+1)=xs:=by rw[<-z4s h,z5y]
 exact (z9b.symm).trans (by rw[e])
theorem wA (n:Nat) (h:n<=100):Wv .(1)=some (lN (z0d n)):=by
 show (if 0<=(n:Int)/\(n:Int)<=1000000 then some (D.lst (rngD (n:Int).toNat)) else none)=_;rw[if_pos ⟨by omega,by omega⟩,z1a];rfl
theorem aL (ms:List (Str×List Nat)):(eM ms).map (λ p=>kDt p.1)=(ms.map (·.1)).map .str:=by simp[eM,R1]
theorem aM (ts:List (Str×List (Nat×Nat))):(eT ts).map (λ p=>kDt p.1)=(ts.map (·.1)).map .str:=by simp[eT,R1]
theorem ixw0 (W:Wl):ixE (wd W) (.int 0)=some .(32):=rfl
theorem ixw1 (W:Wl):ixE (wd W) (.int 1)=some .(26):=rfl
theorem ixw2 (W:Wl):ixE (wd W) (.int 2)=some .(25):=rfl
theorem qQ (W V:Wl) (p q:Pr):goB W V p q=goB W V q p:=by
 unfold goB;rw[Bool.and_comm (KY W V p q),show decide (p.1=q.1)=decide (q.1=p.1) by simp[eq_comm],show decide (p.2=q.2)=decide (q.2=p.2) by simp[eq_comm]]
theorem kj (W V:Wl) (p:Pr):goB W V p p=KY W V p p:=by simp[goB]
theorem RJ (W V:Wl) (ps:List Pr):afS W V ps=true↔∀ p∈ps,(SX W V p=true/\KY W V p p=true)/\∀ q∈ps,goB W V p q=true:=by
 simp only[afS,z1c,z0Q]
theorem aN (W V:Wl) (ps:List Pr) (q:Pr):fwB W V ps q=true↔(SX W V q=true/\KY W V q q=true)/\∀ p∈ps,goB W V p q=true:=by
 simp only[fwB,z1c,z0Q]
theorem aO {W V:Wl}{ps qs:List Pr}(h:∀ x∈qs,x∈ps) (a:afS W V ps=true):afS W V qs=true:=by
 rw[RJ] at a ⊢;exact λ p hp=>⟨(a p (h p hp)).1,λ q hq=>(a p (h p hp)).2 q (h q hq)⟩
theorem O6 {W V:Wl}{ps:List Pr}{q:Pr}:afS W V (ps++[q])=true↔afS W V ps=true/\fwB W V ps q=true:=by
 rw[RJ,RJ,aN];constructor
 ·intro h;refine⟨λ p hp=>⟨(h p (by simp[hp])).1,λ r hr=>(h p (by simp[hp])).2 r (by simp[hr])⟩,(h q (by simp)).1,λ p hp=>(h p (by simp[hp])).2 q (by simp)⟩
 ·rintro⟨h1,h2,h3⟩ p hp
  rcases z0U.mp hp with hp | hp
  ·refine⟨(h1 p hp).1,λ r hr=>?_⟩
   rcases z0U.mp hr with hr | hr
   ·exact (h1 p hp).2 r hr
   ·have:r=q:=by simpa using hr
    exact this▸h3 p hp
  ·have:p=q:=by simpa using hp
   subst this;refine⟨h2,λ r hr=>?_⟩
   rcases z0U.mp hr with hr | hr
   ·rw[qQ];exact h3 r hr
   ·have:r=p:=by simpa using hr
    rw[this,kj];exact h2.2
theorem aP (W V:Wl):∀ (ps:List Pr),((z0d ps.length).all λ k=>fwB W V (ps.take k) (ps.getD k (0,0)))=afS W V ps:=by
 intro ps;rw[z1W];have:∀ n,n<=ps.length->(((z0d n).all λ k=>fwB W V (ps.take k) (ps.getD k (0,0)))=true↔afS W V (ps.take n)=true):=by
  intro n
  induction n with
  | zero=>intro _;simp[afS]
  | succ n ih=>
   intro h;rw[z6L,List.all_append,z0Q,ih (by omega)];have e:ps.take (n+1)=ps.take n++[ps.getD n (0,0)]:=by
    rw[z7F,z0F (by omega),z3v,z0F (by omega)];rfl
   rw[e,O6];simp
 have h:=this ps.length (z06 _);rw[z7G] at h;exact h
def InW (W V:Wl) (ps:List Pr):Prop:=∀ p∈ps,p.1<W.n/\p.2<V.n
theorem in5 {W V:Wl}(hw:WOk W) (hv:WOk V) {ps:List Pr}(h:InW W V ps):∀ p∈ps,In5 p:=λ p hp=>by
 have:=h p hp;have:=hw.n5;have:=hv.n5;exact⟨by omega,by omega⟩
theorem Gn {W V:Wl}(hw:WOk W) (hv:WOk V) {ps:List Pr}(h:InW W V ps) (x:Pr):x∈Ah ps↔x∈ps:=(Oj (in5 hw hv h)).2 x
theorem Lh {W V:Wl}(hw:WOk W) (hv:WOk V) {ps:List Pr}(h:InW W V ps):InW W V (Ah ps):=λ p hp=>h p ((Gn hw hv h p).mp hp)
theorem D_ {W V:Wl}{ps:List Pr}{q:Pr}(h:InW W V ps) (hq:q.1<W.n/\q.2<V.n):InW W V (ps++[q]):=λ p hp=>by
 rcases z0U.mp hp with hp | hp
 ·exact h p hp
 ·have:p=q:=by simpa using hp
  exact this▸hq
theorem O7 {W V:Wl}(hw:WOk W) (hv:WOk V) {ps:List Pr}(h:InW W V ps):afS W V (Ah ps)=afS W V ps:=by
 rw[z1W];exact⟨aO λ x hx=>(Gn hw hv h x).mpr hx,aO λ x hx=>(Gn hw hv h x).mp hx⟩
theorem km:∀ {l:List Pr},SrtP l->l.Nodup:=λ {l} h=>by
 have:(l.map cod).Nodup:=z7H (λ {a b} h e=>absurd h (by rw[e];exact z1l _)) h;rw[z2e,z1B] at this;exact z7H (λ {a b} h (e:a=b)=>h (by rw[e])) this
theorem Li {W V:Wl}(hw:WOk W) (hv:WOk V) {ps:List Pr}(h:InW W V ps):SrtP (Ah ps):=(Oj (in5 hw hv h)).1
theorem cg {W V:Wl}(hw:WOk W) (hv:WOk V) {ps qs:List Pr}(h:InW W V ps) (k:InW W V qs) (e:∀ x,x∈ps↔x∈qs):Ah ps=Ah qs:=Vb (Li hw hv h) (Li hw hv k) λ x=>by rw[Gn hw hv h,Gn hw hv k,e]
theorem XJ:∀ {l m:List Pr},l.Nodup->(∀ x∈l,x∈m)->l.length<=m.length
 | [],_,_,_=>z19 _
 | x::l,m,nd,h=>by
  have hx:=h x (by simp);have nd':=z2m.mp nd;have:=XJ (m:=m.erase x) nd'.2 λ y hy=>(z5v (λ e=>nd'.1 (by rw[<-e];exact hy))).mpr (h y (by simp[hy]));rw[z5w hx] at this;have:=z5x hx;simp only[z0u];omega
theorem cu {W V:Wl}(hw:WOk W) (hv:WOk V) {ps:List Pr}(h:InW W V ps):(Ah ps).length<=ps.length:=XJ (km (Li hw hv h)) λ x hx=>(Gn hw hv h x).mp hx
theorem qR {W V:Wl}{ps:List Pr}(nd:ps.Nodup) (h:InW W V ps) (a:afS W V ps=true):ps.length<=W.n:=by
 rw[RJ] at a;have nd1:.(42).Nodup:=by
  rw[z2e,z1B];refine z2X (λ {x y} hx hy ne e=>?_) nd;have g:=(a x hx).2 y hy;unfold goB at g;rw[z0Q] at g;have g1:=g.1;rw[decide_eq_true e] at g1;have:x.2=y.2:=by simpa using g1
  exact ne (z3e e this)
 have:=Vm nd1 λ t ht=>by
  obtain⟨p,hp,rfl⟩:=z0f.mp ht;exact (h p hp).1
 rwa [z07] at this
theorem Bu {t:Nat}{xs:List Nat}:t∈unp n xs↔t<n/\t∉xs:=by simp[unp]
theorem wB {xs ys:List Nat}(h:∀ x∈xs,x∈ys) {t:Nat}(ht:t∈unp n xs) (hy:t∈ys):(unp n ys).length<(unp n xs).length:=by
 have e:unp n ys=(unp n xs).filter λ t=>decide (t∉ys):=by
  unfold unp;rw[List.filter_filter];refine List.filter_congr λ x _=>?_
  by_cases hx:x∈ys
  ·simp[hx]
  ·have:x∉xs:=λ z=>hx (h x z);simp[hx,this]
 rw[e];exact List.length_filter_lt_length_iff_exists.mpr ⟨t,ht,by simp[hy]⟩
theorem Vq (n:Nat) (xs:List Nat):(unp n xs).length<=n:=by
 have:=z7I (λ t=>decide (t∉xs)) (z0d n)
 rwa [z2B] at this
theorem QT {W V:Wl}{R R':List Pr->Nat}{ps:List Pr}(h:∀ f∈unp W.n .(42),∀ s∈unp V.n (ps.map (·.2)),fwB W V ps (f,s)=true->R .(40)=R' .(40)):stp W V R ps=stp W V R' ps:=by
 have k:∀ f∈unp W.n .(42),∀ s∈unp V.n (ps.map (·.2)),(if fwB W V ps (f,s)=true then R .(40) else 0)=(if fwB W V ps (f,s)=true then R' .(40) else 0):=λ f hf s hs=>by
  split
  ·rename_i e;exact h f hf s hs e
  ·rfl
 unfold stp;simp only;rw[z3l (g:=λ f=>bst ((unp V.n (ps.map (·.2))).map λ s=>if fwB W V ps (f,s)=true then R' .(40) else 0)) λ f hf=>by rw[z3l λ s hs=>k f hf s hs],
  z3l (l:=unp V.n (ps.map (·.2))) (g:=λ s=>bst ((unp W.n .(42)).map λ f=>if fwB W V ps (f,s)=true then R' .(40) else 0)) λ s hs=>by rw[z3l λ f hf=>k f hf s hs]]
theorem Vr {W V:Wl}(hw:WOk W) (hv:WOk V) {ps:List Pr}(h:InW W V ps) {f s:Nat}(hf:f∈unp W.n .(42)) (hs:s∈unp V.n (ps.map (·.2))):(unp W.n (.(40).map (·.1))).length<(unp W.n .(42)).length:=by
 have k:=D_ h (q:=(f,s)) ⟨(Bu.mp hf).1,(Bu.mp hs).1⟩;refine wB (λ x hx=>?_) hf (z0f.mpr ⟨(f,s),(Gn hw hv k _).mpr (by simp),rfl⟩);obtain⟨p,hp,rfl⟩:=z0f.mp hx;exact z0f.mpr ⟨p,(Gn hw hv k _).mpr (by simp[hp]),rfl⟩
theorem TF {W V:Wl}(hw:WOk W) (hv:WOk V) {ps:List Pr}(h:InW W V ps) {f s:Nat}(hf:f∈unp W.n .(42)) (hs:s∈unp V.n (ps.map (·.2))):InW W V .(40):=Lh hw hv (D_ h ⟨(Bu.mp hf).1,(Bu.mp hs).1⟩)
theorem qT {W V:Wl}(hw:WOk W) (hv:WOk V):∀ (u k j:Nat) (ps:List Pr),InW W V ps->(unp W.n .(42)).length<=u->u<=k->u<=j->rkN W V (k+1) ps=rkN W V (j+1) ps:=by
 intro u
 induction u with
 | zero=>
  intro k j ps h hu _ _;refine QT λ f hf=>?_;rw[z2C.mp (z7J.mp hu)] at hf;cases hf
 | succ u ih=>
  intro k j ps h hu hk hj;refine QT λ f hf s hs _=>?_;obtain⟨k',rfl⟩:=z9I (show k≠0 by omega);obtain⟨j',rfl⟩:=z9I (show j≠0 by omega);exact ih k' j' _ (TF hw hv h hf hs) (z4C (z0X (Vr hw hv h hf hs) hu)) (by omega) (by omega)
theorem Vs {W V:Wl}(hw:WOk W) (hv:WOk V) {ps:List Pr}(h:InW W V ps) (a:afS W V ps=true):rkF W V ps=stp W V (rkF W V) ps:=by
 have e:rkF W V ps=stp W V (rkN W V 5) ps:=by unfold rkF;rw[if_pos a];rfl
 rw[e];refine QT λ f hf s hs hfw=>?_;have hq:=D_ h (q:=(f,s)) ⟨(Bu.mp hf).1,(Bu.mp hs).1⟩;have a':afS W V .(40)=true:=by rw[O7 hw hv hq];exact O6.mpr ⟨a,hfw⟩
 unfold rkF;rw[if_pos a'];refine qT hw hv 4 4 5 _ (TF hw hv h hf hs) ?_ (by omega) (by omega);exact z4C (z0X (Vr hw hv h hf hs) (z0A (Vq W.n .(42)) hw.n5))
theorem QV {W V:Wl}{ps:List Pr}(a:afS W V ps=false):rkF W V ps=0:=by unfold rkF;rw[a];rfl
theorem Vt {x:Nat}(h:x∈l):x<=bst l:=by
 induction l with
 | nil=>cases h
 | cons y l ih=>
  have e:bst (y::l)=max y (bst l):=rfl;rw[e]
  rcases z0i.mp h with rfl | h
  ·omega
  ·have:=ih h;omega
theorem Yk {m:Nat}(hm:0<m) (h:∀ x∈l,x<m):bst l<m:=by
 induction l with
 | nil=>exact hm
 | cons y l ih=>
  have e:bst (y::l)=max y (bst l):=rfl;rw[e];have:=ih λ x hx=>h x (by simp[hx]);have:=h y (by simp);omega
theorem qU {e x:Nat}(h:x∈l):l.foldr min e<=x:=by
 induction l with
 | nil=>cases h
 | cons y l ih=>
  rw[z5K]
  rcases z0i.mp h with rfl | h
  ·omega
  ·have:=ih h;omega
theorem wC (l:List Nat) (e:Nat):l.foldr min e<=e:=by
 induction l with
 | nil=>exact z06 _
 | cons y l ih=>rw[z5K];omega
theorem XM (l:List Nat) (e:Nat):l.foldr min e=e∨l.foldr min e∈l:=by
 induction l with
 | nil=>exact .inl rfl
 | cons y l ih=>
  rw[z5K]
  rcases Nat.le_total y (l.foldr min e) with h | h
  ·exact .inr (by rw[z8K h];simp)
  ·rw[z8L h]
   rcases ih with ih | ih
   ·exact .inl ih
   ·exact .inr (by simp[ih])
theorem tZ {W V:Wl}(hw:WOk W) (hv:WOk V) {ps:List Pr}(h:InW W V ps):rkF W V ps<=endl W V:=by
 cases a:afS W V ps with
 | false=>rw[QV a];exact z19 _
 | true=>
  rw[Vs hw hv h a];unfold stp;simp only;exact Nat.min_le_left ..
theorem k_ {W V:Wl}(hw:WOk W) (hv:WOk V) {ps:List Pr}(h:InW W V ps) (h0:rkF W V ps≠0) (he:rkF W V ps≠endl W V) :
  (∃ t,t<W.n/\∀ s,s<V.n->rkF W V (Ah (ps++[(t,s)]))<rkF W V ps)∨(∃ s,s<V.n/\∀ t,t<W.n->rkF W V (Ah (ps++[(t,s)]))<rkF W V ps):=by
 cases a:afS W V ps with
 | false=>exact absurd (QV a) h0
 | true=>
  have e:=Vs hw hv h a;have hle:=tZ hw hv h;generalize er:rkF W V ps=r at *;unfold stp at e;simp only at e;generalize el:((unp W.n .(42)).map λ f=>bst ((unp V.n (ps.map (·.2))).map λ s=>if fwB W V ps (f,s)=true then rkF W V .(40) else 0))++((unp V.n (ps.map (·.2))).map λ s=>bst ((unp W.n .(42)).map λ f=>if fwB W V ps (f,s)=true then rkF W V .(40) else 0))=l at e;have em:l.foldr min (endl W V)∈l:=by
   rcases XM l (endl W V) with z | z
   ·rw[z] at e;omega
   ·exact z
  have e2:l.foldr min (endl W V)<r:=by omega
  generalize l.foldr min (endl W V)=m at em e2;have no:∀ f s,f<W.n->s<V.n->¬ (f∈unp W.n .(42)/\s∈unp V.n (ps.map (·.2)))->(f∈unp W.n .(42)∨s∈unp V.n (ps.map (·.2)))->rkF W V .(40)<r:=λ f s hf hs hn ho=>by
   have hq:=D_ h (q:=(f,s)) ⟨hf,hs⟩;have:afS W V .(40)=false:=by
    rw[O7 hw hv hq];cases z:afS W V (ps++[(f,s)]) with
    | false=>rfl
    | true=>
     exfalso;have z2:=(aN _ _ _ _).mp (O6.mp z).2;have g:∀ p∈ps,(p.1=f↔p.2=s):=λ p hp=>by
      have:=z2.2 p hp;unfold goB at this;rw[z0Q] at this;have t:=this.1;simp only[beq_iff_eq,decide_eq_decide] at t;exact t
     by_cases c1:f∈unp W.n .(42)
     ·have c2:s∉unp V.n (ps.map (·.2)):=λ c=>hn ⟨c1,c⟩;have:s∈ps.map (·.2):=z3_ λ c=>c2 (Bu.mpr ⟨hs,c⟩);obtain⟨p,hp,e⟩:=z0f.mp this;exact (Bu.mp c1).2 (z0f.mpr ⟨p,hp,(g p hp).mpr e⟩)
     ·have c2:=ho.resolve_left c1;have:f∈ps.map (·.1):=z3_ λ c=>c1 (Bu.mpr ⟨hf,c⟩);obtain⟨p,hp,e⟩:=z0f.mp this;exact (Bu.mp c2).2 (z0f.mpr ⟨p,hp,(g p hp).mp e⟩)
   rw[QV this];omega
  have yes:∀ f s,f∈unp W.n .(42)->s∈unp V.n (ps.map (·.2))->(if fwB W V ps (f,s)=true then rkF W V .(40) else 0)<=m->rkF W V .(40)<r:=λ f s hf hs hm=>by
   have hq:=D_ h (q:=(f,s)) ⟨(Bu.mp hf).1,(Bu.mp hs).1⟩;split at hm
   ·omega
   ·rename_i hz;have:afS W V .(40)=false:=by
     rw[O7 hw hv hq];cases z:afS W V (ps++[(f,s)]) with
     | false=>rfl
     | true=>exact absurd (O6.mp z).2 hz
    rw[QV this];omega
  rw[<-el] at em
  rcases z0U.mp em with em | em
  ·obtain⟨f,hf,ef⟩:=z0f.mp em;refine .inl ⟨f,(Bu.mp hf).1,λ s hs=>?_⟩
   by_cases c:s∈unp V.n (ps.map (·.2))
   ·exact yes f s hf c (by rw[<-ef];exact Vt (z0f.mpr ⟨s,c,rfl⟩))
   ·exact no f s (Bu.mp hf).1 hs (λ z=>c z.2) (.inl hf)
  ·obtain⟨s,hs,es⟩:=z0f.mp em;refine .inr ⟨s,(Bu.mp hs).1,λ f hf=>?_⟩
   by_cases c:f∈unp W.n .(42)
   ·exact yes f s c hs (by rw[<-es];exact Vt (z0f.mpr ⟨f,c,rfl⟩))
   ·exact no f s hf (Bu.mp hs).1 (λ z=>c z.1) (.inr hs)
theorem wD {m:List Nat}(h:kM l=kM m):l=m:=by
 unfold kM at h;have h:=D.dk.inj h;have:=congrArg (List.map λ x:Key×D=>match x.1 with | .inl i=>i.toNat | _=>0) h;simpa [z0p,z0V] using this
theorem wF {l m:List (Nat×Nat)}(h:kT l=kT m):l=m:=by
 unfold kT at h;have h:=D.dt.inj h;have:=congrArg (List.map λ x:List Key×D=>unk1 x.1) h;simpa [z0p,z0V,unk1] using this
theorem TJ {α β:Type}{f:α->β}(hf:∀ x y,f x=f y->x=y):∀ {l m:List α},l.map f=m.map f->l=m
 | [],[],_=>rfl
 | [],_::_,h=>by cases h
 | _::_,[],h=>by cases h
 | x::l,y::m,h=>by
  rw[z0c,z0c] at h;obtain⟨h1,h2⟩:=List.cons.inj h;rw[hf x y h1,TJ hf h2]
theorem aQ {W V:Wl}(h:wob W=wob V):W=V:=by
 obtain⟨n,ms,ts⟩:=W;obtain⟨n',ms',ts'⟩:=V;unfold wob at h;simp only[D.ob.injEq,z4T,z3B,true_and,and_true,D.int.injEq,D.dk.injEq] at h;obtain⟨h1,h2,h3⟩:=h;have e1:n=n':=by omega
 have e2:ms=ms':=TJ (λ x y e=>by
  obtain⟨x1,x2⟩:=x;obtain⟨y1,y2⟩:=y;simp only[z3B,z9J] at e;rw[e.1,wD e.2]) h2
 have e3:ts=ts':=TJ (λ x y e=>by
  obtain⟨x1,x2⟩:=x;obtain⟨y1,y2⟩:=y;simp only[z3B,z9J] at e;rw[e.1,wF e.2]) h3
 rw[e1,e2,e3]
theorem yM (W V:Wl):FF (wob W) (wob V)=FW W V:=by
 have h:∃ x:Wl×Wl,wob W=wob x.1/\wob V=wob x.2:=⟨(W,V),rfl,rfl⟩;unfold FF;rw[dif_pos h];have:=Classical.choose_spec h;rw[<-aQ this.1,<-aQ this.2]
theorem qW (ps:List Pr):(kks ps).map unk1=ps:=by
 unfold kks;rw[z0p];have:(unk1 ∘ kk)=id:=by funext p;simp[unk1,kk]
 rw[this,List.map_id]
theorem t6 (W V:Wl) (ps:List Pr):FW W V (kks ps)=(rkF W V ps:Nat):=by unfold FW;rw[qW]
theorem fw_t (W V:Wl) (h:Sp W V) (ps:List Pr) (hl:ps.length<=1000) (q:Pr):Eb [wob W,wob V,.tup .(12),pN q]=some (.bl (fwB W V ps q)):=by
 have b1:=aH W V h q;have l1:=RG W V h q q;have cm:Bb (seqA (vF 2)) allT FN [.fz (wob W),.fz (wob V),.fz (.tup .(12)),.fz (pN q)]=some (.lst (ps.map λ p=>.bl (goB W V p q))):=
  Dt ps pN (λ p=>.bl (goB W V p q)) (by simp only[cK,DQ,OD]) hl λ p _=>by
   have g:=tV W V h p q;simp only[cK,FN,g]
 have al:=Vp (λ p=>goB W V p q) ps;unfold fwB;simp only[cK,Eb,JK,b1];cases SX W V q with
 | false=>simp only[cK,z4c]
 | true=>
  simp only[cK,l1];cases KY W V q q with
  | false=>simp only[cK,z42,z4c]
  | true=>simp only[cK,cm,al,z42]
theorem XN {α:Type}(l:List α) (e1 e2 g:α->D) (hs:src ρ=some (l.map λ x=>.tup [e1 x,e2 x])) (hn:l.length<=1000) (h:∀ x∈l,fe (ρ++[.fz (e1 x),.fz (e2 x)])=some (g x)):UW src allT fe ρ=some (.lst (l.map g)):=by
 have c:∀ l:List α,(∀ x∈l,fe (ρ++[.fz (e1 x),.fz (e2 x)])=some (g x))->Ex bd2 ρ allT fe (l.map λ x=>.tup [e1 x,e2 x])=some (l.map g):=by
  intro l
  induction l with
  | nil=>intro _;rfl
  | cons x r ih=>
   intro hl;rw[z0c];show (fe (ρ++[PV.Slot.fz (e1 x),PV.Slot.fz (e2 x)])).bind (λ y=>(Ex bd2 ρ allT fe (r.map λ x=>.tup [e1 x,e2 x])).map (y::·))=_;rw[hl x (by simp),ih λ d hd=>hl d (by simp[hd])];rfl
 unfold UW Ja;rw[hs];show (if (l.map λ x=>D.tup [e1 x,e2 x]).length<=sizeLine then (Ex bd2 ρ allT fe (l.map λ x=>D.tup [e1 x,e2 x])).map D.lst else none)=_;rw[if_pos (N5 (by rw[z07];omega)),c l h];rfl
theorem Yl:∀ (ps:List Pr) (i:Nat),enD i .(12)=(z0d ps.length).map λ k=>D.tup [.int ((i+k:Nat):Int),pN (ps.getD k (0,0))]
 | [],i=>rfl
 | p::r,i=>by
  rw[z0c,z0u,z8t,z0c,z0p];show D.tup [.int (i:Int),pN p]::enD (i+1) (r.map pN)=_;rw[Yl r (i+1)];congr 1;refine z3l λ k _=>?_;simp only[z0V,List.getD_cons_succ];rw[show i+1+k=i+(k+1) by omega]
theorem sl_t (ds:List D) (k:Nat) (h:k<ds.length):slD (.tup ds) none (some (k:Int))=some (.tup (ds.take k)):=by
 show (if HT.sIx ds.length 0 none=0/\HT.sIx ds.length ds.length (some (k:Int))=ds.length then none else some (D.tup (cutD ds none (some (k:Int)))))=_;rw[if_neg (by rw[HT.m5];omega),gQ]
theorem sl_l (ds:List D) (k:Nat):slD (.lst ds) none (some (k:Int))=some (.lst (ds.take k)):=by
 show some (D.lst (cutD ds none (some (k:Int))))=_;rw[gQ]
theorem qX (f:FE) (ρ:Rho) (ds:List D) (h:f ρ=some (.lst ds)):enIB f ρ=some (enD 0 ds):=by unfold enIB;rw[h]
theorem qY (f:FE) (ρ:Rho) (ds:List D) (h:f ρ=some (.tup ds)):enIB f ρ=some (enD 0 ds):=by unfold enIB;rw[h]
theorem af_l (W V:Wl) (h:Sp W V) (ps:List Pr) (hl:ps.length<=1000):Et [wob W,wob V,.lst .(12)]=some (.bl (afS W V ps)):=by
 have cm:UW (enIB (vF 2)) allT HS [.fz (wob W),.fz (wob V),.fz (.lst .(12))]=some (.lst ((z0d ps.length).map λ k=>.bl (fwB W V (ps.take k) (ps.getD k (0,0))))):=
  XN (z0d ps.length) (λ k=>.int ((0+k:Nat):Int)) (λ k=>pN (ps.getD k (0,0))) _ (by rw[qX _ _ .(12) rfl,Yl]) (by simpa using hl) λ k hk=>by
   have f:=yK W V h (ps.take k) (by rw[z1i];omega) (ps.getD k (0,0));have s:=sl_l .(12) k;rw[z1R];rw[<-z3s] at s;simp only[cK,HS,s,f]
 have al:=Vp (λ k=>fwB W V (ps.take k) (ps.getD k (0,0))) (z0d ps.length);rw[aP] at al;simp only[cK,Et,MN,cm,al]
theorem af_t (W V:Wl) (h:Sp W V) (ps:List Pr) (hl:ps.length<=1000):Et [wob W,wob V,.tup .(12)]=some (.bl (afS W V ps)):=by
 have cm:UW (enIB (vF 2)) allT HS [.fz (wob W),.fz (wob V),.fz (.tup .(12))]=some (.lst ((z0d ps.length).map λ k=>.bl (fwB W V (ps.take k) (ps.getD k (0,0))))):=
  XN (z0d ps.length) (λ k=>.int ((0+k:Nat):Int)) (λ k=>pN (ps.getD k (0,0))) _ (by rw[qY _ _ .(12) rfl,Yl]) (by simpa using hl) λ k hk=>by
   have f:=fw_t W V h (ps.take k) (by rw[z1i];omega) (ps.getD k (0,0));have s:=sl_t .(12) k (by rw[z07];exact z0o.mp hk);rw[z1R];rw[<-z3s] at s;simp only[cK,HS,s,f]
 have al:=Vp (λ k=>fwB W V (ps.take k) (ps.getD k (0,0))) (z0d ps.length);rw[aP] at al;simp only[cK,Et,MN,cm,al]
theorem yN (t:Nat) (l:List Nat):inF true (.int (t:Int)) (.lst (l.map iN))=some (.bl (decide (t∉l))):=by
 have h:∀ ys:List Nat,flVs (ys.map iN)=some (ys.map λ (t:Nat)=>V.int t):=λ ys=>by
  induction ys with
  | nil=>rfl
  | cons y r ih=>simp[flVs,flV,ih]
 have i:=in_i t l;change ((flV (.int (t:Int))).bind λ v=>(flVs (l.map iN)).map λ vs=>D.bl (inV v vs))=_ at i;show ((flV (.int (t:Int))).bind λ v=>(flVs (l.map iN)).map λ vs=>D.bl (!inV v vs))=_;rw[h] at i ⊢;have i:some (D.bl (inV (.int (t:Int)) (l.map λ (t:Nat)=>V.int t)))=some (D.bl (decide (t∈l))):=i;show some (D.bl (!inV (.int (t:Int)) (l.map λ (t:Nat)=>V.int t)))=_;injection i with i
 injection i with i
 rw[i];simp
theorem lA (n:Nat) (hn:n<=100) (xs:List Nat):Ij [.int (n:Int),.lst (xs.map iN)]=some (.lst ((unp n xs).map iN)):=by
 have cm:Bb (rngI (vF 0)) KD KH [.fz .(1),.fz (.lst (xs.map iN))]=some (.lst ((unp n xs).map iN)):=
  Ma (λ t=>decide (t∉xs)) iN (rngI (vF 0)) (Vk n hn _ 0 rfl) (by omega) (λ k hk=>by
   have s:=yN k xs;simp only[cK,KD,s]) (λ k hk=>by simp only[cK,KH])
 simp only[cK,Ij,M_,cm]
theorem lC (l:List Nat):Ji (l.map iN)=some (l.map λ (t:Nat)=>(t:Int)):=by
 induction l with
 | nil=>rfl
 | cons y r ih=>
  show (Ji (r.map iN)).map (_::·)=_;rw[ih];rfl
theorem lD (f:Nat->Int):∀ k,(∃ i,i<=k/\mxN f k=f i)/\∀ i,i<=k->f i<=mxN f k
 | 0=>⟨⟨0,z06 _,rfl⟩,λ i hi=>by rw[z7J.mp hi];exact z5U _⟩
 | k+1=>by
  obtain⟨⟨i,hi,e⟩,h⟩:=lD f k;have u:mxN f (k+1)=if f (k+1) > mxN f k then f (k+1) else mxN f k:=rfl
  rw[u];split
  ·rename_i c;refine⟨⟨k+1,z06 _,rfl⟩,λ j hj=>?_⟩
   rcases z5V k j with z | z
   ·have:j=k+1:=by omega
    rw[this];exact z5U _
   ·have:=h j z;omega
  ·rename_i c;refine⟨⟨i,by omega,e⟩,λ j hj=>?_⟩
   rcases z5V k j with z | z
   ·have:j=k+1:=by omega
    rw[this];omega
   ·exact h j z
theorem lE (f:Nat->Int):∀ k,(∃ i,i<=k/\mnN f k=f i)/\∀ i,i<=k->mnN f k<=f i
 | 0=>⟨⟨0,z06 _,rfl⟩,λ i hi=>by rw[z7J.mp hi];exact z5U _⟩
 | k+1=>by
  obtain⟨⟨i,hi,e⟩,h⟩:=lE f k;have u:mnN f (k+1)=if f (k+1)<mnN f k then f (k+1) else mnN f k:=rfl
  rw[u];split
  ·rename_i c;refine⟨⟨k+1,z06 _,rfl⟩,λ j hj=>?_⟩
   rcases z5V k j with z | z
   ·have:j=k+1:=by omega
    rw[this];exact z5U _
   ·have:=h j z;omega
  ·rename_i c;refine⟨⟨i,by omega,e⟩,λ j hj=>?_⟩
   rcases z5V k j with z | z
   ·have:j=k+1:=by omega
    rw[this];omega
   ·exact h j z
theorem QW (l:List Nat) (i:Nat) (h:i<l.length):(l.map λ (t:Nat)=>(t:Int)).getD i 0=(l[i]:Int):=by
 rw[z3v,z0q,z0F h];rfl
theorem lF (l:List Nat):Tv (.lst (l.map iN)) (.int 0)=some (.int ((bst l:Nat):Int)):=by
 show (Ji (l.map iN)).map _=_;rw[lC];show some (if (l.map λ (t:Nat)=>(t:Int))=[] then D.int 0 else .int (mxN (λ i=>(l.map λ (t:Nat)=>(t:Int)).getD i 0) ((l.map λ (t:Nat)=>(t:Int)).length-1)))=_;cases l with
 | nil=>rfl
 | cons x r=>
  rw[if_neg (by simp)];congr 2;have ⟨⟨i,hi,e⟩,h⟩:=lD (λ i=>.(31).getD i 0) (.(31).length-1);rw[z07,z0u] at hi e h;have hi':i<(x::r).length:=by rw[z0u];omega
  rw[z07,z0u,e];show .(31).getD i 0=_;rw[QW _ _ hi'];have a1:=Vt (z1d hi');have a2:bst (x::r)<=(x::r)[i]:=by
   have:bst (x::r)<(x::r)[i]+1:=Yk (by omega) λ y hy=>by
    obtain⟨j,hj,ej⟩:=z3r.mp hy;have hh:=h j (by rw[z0u] at hj;omega);rw[e] at hh;change .(31).getD j 0<=.(31).getD i 0 at hh;rw[QW _ _ hi',QW _ _ hj,ej] at hh;omega
   omega
  omega
theorem wG (l:List Nat) (e:Nat):∃ m:Nat,W2 (.lst (l.map iN)) (.int (e:Int))=some (.int (m:Int))/\min e (1+m)=min e (1+l.foldr min e):=by
 have u:W2 (.lst (l.map iN)) (.int (e:Int))=some (if (l.map λ (t:Nat)=>(t:Int))=[] then D.int (e:Int) else .int (mnN (λ i=>(l.map λ (t:Nat)=>(t:Int)).getD i 0) ((l.map λ (t:Nat)=>(t:Int)).length-1))):=by
  show (Ji (l.map iN)).map _=_;rw[lC];rfl
 rw[u];cases l with
 | nil=>exact⟨e,rfl,rfl⟩
 | cons x r=>
  rw[if_neg (by simp)];have ⟨⟨i,hi,ee⟩,h⟩:=lE (λ i=>.(31).getD i 0) (.(31).length-1);rw[z07,z0u] at hi ee h;have hi':i<(x::r).length:=by rw[z0u];omega
  refine⟨(x::r)[i],?_,?_⟩
  ·rw[z07,z0u,ee];show some (D.int (.(31).getD i 0))=_;rw[QW _ _ hi']
  ·have a1:=qU (e:=e) (z1d hi');have a2:=wC (x::r) e
   rcases XM (x::r) e with z | z
   ·rw[z] at a1 ⊢;omega
   ·obtain⟨j,hj,ej⟩:=z3r.mp z;have hh:=h j (by rw[z0u] at hj;omega);rw[ee] at hh;change .(31).getD i 0<=.(31).getD j 0 at hh;rw[QW _ _ hi',QW _ _ hj,ej] at hh;omega
def rob (W V:Wl):D:=.ob "Ranks" [("one",wob W),("other",wob V),("reckoned",.mem (FW W V)),("endless",.int (endl W V:Nat))]
theorem u1:(("other":Str)=="one")=false:=by decide +kernel
theorem u2:(("reckoned":Str)=="one")=false:=by decide +kernel
theorem u3:(("reckoned":Str)=="other")=false:=by decide +kernel
theorem u4:(("endless":Str)=="one")=false:=by decide +kernel
theorem u5:(("endless":Str)=="other")=false:=by decide +kernel
theorem u6:(("endless":Str)=="reckoned")=false:=by decide +kernel
theorem aR (W V:Wl):fldD "one" (rob W V)=some (wob W):=by
 show z0m ("one":Str) _=_;rfl
theorem RK (W V:Wl):fldD "other" (rob W V)=some (wob V):=by
 show z0m ("other":Str) [(("one":Str),wob W),("other",wob V),("reckoned",.mem (FW W V)),("endless",.int (endl W V:Nat))]=_;simp only[z0m,u1];rfl
theorem lG (W V:Wl):fldD "reckoned" (rob W V)=some (.mem (FW W V)):=by
 show z0m ("reckoned":Str) [(("one":Str),wob W),("other",wob V),("reckoned",.mem (FW W V)),("endless",.int (endl W V:Nat))]=_;simp only[z0m,u2,u3];rfl
theorem Ym (W V:Wl):fldD "endless" (rob W V)=some (.int (endl W V:Nat)):=by
 show z0m ("endless":Str) [(("one":Str),wob W),("other",wob V),("reckoned",.mem (FW W V)),("endless",.int (endl W V:Nat))]=_;simp only[z0m,u4,u5,u6];rfl
theorem Mv {W V:Wl}(h:Dg "Ranks" m (rob W V)=true):mzO "Ranks" m g (some (rob W V)) (some ds)=g (rob W V::ds):=XH h
theorem ob1 (W V:Wl):Dg "Ranks" "rank_of_fitting" (rob W V)=true:=rfl
theorem ob2 (W V:Wl):Dg "Ranks" "rank_with" (rob W V)=true:=rfl
theorem ob3 (W V:Wl):Dg "Ranks" "best_rank" (rob W V)=true:=rfl
theorem ob4 (W V:Wl):Dg "Ranks" "least_rank" (rob W V)=true:=rfl
theorem ob5 (W V:Wl):Dg "Ranks" "rank_of" (rob W V)=true:=rfl
theorem ob6 (W V:Wl):Dg "Ranks" "told_rank" (rob W V)=true:=rfl
theorem yO {p:Pr}(h:In5 p):prD (pN p)=some p:=by
 obtain⟨a,b⟩:=p;obtain⟨h1,h2⟩:=h;show (if 0<=(a:Int)/\(a:Int)<5/\0<=(b:Int)/\(b:Int)<5 then some ((a:Int).toNat,(b:Int).toNat) else none)=_;have h1:a<5:=h1;have h2:b<5:=h2;rw[if_pos (by omega),z1a,z1a]
theorem Yn {ps:List Pr}(h:∀ p∈ps,In5 p):prsD .(12)=some ps:=by
 induction ps with
 | nil=>rfl
 | cons p r ih=>
  show (prD (pN p)).bind (λ p=>(prsD (r.map pN)).map (p::·))=_;rw[yO (h p (by simp)),ih λ q hq=>h q (by simp[hq])];rfl
theorem lH {ps:List Pr}(h:∀ p∈ps,In5 p) (hl:ps.length<=5):keyP (.tup .(12))=some ps:=by
 show (prsD .(12)).bind (λ ps=>if ps.length<=5 then some ps else none)=_;rw[Yn h];show (if ps.length<=5 then some ps else none)=_;rw[if_pos hl]
theorem wH {ps:List Pr}(h:∀ p∈ps,In5 p) (hl:ps.length<=17):tssD (.lst .(12))=some (.tup ((Ah ps).map pN)):=by
 show (prsD .(12)).bind (λ ps=>if ps.length<=17 then some (D.tup ((Ah ps).map prT)) else none)=_;rw[Yn h];show (if ps.length<=17 then some (D.tup ((Ah ps).map prT)) else none)=_;rw[if_pos hl]
theorem wI {ps:List Pr}(h:∀ p∈ps,In5 p) (hl:ps.length<=17) (nd:ps.Nodup):tslD (.tup .(12))=some (.tup ((Ah ps).map pN)):=by
 show (prsD .(12)).bind (λ ps=>if ps.length<=17/\ps.Nodup then some (D.tup ((Ah ps).map prT)) else none)=_;rw[Yn h];show (if ps.length<=17/\ps.Nodup then some (D.tup ((Ah ps).map prT)) else none)=_;rw[if_pos ⟨hl,nd⟩]
theorem wJ (ps:List Pr) (q:Pr) (hl:ps.length<=100):catU (.tup .(12)) (.tup [pN q])=some (.tup ((ps++[q]).map pN)):=by
 show (if [pN q]≠[]/\.(12).length+[pN q].length<=1000 then some (D.tup (ps.map pN++[pN q])) else none)=_;rw[if_pos ⟨by simp,by simp;omega⟩,z0S];rfl
theorem wK {fv:FE}{ps:List Pr}{v:Int}(h1:uF (fldD f) (vF i) ρ=some (.mem F)) (h2:(vF j ρ).bind keyP=some ps) (h3:fv ρ=some (.int v)) (h4:v=F (kks ps)):memR i f j fv ρ=some (.rt (.int v) ρ):=by
 unfold memR;rw[h1,h2,h3];exact if_pos h4
theorem qZ {ps:List Pr}(h1:uF (fldD f) (vF i) ρ=some (.mem F)) (h2:(vF j ρ).bind keyP=some ps) (h3:ft ρ=some true):memB i f j ft c m fr ρ=retF fr ρ:=by
 unfold memB;rw[h1,h2,h3]
theorem qe {ps:List Pr}(h1:uF (fldD f) (vF i) ρ=some (.mem F)) (h2:(vF j ρ).bind keyP=some ps) (h3:ft ρ=some false) (h4:F (kks ps)=0) (h5:(vF i ρ).map (Dg c m)=some true):memB i f j ft c m fr ρ=some (.rt (.int 0) ρ):=by
 unfold memB;rw[h1,h2,h3];exact if_pos ⟨h4,h5⟩
abbrev rwV (W V:Wl) (ps:List Pr) (q:Pr):Nat:=if fwB W V ps q=true then rkF W V (Ah (ps++[q])) else 0
section
theorem qg {W V:Wl}(hw:WOk W) (hv:WOk V) (h:Sp W V) {g:List D->Option D}{ps:List Pr}{q:Pr}(hi:InW W V ps) (nd:ps.Nodup) (hl:ps.length<=5) (hq:q.1<W.n/\q.2<V.n) (nq:q∉ps)
  (hg:fwB W V ps q=true->g [rob W V,.tup ((Ah (ps++[q])).map pN)]=some (.int (rkF W V (Ah (ps++[q])):Nat))):Bl g [rob W V,.tup .(12),pN q]=some (.int (rwV W V ps q:Nat)):=by
 have f:=fw_t W V h ps (by omega) q;have a1:=aR W V;have a2:=RK W V;simp only[cK,Bl,Gd,a1,a2,f];cases e:fwB W V ps q with
 | false=>
  simp only[cK,rwV,e];rfl
 | true=>
  have c:=wJ ps q (by omega);have t:=wI (in5 hw hv (D_ hi hq)) .(17) (z0W.mpr ⟨nd,by simp,λ x hx y hy e=>nq (by simp at hy;rw[<-hy,<-e];exact hx)⟩);have m:=Mv (g:=g) (ds:=[.tup ((Ah (ps++[q])).map pN)]) (ob1 W V);simp only[cK,c,t,Gm,m,hg e,rwV,e,if_true]
theorem aU {W V:Wl}{ps:List Pr}(qs:List Pr) (hl:qs.length<=1000) (hg:∀ q∈qs,Bl g [rob W V,.tup .(12),pN q]=some (.int (rwV W V ps q:Nat))):Av g [rob W V,.tup .(12),.lst (qs.map pN)]=some (.int (bst (qs.map (rwV W V ps)):Nat)):=by
 have cm:Bb (seqA (vF 2)) allT (Ey g) [.fz (rob W V),.fz (.tup .(12)),.fz (.lst (qs.map pN))]=some (.lst (qs.map λ q=>iN (rwV W V ps q))):=
  Dt qs pN _ (by simp only[cK,DQ,Ff]) hl λ q hq=>by
   have m:=Mv (g:=Bl g) (ds:=[.tup .(12),pN q]) (ob2 W V);simp only[cK,Ey,Gm,m,hg q hq]
 have mx:=lF (qs.map (rwV W V ps));rw[z0p] at mx;change Tv (.lst (qs.map λ q=>iN (rwV W V ps q))) (.int 0)=_ at mx;simp only[cK,Av,Ge,cm,mx]
theorem t8 {W V:Wl}{g:List D->Option D}{ps:List Pr}(fs ss:List Nat) (hs:ss.length<=100) (hg:∀ f∈fs,Av g [rob W V,.tup .(12),.lst ((ss.map λ s=>(f,s)).map pN)]=some (.int (bst .(21):Nat))) (x2 z6:Slot) :
  ∀ (r:List Nat) (l:List Nat) (z:Slot),(∀ f∈r,f∈fs)->l.length+r.length<=900->∃ z',forF (tgB (Bv 5) (Cr g)) (r.map iN) [.fz (rob W V),.fz (.tup .(12)),x2,.fz (.lst (ss.map iN)),.ow (.lst (l.map iN)),z,z6]=some (.nx [.fz (rob W V),.fz (.tup .(12)),x2,.fz (.lst (ss.map iN)),.ow (.lst ((l++r.map λ f=>bst .(21)).map iN)),z',z6])
 | [],l,z,_,_=>⟨z,by rw[z1b,z1b,z1g];rfl⟩
 | f::r,l,z,hr,hl=>by
  rw[z0u] at hl;have b:=hg f (hr f (by simp));have cm:Bb (seqA (vF 3)) allT (Eg g) [.fz (rob W V),.fz (.tup .(12)),x2,.fz (.lst (ss.map iN)),.ow (.lst (l.map iN)),.fz (iN f),z6]=some (.lst ((ss.map λ s=>(f,s)).map pN)):=by
   rw[z0p];exact Dt ss iN _ (by simp only[cK,DQ,Ff]) (by omega) λ s _=>by simp only[cK,Eg,z0V]
  have m:=Mv (g:=Av g) (ds:=[.tup .(12),.lst ((ss.map λ s=>(f,s)).map pN)]) (ob3 W V);have ap:=aB (l.map iN) (iN (bst .(21))) .(17);have bd:Cr g [.fz (rob W V),.fz (.tup .(12)),x2,.fz (.lst (ss.map iN)),.ow (.lst (l.map iN)),.fz (iN f),z6]=some (.nx [.fz (rob W V),.fz (.tup .(12)),x2,.fz (.lst (ss.map iN)),.ow (.lst ((l++[bst .(21)]).map iN)),.fz (iN f),z6]):=by
   simp only[cK,Cr,Gm,cm,m,b,ap,z0S]
  obtain⟨z',ih⟩:=t8 fs ss hs hg x2 z6 r (l++[bst .(21)]) (.fz (iN f)) (λ y hy=>hr y (by simp[hy])) .(17);refine⟨z',?_⟩
  w_up
  rw[bd,Dv,ih];simp
theorem t_ {W V:Wl}{g:List D->Option D}{ps:List Pr}(fs ss:List Nat) (hs:fs.length<=100) (hg:∀ s∈ss,Av g [rob W V,.tup .(12),.lst ((fs.map λ f=>(f,s)).map pN)]=some (.int (bst .(35):Nat))) (x3 z5:Slot) :
  ∀ (r:List Nat) (l:List Nat) (z:Slot),(∀ f∈r,f∈ss)->l.length+r.length<=900->∃ z',forF (tgB (Bv 6) (Cu g)) (r.map iN) [.fz (rob W V),.fz (.tup .(12)),.fz (.lst (fs.map iN)),x3,.ow (.lst (l.map iN)),z5,z]=some (.nx [.fz (rob W V),.fz (.tup .(12)),.fz (.lst (fs.map iN)),x3,.ow (.lst ((l++r.map λ s=>bst .(35)).map iN)),z5,z'])
 | [],l,z,_,_=>⟨z,by rw[z1b,z1b,z1g];rfl⟩
 | s::r,l,z,hr,hl=>by
  rw[z0u] at hl;have b:=hg s (hr s (by simp));have cm:Bb (seqA (vF 2)) allT (Eh g) [.fz (rob W V),.fz (.tup .(12)),.fz (.lst (fs.map iN)),x3,.ow (.lst (l.map iN)),z5,.fz (iN s)]=some (.lst ((fs.map λ f=>(f,s)).map pN)):=by
   rw[z0p];exact Dt fs iN _ (by simp only[cK,DQ,Ff]) (by omega) λ f _=>by simp only[cK,Eh,z0V]
  have m:=Mv (g:=Av g) (ds:=[.tup .(12),.lst ((fs.map λ f=>(f,s)).map pN)]) (ob3 W V);have ap:=aB (l.map iN) (iN (bst .(35))) .(17);have bd:Cu g [.fz (rob W V),.fz (.tup .(12)),.fz (.lst (fs.map iN)),x3,.ow (.lst (l.map iN)),z5,.fz (iN s)]=some (.nx [.fz (rob W V),.fz (.tup .(12)),.fz (.lst (fs.map iN)),x3,.ow (.lst ((l++[bst .(35)]).map iN)),z5,.fz (iN s)]):=by
   simp only[cK,Cu,Gm,cm,m,b,ap,z0S]
  obtain⟨z',ih⟩:=t_ fs ss hs hg x3 z5 r (l++[bst .(35)]) (.fz (iN s)) (λ y hy=>hr y (by simp[hy])) .(17);refine⟨z',?_⟩
  w_up
  rw[bd,Dv,ih];simp
end
theorem lJ (a b:Nat):minD (.int (a:Int)) (.int (b:Int))=some (.int ((min a b:Nat):Int)):=by
 show some (D.int (if (b:Int)<a then (b:Int) else a))=_;congr 2;split<;>omega
theorem lK (a b:Nat):maxD (.int (a:Int)) (.int (b:Int))=some (.int ((max a b:Nat):Int)):=by
 show some (D.int (if (b:Int) > a then (b:Int) else a))=_;congr 2;split<;>omega
theorem lL {W V:Wl}(hw:WOk W) (hv:WOk V) (h:Sp W V) {g:List D->Option D}{ps:List Pr}(hi:InW W V ps) (nd:ps.Nodup) (hl:ps.length<=5)
  (hg:∀ f∈unp W.n .(42),∀ s∈unp V.n (ps.map (·.2)),fwB W V ps (f,s)=true->g [rob W V,.tup (.(40).map pN)]=some (.int (rkF W V .(40):Nat))):CZ g [rob W V,.tup .(12)]=some (.int (stp W V (rkF W V) ps:Nat)):=by
 have hn:=hw.n5;have hm:=hv.n5;generalize ef:unp W.n .(42)=fs at hg;generalize es:unp V.n (ps.map (·.2))=ss at hg;have lf:fs.length<=5:=by rw[<-ef];exact z0A (Vq _ _) hn
 have ls:ss.length<=5:=by rw[<-es];exact z0A (Vq _ _) hm
 have wth:∀ f∈fs,∀ s∈ss,Bl g [rob W V,.tup .(12),pN (f,s)]=some (.int (rwV W V ps (f,s):Nat)):=λ f hf s hs=>by
  have mf:=hf;have ms:=hs;rw[<-ef] at mf;rw[<-es] at ms;exact qg hw hv h hi nd hl ⟨(Bu.mp mf).1,(Bu.mp ms).1⟩ (λ z=>(Bu.mp mf).2 (z0f.mpr ⟨_,z,rfl⟩)) (hg f hf s hs)
 have b1:∀ f∈fs,Av g [rob W V,.tup .(12),.lst ((ss.map λ s=>(f,s)).map pN)]=some (.int (bst .(21):Nat)):=λ f hf=>
  aU _ .(17) λ q hq=>by
   obtain⟨s,hs,rfl⟩:=z0f.mp hq;exact wth f hf s hs
 have b2:∀ s∈ss,Av g [rob W V,.tup .(12),.lst ((fs.map λ f=>(f,s)).map pN)]=some (.int (bst .(35):Nat)):=λ s hs=>
  aU _ .(17) λ q hq=>by
   obtain⟨f,hf,rfl⟩:=z0f.mp hq;exact wth f hf s hs
 obtain⟨z5,l1⟩:=t8 fs ss (by omega) b1 (.fz (.lst (fs.map iN))) .un fs [] .un (λ _ z=>z) .(17);simp only[z1H,z1b] at l1;obtain⟨z6,l2⟩:=t_ fs ss (by omega) b2 (.fz (.lst (ss.map iN))) z5 ss (fs.map λ f=>bst .(21)) .un (λ _ z=>z) .(17);have a1:=aR W V;have a2:=RK W V;have a3:=Ym W V;have s1:=Ho W;have s2:=Ho V;have c1:Bb (seqA (vF 1)) allT (Ec g) [.fz (rob W V),.fz (.tup .(12)),.un,.un,.un,.un,.un]=some (.lst (.(42).map iN)):=by
  rw[z0p];exact Dt ps pN _ (by simp only[cK,DQ,OD]) (by omega) λ p _=>by
   have:=ixp0 p;simp only[cK,Ec,this,z0V]
 have c2:Bb (seqA (vF 1)) allT (Ed g) [.fz (rob W V),.fz (.tup .(12)),.fz (.lst (fs.map iN)),.un,.un,.un,.un]=some (.lst ((ps.map (·.2)).map iN)):=by
  rw[z0p];exact Dt ps pN _ (by simp only[cK,DQ,OD]) (by omega) λ p _=>by
   have:=ixp1 p;simp only[cK,Ed,this,z0V]
 have u1:=lA W.n (by omega) .(42);have u2:=lA V.n (by omega) (ps.map (·.2));rw[ef] at u1;rw[es] at u2;obtain⟨m,mi,me⟩:=wG ((fs.map λ f=>bst .(21))++(ss.map λ s=>bst .(35))) (endl W V);have ad:addD (.int 1) (.int (m:Int))=some (.int ((1+m:Nat):Int)):=by
  rw[K3];congr 2
 have mn:=lJ (endl W V) (1+m);simp only[cK,CZ,Fv,DQ,Ff,a1,a2,s1,s2,c1,u1,c2,u2,l1,l2,a3,mi,ad,mn];rw[me];have fin:min (endl W V) (1+((fs.map λ f=>bst .(21))++(ss.map λ s=>bst .(35))).foldr min (endl W V))=stp W V (rkF W V) ps:=by
  unfold stp;simp only[ef,es,z0p,z0V,rwV]
 rw[fin]
theorem aV (d:D):(some d:Option D).bind keyP=keyP d:=rfl
theorem lO {W V:Wl}(hw:WOk W) (hv:WOk V) (h:Sp W V):∀ (n:Nat) (ps:List Pr),InW W V ps->SrtP ps->afS W V ps=true->(unp W.n .(42)).length<n->Ag n [rob W V,.tup .(12)]=some (.int (rkF W V ps:Nat))
 | 0,ps,_,_,_,hu=>by omega
 | n+1,ps,hi,hs,ha,hu=>by
  have nd:=km hs;have hl:ps.length<=5:=z0A (qR nd hi ha) hw.n5;have lt:=lL (g:=Ag n) hw hv h hi nd hl λ f hf s hs hfw=>by
   have hq:=D_ hi (q:=(f,s)) ⟨(Bu.mp hf).1,(Bu.mp hs).1⟩;exact lO hw hv h n _ (TF hw hv hi hf hs) (Li hw hv hq) (by rw[O7 hw hv hq];exact O6.mpr ⟨ha,hfw⟩) (z0X (Vr hw hv hi hf hs) (z4C hu))
  rw[<-Vs hw hv hi ha] at lt;have a:=lG W V;have m:=Mv (g:=CZ (Ag n)) (ds:=[.tup .(12)]) (ob4 W V);have k:=lH (in5 hw hv hi) hl;have r:Bd (Ag n) [.fz (rob W V),.fz (.tup .(12))]=some (.rt (.int (rkF W V ps:Nat)) [.fz (rob W V),.fz (.tup .(12))]):=by
   unfold Bd;refine wK (F:=FW W V) (ps:=ps) ?_ ?_ ?_ (t6 W V ps).symm
   ·simp only[cK,a]
   ·simp only[e_v,e_vs,z24,z1S,aV,k]
   ·simp only[cK,Gm,m,lt]
  show runF 2 2 (Bd (Ag n)) [rob W V,.tup .(12)]=_;simp only[cK,r]
theorem of_ok {W V:Wl}(hw:WOk W) (hv:WOk V) (h:Sp W V) (rows:List Pr) (hi:InW W V rows) (hl:rows.length<=5):BJ [rob W V,.lst .(9)]=some (.int (rkF W V (Ah rows):Nat)):=by
 have hi':=Lh hw hv hi;have hl':(Ah rows).length<=5:=z0A (cu hw hv hi) hl;have t:=wH (in5 hw hv hi) (by omega);have k:=lH (in5 hw hv hi') hl';have a:=lG W V;have a1:=aR W V;have a2:=RK W V;have af:=af_t W V h (Ah rows) (by omega);have h1:uF (fldD "reckoned") (vF 0) [.fz (rob W V),.fz .(5),.fz (.tup ((Ah rows).map pN))]=some (.mem (FW W V)):=by simp only[cK,a]
 have h2:(vF 2 [.fz (rob W V),.fz .(5),.fz (.tup ((Ah rows).map pN))]).bind keyP=some (Ah rows):=by simp only[e_v,e_vs,z24,z1S,aV,k]
 cases e:afS W V (Ah rows) with
 | true=>
  have ft:=lO hw hv h 8 (Ah rows) hi' (Li hw hv hi) e (z2Q (z0A (Vq _ _) hw.n5) (by decide));have m:=Mv (g:=Ag 8) (ds:=[.tup ((Ah rows).map pN)]) (ob1 W V);have b:=qZ (c:="Ranks") (m:="rank_of_fitting") (ft:=trF (Am (Et) (Aa (uF (fldD "one") (vF 0)) (Aa (uF (fldD "other") (vF 0)) (Aa (vF 2) (nilA)))))) (fr:=Dy "Ranks" "rank_of_fitting" (Ag 8) (vF 0) (Aa (vF 2) (nilA))) h1 h2 (by simp only[cK,a1,a2,af,e]);simp only[cK,BJ,Fp,t];rw[b];simp only[cK,Gm,m,ft]
 | false=>
  have b:=qe (c:="Ranks") (m:="rank_of_fitting") (ft:=trF (Am (Et) (Aa (uF (fldD "one") (vF 0)) (Aa (uF (fldD "other") (vF 0)) (Aa (vF 2) (nilA)))))) (fr:=Dy "Ranks" "rank_of_fitting" (Ag 8) (vF 0) (Aa (vF 2) (nilA))) h1 h2 (by simp only[cK,a1,a2,af,e]) (by rw[t6,QV e];rfl) (by simp only[e_v,e_vs,z1S];rw[<-ob1 W V];rfl);simp only[cK,BJ,Fp,t];rw[b,QV e];simp only[cK];rfl
def told (W V:Wl) (r:Nat):D:=if r=endl W V then .non else .int (r:Nat)
theorem qi {W V:Wl}(hw:WOk W) (hv:WOk V) (h:Sp W V) (rows:List Pr) (hi:InW W V rows) (hl:rows.length<=5):Cv [rob W V,.lst .(9)]=some (told W V (rkF W V (Ah rows))):=by
 have o:=of_ok hw hv h rows hi hl;have m:=Mv (g:=BJ) (ds:=[.lst .(9)]) (ob5 W V);have a:=Ym W V;simp only[cK,Cv,Gf,Gm,m,o,a,Mt];unfold told
 by_cases c:rkF W V (Ah rows)=endl W V
 ·rw[decide_eq_true c,if_pos c];simp only[cK]
 ·rw[decide_eq_false c,if_neg c];simp only[cK]
abbrev rO (W:Wl):Str×Bool×D:=("one",false,wob W)
abbrev rV (V:Wl):Str×Bool×D:=("other",false,wob V)
abbrev rR (W V:Wl):Str×Bool×D:=("reckoned",false,.mem (FW W V))
abbrev rE (W V:Wl):Str×Bool×D:=("endless",false,.int (endl W V:Nat))
theorem XQ (W V:Wl) (x:Addr):CN x [wob W,wob V]=some [rO W,rV V,rR W V,rE W V]:=by
 have s1:=Ho W;have s2:=Ho V;have mx:=lK W.n V.n;have ad:addD (.int ((max W.n V.n:Nat):Int)) (.int 1)=some (.int (endl W V:Nat)):=by
  rw[K3];congr 2
 have e4:bF addD (bF maxD (uF (fldD "size") (vF 1)) (uF (fldD "size") (vF 2))) .(13) [.fz (.adr x),.fz (wob W),.fz (wob V)]=some (.int (endl W V:Nat)):=by simp only[cK,s1,s2,mx,ad]
 have e3:memE Phi [.fz (.adr x),.fz (wob W),.fz (wob V)]=some (.mem (FW W V)):=by
  show some (D.mem (FF (wob W) (wob V)))=_;rw[yM]
 have st:Rt 3 x [wob W,wob V]=[.fz (.adr x),.fz (wob W),.fz (wob V)]:=rfl;unfold CN runI;rw[if_pos (show [wob W,wob V].length+1=3 from rfl),st];unfold Gw;have p1:IW "one" (vF 1) [.fz (.adr x),.fz (wob W),.fz (wob V)] []=some ([.fz (.adr x),.fz (wob W),.fz (wob V)],[rO W]):=rfl;have p2:IW "other" (vF 2) [.fz (.adr x),.fz (wob W),.fz (wob V)] [rO W]=some ([.fz (.adr x),.fz (wob W),.fz (wob V)],[rO W,rV V]):=by
  have l:z0m ("other":Str) [rO W]=none:=by rw[z0r,u1];rfl
  unfold IW;show (if (z0m ("other":Str) [rO W]).isNone=true/\1<1000 then some (_,[rO W]++[rV V]) else none)=_;rw[l,if_pos ⟨rfl,by decide⟩];rfl
 have p3:IW "reckoned" (memE Phi) [.fz (.adr x),.fz (wob W),.fz (wob V)] [rO W,rV V]=some ([.fz (.adr x),.fz (wob W),.fz (wob V)],[rO W,rV V,rR W V]):=by
  have l:z0m ("reckoned":Str) [rO W,rV V]=none:=by
   rw[z0r,u2];show z0m ("reckoned":Str) [rV V]=none;rw[z0r,u3];rfl
  unfold IW;rw[e3];show (if (z0m ("reckoned":Str) [rO W,rV V]).isNone=true/\2<1000 then some (_,[rO W,rV V]++[rR W V]) else none)=_;rw[l,if_pos ⟨rfl,by decide⟩];rfl
 have p4:IW "endless" (bF addD (bF maxD (uF (fldD "size") (vF 1)) (uF (fldD "size") (vF 2))) .(13)) [.fz (.adr x),.fz (wob W),.fz (wob V)] [rO W,rV V,rR W V]=some ([.fz (.adr x),.fz (wob W),.fz (wob V)],[rO W,rV V,rR W V,rE W V]):=by
  have l:z0m ("endless":Str) [rO W,rV V,rR W V]=none:=by
   rw[z0r,u4];show z0m ("endless":Str) [rV V,rR W V]=none;rw[z0r,u5];show z0m ("endless":Str) [rR W V]=none;rw[z0r,u6];rfl
  unfold IW;rw[e4];show (if (z0m ("endless":Str) [rO W,rV V,rR W V]).isNone=true/\3<1000 then some (_,[rO W,rV V,rR W V]++[rE W V]) else none)=_;rw[l,if_pos ⟨rfl,by decide⟩];rfl
 rw[GD,p1,Dw,GD,p2,Dw,GD,p3,Dw,GD,p4,Dw,iu];rfl
theorem lQ (W V:Wl) (fs:FA) (ρ:Rho) (hf:fs ρ=some [wob W,wob V]):mkI "Ranks" CN fs ρ=some (rob W V):=by
 unfold mkI;rw[hf];simp only[z0M,XQ W V 0];rw[if_pos (λ x=>XQ W V x)];rfl
theorem aW {W V:Wl}(hw:WOk W) (hv:WOk V) (h:Spk W V) (rows:List Pr) (hi:InW W V rows) (hl:rows.length<=5):Sd [wob W,wob V,.lst .(9)]=some (told W V (rkF W V (Ah rows))):=by
 have s:=Ng W V hw hv h rows hi;have t:=qi hw hv h.sp rows hi hl;have m:=Mv (g:=Cv) (ds:=[.lst .(9)]) (ob6 W V);have mk:=lQ W V (Aa (vF 0) (Aa (vF 1) nilA)) [.fz (wob W),.fz (wob V),.fz .(5)] (by simp only[cK]);simp only[cK,Sd,Yc,s,Gm,mk,m,t]
theorem rngN (n:Nat) (hn:n<=100):rngO (some .(1))=some ((z0d n).map iN):=by
 rw[U9 (n:Int) (by omega),z1a];rfl
def prS (side t r:Nat):Pr:=if side=0 then (t,r) else (r,t)
def szS (W V:Wl) (side:Nat):Nat:=if side=0 then W.n else V.n
theorem lR (W V:Wl) (side:Nat):DW [rob W V,.int (side:Int)]=some (.int (szS W V side:Nat)):=by
 have a1:=aR W V;have a2:=RK W V;have s1:=Ho W;have s2:=Ho V;have e:eqD false .(28) (.int 0)=some (.bl (decide (side=0))):=Mt side 0;simp only[cK,DW,Ik,e];unfold szS
 by_cases c:side=0
 ·rw[decide_eq_true c,if_pos c];simp only[cK,a1,s1]
 ·rw[decide_eq_false c,if_neg c];simp only[cK,a2,s2]
theorem qj (side t r:Nat):MP [.int (side:Int),.int (t:Int),.int (r:Int)]=some (pN (prS side t r)):=by
 have e:eqD false .(28) (.int 0)=some (.bl (decide (side=0))):=Mt side 0;simp only[cK,MP,QF,e];unfold prS
 by_cases c:side=0
 ·rw[decide_eq_true c,if_pos c];simp only[cK]
 ·rw[decide_eq_false c,if_neg c];simp only[cK]
theorem XR {W V:Wl}(hw:WOk W) (hv:WOk V) (side:Nat):szS W V side<=5:=by
 have:=hw.n5;have:=hv.n5;unfold szS;split<;>omega
theorem ql (n:Nat):((z0d n).filter λ _=>true)=z0d n:=by simp
theorem XS (h:Nat->D) (src:FI) (hs:src ρ=some (rngD n)) (hn:n<=1000) (h2:∀ k,k<n->fe (ρ++[.fz (.int k)])=some (h k)):Bb src allT fe ρ=some (.lst ((z0d n).map h)):=by
 have:=Ma (ga:=allT) (λ _=>true) h src hs hn (λ _ _=>rfl) h2
 rwa [ql] at this
theorem qm {W V:Wl}(hw:WOk W) (hv:WOk V) (side t:Nat) (h1:side<=1):HW [rob W V,.int (side:Int),.int (t:Int)]=some (.lst (((z0d (szS W V (1-side))).map λ r=>prS side t r).map pN)):=by
 have sb:subD (.int 1) .(28)=some (.int ((1-side:Nat):Int)):=by
  rw[Pu];congr 2;omega
 have sz:=lR W V (1-side);have rg:rngI (Am (DW) (Aa (vF 0) (Aa (bF subD .(13) (vF 1)) (nilA)))) [.fz (rob W V),.fz .(28),.fz (.int (t:Int))]=some (rngD (szS W V (1-side))):=by
  have:=XR hw hv (1-side);have:=rngN (szS W V (1-side)) (by omega);simp only[cK,sb,sz,this];rfl
 have cm:=XS (fe:=Jf) (λ r=>pN (prS side t r)) _ rg (by have:=XR hw hv (1-side);omega) λ k _=>by
  have:=qj side t k;simp only[cK,Jf,this]
 simp only[cK,HW,LC,cm,z0p,z0V]
theorem lU (l:List Pr) (q:Pr) (h:l.length<=1000):addD (.lst (l.map pN)) (.lst [pN q])=some (.lst ((l++[q]).map pN)):=by
 rw[U7 .(17)];simp
theorem lV {W V:Wl}{side t r:Nat}(h1:side<=1) (ht:t<szS W V side) (hr:r<szS W V (1-side)):(prS side t r).1<W.n/\(prS side t r).2<V.n:=by
 unfold prS szS at *
 rcases z9K.mp h1 with rfl | rfl
 ·exact⟨ht,hr⟩
 ·exact⟨hr,ht⟩
theorem dB {W V:Wl}(hw:WOk W) (hv:WOk V) (h:Sp W V) (rows:List Pr) (hi:InW W V rows) (hl:rows.length<=4) (side t:Nat) (h1:side<=1) (ht:t<szS W V side) :
  Gg [rob W V,.lst .(9),.int (side:Int),.int (t:Int)]=some (.lst (((z0d (szS W V (1-side))).map λ r=>rkF W V (Ah (rows++[prS side t r]))).map iN)):=by
 have np:=qm hw hv side t h1;have sz:=XR hw hv (1-side);have cm:Bb (seqA (Am (HW) (Aa (vF 0) (Aa (vF 2) (Aa (vF 3) (nilA)))))) allT Gy [.fz (rob W V),.fz .(5),.fz .(28),.fz (.int (t:Int))]=some (.lst (((z0d (szS W V (1-side))).map λ r=>prS side t r).map λ q=>iN (rkF W V (Ah (rows++[q]))))):=
  Dt _ pN _ (by simp only[cK,np,DQ,Ff]) .(17) λ q hq=>by
   obtain⟨r,hr,rfl⟩:=z0f.mp hq;have o:=of_ok hw hv h (rows++[prS side t r]) (D_ hi (lV h1 ht (z0o.mp hr))) .(17);have ad:=lU rows (prS side t r) (by omega);have m:=Mv (g:=BJ) (ds:=[.lst ((rows++[prS side t r]).map pN)]) (ob5 W V);simp only[cK,Gy,Gm,ad,m,o]
 simp only[cK,Gg,Il,cm,z0p,z0V]
abbrev bhd (W V:Wl) (rows:List Pr) (side t:Nat):Nat:=bst ((z0d (szS W V (1-side))).map λ r=>rkF W V (Ah (rows++[prS side t r])))
theorem aX (a b:Nat):ltD (.int (a:Int)) (.int (b:Int))=some (.bl (decide (a<b))):=by
 rw[T7];congr 2;rw[decide_eq_decide];omega
theorem inner {W V:Wl}(hw:WOk W) (hv:WOk V) (h:Sp W V) (rows:List Pr) (hi:InW W V rows) (hl:rows.length<=4) (side R:Nat) (h1:side<=1):∀ (r:List Nat) (z:Slot),(∀ t∈r,t<szS W V side) ->
  (∃ t ρ,t<szS W V side/\bhd W V rows side t<R/\forF (tgB (Bv 4) Aw) (r.map iN) [.fz (rob W V),.fz .(5),.fz (.int (R:Int)),.fz .(28),z]=some (.rt .(38) ρ)) ∨
  ((∀ t∈r,¬ bhd W V rows side t<R)/\∃ z',forF (tgB (Bv 4) Aw) (r.map iN) [.fz (rob W V),.fz .(5),.fz (.int (R:Int)),.fz .(28),z]=some (.nx [.fz (rob W V),.fz .(5),.fz (.int (R:Int)),.fz .(28),z']))
 | [],z,_=>.inr ⟨by simp,z,rfl⟩
 | t::r,z,ht=>by
  have b:=dB hw hv h rows hi hl side t h1 (ht t (by simp));have mx:=lF ((z0d (szS W V (1-side))).map λ r=>rkF W V (Ah (rows++[prS side t r])));have lt:=aX (bhd W V rows side t) R;have bd:Aw [.fz (rob W V),.fz .(5),.fz (.int (R:Int)),.fz .(28),.fz (iN t)]=(if bhd W V rows side t<R then some (.rt .(38) [.fz (rob W V),.fz .(5),.fz (.int (R:Int)),.fz .(28),.fz (iN t)]) else some (.nx [.fz (rob W V),.fz .(5),.fz (.int (R:Int)),.fz .(28),.fz (iN t)])):=by
   simp only[cK,Aw,b,mx,lt]
   by_cases c:bhd W V rows side t<R
   ·rw[decide_eq_true c,if_pos c];simp only[cK]
   ·rw[decide_eq_false c,if_neg c];simp only[cK]
  have st:forF (tgB (Bv 4) Aw) ((t::r).map iN) [.fz (rob W V),.fz .(5),.fz (.int (R:Int)),.fz .(28),z]=forB (Aw [.fz (rob W V),.fz .(5),.fz (.int (R:Int)),.fz .(28),.fz (iN t)]) (tgB (Bv 4) Aw) (r.map iN):=by
   w_up
  rw[st,bd]
  by_cases c:bhd W V rows side t<R
  ·rw[if_pos c,N7];exact .inl ⟨t,_,ht t (by simp),c,rfl⟩
  ·rw[if_neg c,Dv]
   rcases inner hw hv h rows hi hl side R h1 r (.fz (iN t)) λ y hy=>ht y (by simp[hy]) with z | ⟨z1,z2⟩
   ·exact .inl z
   ·exact .inr ⟨λ y hy=>by rcases z0i.mp hy with rfl | hy;exact c;exact z1 y hy,z2⟩
theorem lW {W V:Wl}(hw:WOk W) (hv:WOk V) (h:Spk W V) (rows:List Pr) (hi:InW W V rows) (hl:rows.length<=4) (h0:rkF W V (Ah rows)≠0) (he:rkF W V (Ah rows)≠endl W V) :
  ∃ side t,side<=1/\t<szS W V side/\(∀ r,r<szS W V (1-side)->rkF W V (Ah (rows++[prS side t r]))<rkF W V (Ah rows))/\Gz [wob W,wob V,.lst .(9)]=some .(38):=by
 have s:=Ng W V hw hv h rows hi;have mk:=lQ W V (Aa (vF 0) (Aa (vF 1) nilA)) [.fz (wob W),.fz (wob V),.fz .(5)] (by simp only[cK]);have ll:K1 .(5)=some .(5):=zE_ _;have o:=of_ok hw hv h.sp rows hi (by omega);have m:=Mv (g:=BJ) (ds:=[.lst .(9)]) (ob5 W V);have ae:=Ym W V;have e1:eqD false (.int ((rkF W V (Ah rows):Nat):Int)) (.int 0)=some (.bl false):=by rw[show (D.int 0)=.int ((0:Nat):Int) from rfl,Mt,decide_eq_false h0]
 have e2:eqD false (.int ((rkF W V (Ah rows):Nat):Int)) (.int (endl W V:Nat))=some (.bl false):=by rw[Mt,decide_eq_false he]
 generalize eR:rkF W V (Ah rows)=R at *;have good:(∃ t,t<W.n/\bhd W V rows 0 t<R)∨∃ s,s<V.n/\bhd W V rows 1 s<R:=by
  have rs:∀ q:Pr,q.1<W.n/\q.2<V.n->Ah (Ah rows++[q])=Ah (rows++[q]):=λ q hq=>cg hw hv (D_ (Lh hw hv hi) hq) (D_ hi hq) λ x=>by simp[Gn hw hv hi]
  rcases k_ hw hv (Lh hw hv hi) (by rw[eR];exact h0) (by rw[eR];exact he) with ⟨t,ht,k⟩ | ⟨t,ht,k⟩
  ·refine .inl ⟨t,ht,Yk (by omega) λ x hx=>?_⟩;obtain⟨r,hr,rfl⟩:=z0f.mp hx;have hr:=z0o.mp hr;have:=k r hr;rw[rs (t,r) ⟨ht,hr⟩,eR] at this;exact this
  ·refine .inr ⟨t,ht,Yk (by omega) λ x hx=>?_⟩;obtain⟨r,hr,rfl⟩:=z0f.mp hx;have hr:=z0o.mp hr;have:=k r hr;rw[rs (r,t) ⟨hr,ht⟩,eR] at this;exact this
 have fin:∀ side t,side<=1->t<szS W V side->bhd W V rows side t<R->∀ r,r<szS W V (1-side)->rkF W V (Ah (rows++[prS side t r]))<R:=λ side t _ _ hb r hr=>z2Q (Vt (z0f.mpr ⟨r,z0o.mpr hr,rfl⟩)) hb;have n5:=XR hw hv;have out:∀ side z,Dz [.fz (rob W V),.fz .(5),.fz (.int (R:Int)),.fz (.int ((side:Nat):Int)),z]=forF (tgB (Bv 4) Aw) ((z0d (szS W V side)).map iN) [.fz (rob W V),.fz .(5),.fz (.int (R:Int)),.fz .(28),z]:=λ side z=>by
  have sz:=lR W V side;have r:=rngN (szS W V side) (by have:=n5 side;omega);simp only[cK,Dz,sz,r]
 have run:Dp [rob W V,.lst .(9)]=runO (forB (forF (tgB (Bv 4) Aw) ((z0d (szS W V 0)).map iN) [.fz (rob W V),.fz .(5),.fz (.int (R:Int)),.fz (.int ((0:Nat):Int)),.un]) (tgB (Bv 3) Dz) [.int ((1:Nat):Int)]):=by
  rw[<-out];simp only[cK,Dp,Hl,Gm,m,o,ae,e1,e2,DQ,OD];rfl
 have fin2:∀ d,Dp [rob W V,.lst .(9)]=some d->Gz [wob W,wob V,.lst .(9)]=some d:=λ d e=>by simp only[cK,Gz,NB,s,mk,ll,e]
 rcases inner hw hv h.sp rows hi hl 0 R (by omega) (z0d (szS W V 0)) .un (λ t ht=>z0o.mp ht) with ⟨t,ρ,ht,hb,e⟩ | ⟨no,z',e⟩
 ·refine⟨0,t,by omega,ht,fin 0 t (by omega) ht hb,fin2 _ ?_⟩;rw[run,e,N7];simp only[cK]
 ·rcases inner hw hv h.sp rows hi hl 1 R (by omega) (z0d (szS W V 1)) z' (λ t ht=>z0o.mp ht) with ⟨t,ρ,ht,hb,e'⟩ | ⟨no',_,_⟩
  ·refine⟨1,t,by omega,ht,fin 1 t (by omega) ht hb,fin2 _ ?_⟩;rw[run,e,Dv,En,e_tg,J3,KR];simp only[z1e,z1f];rw[out,e',N7];simp only[cK]
  ·rcases good with ⟨t,ht,hb⟩ | ⟨t,ht,hb⟩
   ·exact absurd hb (no t (z0o.mpr ht))
   ·exact absurd hb (no' t (z0o.mpr ht))
theorem ek_n (k a:Nat):eqK (k+1) (.int (a:Int)) (.int (a:Int))=some true:=by
 show some (eqV (.int (a:Int)) (.int (a:Int)))=_;simp[eqV]
theorem yP (k:Nat) (p:Pr):eqK (k+2) (pN p) (pN p)=some true:=by
 show (if 2=2 then allO (eqK (k+1)) [.int (p.1:Int),.int (p.2:Int)] [.int (p.1:Int),.int (p.2:Int)] else none)=_;rw[if_pos rfl];simp only[allO,ek_n];rfl
theorem lX (l:List Pr):eqD true (.lst (l.map pN)) (.lst (l.map pN))=some (.bl false):=by
 have h:∀ l:List Pr,allO (eqK 180) (l.map pN) (l.map pN)=some true:=λ l=>by
  induction l with
  | nil=>rfl
  | cons p r ih=>
   show (match eqK 180 (pN p) (pN p),allO (eqK 180) (r.map pN) (r.map pN) with | some a,some b=>some (a&&b) | _,_=>none)=_;rw[ih,yP 178 p];rfl
 unfold eqD;have:eqvD (.lst (l.map pN)) (.lst (l.map pN))=some true:=by
  show (if (l.map pN).length=(l.map pN).length then allO (eqK 180) (l.map pN) (l.map pN) else some false)=_;rw[if_pos rfl,h]
 rw[this];rfl
theorem qp (p:Pr):eqD false (pN p) (pN p)=some (.bl true):=by
 unfold eqD;have:eqvD (pN p) (pN p)=some true:=by
  show (if 2=2 then allO (eqK 180) [.int (p.1:Int),.int (p.2:Int)] [.int (p.1:Int),.int (p.2:Int)] else none)=_;rw[if_pos rfl];simp only[allO,ek_n 179];rfl
 rw[this];rfl
theorem yQ (a:Nat):leD (.int 0) (.int (a:Int))=some (.bl true):=by
 rw[ZX,decide_eq_true (by omega)]
theorem XX (t n:Nat):Ce [.int (t:Int),.int (n:Int)]=some (.bl (decide (t<n))):=by
 have i1:isiD "int" (.int (t:Int))=some (.bl true):=rfl;have i2:isiD "bool" (.int (t:Int))=some (.bl false):=rfl;have l0:=yQ t;have l1:=aX t n;simp only[cK,Ce,Hm,i1,i2,l0,l1]
theorem Vu (a b:D) (side:Nat) (h:side<=1):ixE (.lst [a,b]) .(28)=some (if side=0 then a else b):=by
 rcases z9K.mp h with rfl | rfl
 ·rfl
 ·rfl
theorem qt (side t r:Nat):(if side=0 then D.tup [.int (t:Int),.int (r:Int)] else .tup [.int (r:Int),.int (t:Int)])=pN (prS side t r):=by
 unfold prS;split<;>rfl
theorem aZ (W V:Wl) (side:Nat):(if side=0 then D.int (W.n:Int) else .int (V.n:Int))=.int ((szS W V side:Nat):Int):=by
 unfold szS;split<;>rfl
theorem aa {W V:Wl}{r:Nat}(h:r<endl W V):told W V r=.int (r:Int):=by
 unfold told;rw[if_neg (by omega)]
theorem uA (i:Int):isND false (.int i)=some (.bl false):=rfl
theorem yR (a b:Nat):geD (.int (a:Int)) (.int (b:Int))=some (.bl (decide (b<=a))):=by
 rw[ZZ];congr 2;rw[decide_eq_decide];omega
theorem Uh {W V:Wl}(hw:WOk W) (hv:WOk V) (h:Spk W V) (rows:List Pr) (hi:InW W V rows) (hl:rows.length<=4) (side t R:Nat) (h1:side<=1) (ht:t<szS W V side) (hR:R<endl W V) (hb:∀ r,r<szS W V (1-side)->rkF W V (Ah (rows++[prS side t r]))<R) (x4 x5 x8:Slot) :
  ∀ (rs:List Nat) (z9 z10 z11:Slot),(∀ r∈rs,r<szS W V (1-side))->∃ y9 y10 y11,forF (tgB (Bv 9) HB) (rs.map iN) [.fz (wob W),.fz (wob V),.fz .(5),.fz (.int (R:Int)),x4,x5,.fz .(28),.fz (.int (t:Int)),x8,z9,z10,z11]=some (.nx [.fz (wob W),.fz (wob V),.fz .(5),.fz (.int (R:Int)),x4,x5,.fz .(28),.fz (.int (t:Int)),x8,y9,y10,y11])
 | [],z9,z10,z11,_=>⟨z9,z10,z11,rfl⟩
 | r::rs,z9,z10,z11,hr=>by
  have r1:=hr r (by simp);have ix:=Vu (.tup [.int (t:Int),.int (r:Int)]) (.tup [.int (r:Int),.int (t:Int)]) side h1;rw[qt] at ix;have ad:=lU rows (prS side t r) (by omega);have rk:=aW hw hv h (rows++[prS side t r]) (D_ hi (lV h1 ht r1)) .(17);have lt:=hb r r1;rw[aa (by omega)] at rk;have n:=uA ((rkF W V (Ah (rows++[prS side t r])):Nat):Int);have ge:=yR (rkF W V (Ah (rows++[prS side t r]))) R;rw[decide_eq_false (by omega)] at ge;have bd:HB [.fz (wob W),.fz (wob V),.fz .(5),.fz (.int (R:Int)),x4,x5,.fz .(28),.fz (.int (t:Int)),x8,.fz (iN r),z10,z11]=some (.nx [.fz (wob W),.fz (wob V),.fz .(5),.fz (.int (R:Int)),x4,x5,.fz .(28),.fz (.int (t:Int)),x8,.fz (iN r),.fz (pN (prS side t r)),.fz (.int (rkF W V (Ah (rows++[prS side t r])):Nat))]):=by
   simp only[cK,HB,ix,ad,rk,n,ge]
  obtain⟨y9,y10,y11,ih⟩:=Uh hw hv h rows hi hl side t R h1 ht hR hb x4 x5 x8 rs (.fz (iN r)) (.fz (pN (prS side t r))) (.fz (.int (rkF W V (Ah (rows++[prS side t r])):Nat))) λ y hy=>hr y (by simp[hy]);refine⟨y9,y10,y11,?_⟩
  w_up
  rw[bd,Dv,ih]
theorem qu (a b:D):lenE (.tup [a,b])=some (.int 2):=zE_ _
theorem aj {W V:Wl}(hw:WOk W) (hv:WOk V) (h:Spk W V) (rows:List Pr) (hi:InW W V rows) (hl:rows.length<=4):Ei [wob W,wob V,.lst .(9)]=some (.bl true):=by
 have rk:=aW hw hv h rows hi (by omega);have le:=tZ hw hv (Lh hw hv hi)
 by_cases ce:rkF W V (Ah rows)=endl W V
 ·have t:told W V (rkF W V (Ah rows))=.non:=by unfold told;rw[if_pos ce]
  rw[t] at rk;have n:isND false .non=some (.bl true):=rfl;simp only[cK,Ei,HX,rk,n]
 ·rw[aa (by omega)] at rk;have n:=uA ((rkF W V (Ah rows):Nat):Int);have e0:eqD false (.int ((rkF W V (Ah rows):Nat):Int)) (.int 0)=some (.bl (decide (rkF W V (Ah rows)=0))):=Mt _ 0
  by_cases c0:rkF W V (Ah rows)=0
  ·rw[decide_eq_true c0] at e0;simp only[cK,Ei,HX,rk,n,e0]
  ·rw[decide_eq_false c0] at e0;obtain⟨side,t,h1,ht,hb,pt⟩:=lW hw hv h rows hi hl c0 ce;generalize eR:rkF W V (Ah rows)=R at *;have ll:K1 .(5)=some .(5):=zE_ _;have it:isiD "tuple" .(38)=some (.bl true):=rfl;have ln:=qu .(28) (.int (t:Int));have n2:eqD true (.int 2) (.int 2)=some (.bl false):=rfl;have j0:=ixp0 (side,t);have th0:Ce [.int (side:Int),.int 2]=some (.bl true):=by
    have:=XX side 2;rw[decide_eq_true (by omega)] at this;exact this
   have np:=lX rows;have s1:=Ho W;have s2:=Ho V;have ix:=Vu .(32) (.int (V.n:Int)) side h1;rw[aZ] at ix;have th1:=XX t (szS W V side);rw[decide_eq_true ht] at th1;have sb:subD (.int 1) .(28)=some (.int ((1-side:Nat):Int)):=by
    rw[Pu];congr 2;omega
   have ix':=Vu .(32) (.int (V.n:Int)) (1-side) (by omega);rw[aZ] at ix';have rg:=rngN (szS W V (1-side)) (by have:=XR hw hv (1-side);omega);obtain⟨y9,y10,y11,lp⟩:=Uh hw hv h rows hi hl side t R h1 ht (by omega) hb (.fz .(5)) (.fz .(38)) (.fz (.lst [.int (W.n:Int),.int (V.n:Int)])) (z0d (szS W V (1-side))) .un .un .un λ r hr=>z0o.mp hr;have ep:eqD false .(38) .(38)=some (.bl true):=qp (side,t);have asg:∀ ρ:Rho,tupG 2 (BK 6 (BK 7 nilG)) .(38) ρ=some ((ρ.set 6 (.fz .(28))).set 7 (.fz (.int (t:Int)))):=λ ρ=>rfl;have e_asg:∀ (f:FE) (g:FG) (ρ:Rho) (d:D),f ρ=some d->asgF f g ρ=(g d ρ).map .nx:=λ f g ρ d e=>by unfold asgF;rw[e];rfl
   simp only[cK,Ei,HX,rk,n,e0,ll,pt,it,ln,n2,j0,th0,np];rw[e_asg _ _ _ _ rfl,asg];simp only[cK,s1,s2,ix,th1,sb,ix',rg,lp,pt,ep]
theorem lY (i j:Int) (h:0<=j):shrD (.int i) (.int j)=some (.int (i/2^j.toNat)):=by
 show (if 0<=j then some (D.int (i/2^j.toNat)) else none)=_;rw[if_pos h]
theorem ak (i j:Int):Y_ (.int i) (.int j)=some (.int (z3J i j)):=zE_ _
structure Mk (n:Nat) (ws:List Str) (k:Nat) (ms:List (Str×List Nat)):Prop where
 nm:ms.map (·.1)=ws.take k
 ok:∀ p∈ms,p.2.Nodup/\p.2.length<=100/\∀ t∈p.2,t<n
structure Tk (n:Nat) (ws:List Str) (k:Nat) (ts:List (Str×List (Nat×Nat))):Prop where
 nm:ts.map (·.1)=ws.take k
 ok:∀ p∈ts,p.2.Nodup/\p.2.length<=100/\∀ q∈p.2,q.1<n/\q.2<n
theorem lZ {α:Type}{ms:List (Str×α)}{k:Nat}(nm:ms.map (·.1)=ws.take k) (nd:ws.Nodup) (hk:k<ws.length):ws[k]∉ms.map (·.1):=by
 rw[nm];intro q;obtain⟨j,hj,e⟩:=z5n q;rw[z1i] at hj;rw[z8S] at e;have:=cY nd (by omega) hk e;omega
theorem lg {α:Type}{ms:List (Str×α)}{k:Nat}(nm:ms.map (·.1)=ws.take k):ms.length<=k:=by
 have:=congrArg z0P nm;rw[z07,z1i] at this;omega
theorem dC (n:Nat) (hn:n<=5) (x2:Slot) (bits:Int) (ws:List Str) (hw:ws.length<=3) (nd:ws.Nodup) (k:Nat) (hk:k<ws.length) (ms:List (Str×List Nat)) (hm:Mk n ws k ms) (z6 z7 z8:Slot) :
  ∃ ms',GJ [.fz .(1),.fz (.lst (ws.map .str)),x2,.fz (.int bits),.ow (.dk (eM ms)),.fz (.int (k:Int)),z6,z7,z8]=some (.nx [.fz .(1),.fz (.lst (ws.map .str)),x2,.fz (.int bits),.ow (.dk (eM ms')),.fz (.int (k:Int)),z6,z7,z8])/\Mk n ws (k+1) ms':=by
 obtain⟨f,hf⟩:∃ f:Nat->Bool,∀ t,t<n->GF ([.fz .(1),.fz (.lst (ws.map .str)),x2,.fz (.int bits),.ow (.dk (eM ms)),.fz (.int (k:Int)),z6,z7,z8]++[.fz (.int (t:Int))])=some (f t):=by
  refine⟨λ t=>decide (z3J (bits/2^(5*(k:Int)+t).toNat) 1=1),λ t ht=>?_⟩;have m1:=U6 5 (k:Int) (by decide);have s1:=lY bits (5*(k:Int)+t) (by omega);simp only[ciK,GF,m1,s1,ak]
 have cm:Bb (rngI (vF 0)) GF K_ [.fz .(1),.fz (.lst (ws.map .str)),x2,.fz (.int bits),.ow (.dk (eM ms)),.fz (.int (k:Int)),z6,z7,z8]=some (lM ((z0d n).filter f)):=
  Ma f iN _ (Vk n (by omega) _ 0 rfl) (by omega) hf λ t ht=>rfl
 have ix:=PJ hk;have nt:=lZ hm.nm nd hk;have pk:Df (.dk (eM ms)) (.str ws[k]) (lM ((z0d n).filter f))=some (.dk (eM (ms++[(ws[k],(z0d n).filter f)]))):=by
  rw[M6 _ _ _ (by have:=lg hm.nm;simp[eM];omega)];have:(.inr ws[k]:Key)∉(eM ms).map (·.1):=I_ lM nt;rw[putL_new this];simp[eM]
 refine⟨ms++[(ws[k],(z0d n).filter f)],?_,?_,?_⟩
 ·simp only[GJ,Ry,e_b,e_v,z24,z1S,e_vs,Px,e_bs,ix,cm,M5,pk,K4,z1e,z1f]
 ·rw[z0S,hm.nm,z7F];simp[hk]
 ·intro p hp
  rcases z0U.mp hp with q | q
  ·exact hm.ok p q
  ·simp at q;subst q;refine⟨JB n f,?_,λ t ht=>z0o.mp (z2s.mp ht).1⟩;have:=z7I f (z0d n);rw[z2B] at this;show ((z0d n).filter f).length<=100;omega
structure Fd (n k:Nat) (l:List (Nat×Nat)):Prop where
 nd:l.Nodup
 len:l.length<=5*k
 lt:∀ q∈l,q.1<k/\q.2<n
theorem Yo (n:Nat) (hn:n<=5) (x1 x2 x4 x6:Slot) (bits:Int) (k:Nat) (i:Nat) (hi:i<n) (l:List (Nat×Nat)) (hl:Fd n i l) :
  ∃ l',GP [.fz .(1),x1,x2,.fz (.int bits),x4,.fz (.int (k:Int)),x6,.fz (lT l),.fz (.int (i:Int))]=some (.nx [.fz .(1),x1,x2,.fz (.int bits),x4,.fz (.int (k:Int)),x6,.fz (lT l'),.fz (.int (i:Int))])/\Fd n (i+1) l':=by
 obtain⟨f,hf⟩:∃ f:Nat->Bool,∀ u,u<n->GK ([.fz .(1),x1,x2,.fz (.int bits),x4,.fz (.int (k:Int)),x6,.fz (lT l),.fz (.int (i:Int))]++[.fz (.int (u:Int))])=some (f u):=by
  refine⟨λ u=>decide (z3J (bits/2^(15+25*(k:Int)+5*(i:Int)+u).toNat) 1=1),λ u hu=>?_⟩;have m1:=U6 25 (k:Int) (by decide);have m2:=U6 5 (i:Int) (by decide);have s1:=lY bits (15+25*(k:Int)+5*(i:Int)+u) (by omega);simp only[ciK,GK,m1,m2,s1,ak]
 have cm:Bb (rngI (vF 0)) GK Ie [.fz .(1),x1,x2,.fz (.int bits),x4,.fz (.int (k:Int)),x6,.fz (lT l),.fz (.int (i:Int))]=some (.lst (((z0d n).filter f).map λ u=>pN (i,u))):=
  Ma f (λ u=>pN (i,u)) _ (Vk n (by omega) _ 0 rfl) (by omega) hf λ u hu=>by simp only[cK,Ie]
 have fl:=z7I f (z0d n);rw[z2B] at fl;have ad:addD (lT l) (.lst (((z0d n).filter f).map λ u=>pN (i,u)))=some (lT (l++((z0d n).filter f).map λ u=>(i,u))):=by
  show addD (.lst (l.map pN)) _=_;rw[U7 (by rw[z07,z07];have:=hl.len;omega)];simp[lT]
 refine⟨l++((z0d n).filter f).map λ u=>(i,u),?_,?_,?_,?_⟩
 ·simp only[GP,Zb,e_b,e_v,z24,z1S,e_vs,cm,e_bs,ad,U8,z1e,z1f]
 ·rw[z0W];refine⟨hl.nd,?_,λ a ha c hc e=>?_⟩
  ·rw[z2e,z1B];exact z7H (λ hab e=>hab (by simpa using e)) (JB n f)
  ·subst e;obtain⟨u,_,rfl⟩:=z0f.mp hc;have:=(hl.lt _ ha).1;simp at this
 ·have:=hl.len;rw[z0L,z07];omega
 ·intro q hq
  rcases z0U.mp hq with z | z
  ·have:=hl.lt q z;exact⟨by omega,this.2⟩
  ·obtain⟨u,hu,rfl⟩:=z0f.mp z;exact⟨by simp,z0o.mp (z2s.mp hu).1⟩
theorem Vv (h:(rngD n)[i]?=some d):i<n/\d=.int (i:Int):=by
 have hi:i<n:=by
  have:=(z1r.mp h).1
  rwa [K5] at this
 refine⟨hi,?_⟩;unfold rngD at h;rw[z0q,z5B hi] at h;exact (z0w h).symm
theorem lr (n:Nat) (hn:n<=5) (x1 x4:Slot) (bits:Int) (ws:List Str) (hw:ws.length<=3) (nd:ws.Nodup) (k:Nat) (hk:k<ws.length) (ts:List (Str×List (Nat×Nat))) (ht:Tk n ws k ts) (z7 z8:Slot) :
  ∃ ts' y7 y8,GQ [.fz .(1),x1,.fz (.lst (ws.map .str)),.fz (.int bits),x4,.fz (.int (k:Int)),.ow (.dk (eT ts)),z7,z8]=some (.nx [.fz .(1),x1,.fz (.lst (ws.map .str)),.fz (.int bits),x4,.fz (.int (k:Int)),.ow (.dk (eT ts')),y7,y8])/\Tk n ws (k+1) ts':=by
 obtain⟨ρ',ef,l,z',rfl,hl⟩:=N6 (b:=tgB (Bv 8) GP) (ds:=rngD n) (ρ:=[.fz .(1),x1,.fz (.lst (ws.map .str)),.fz (.int bits),x4,.fz (.int (k:Int)),.ow (.dk (eT ts)),.fz (lT []),z8])
  (P:=λ i ρ=>∃ l z,ρ=[.fz .(1),x1,.fz (.lst (ws.map .str)),.fz (.int bits),x4,.fz (.int (k:Int)),.ow (.dk (eT ts)),.fz (lT l),z]/\Fd n i l) 0 ⟨[],_,rfl,by simp,by simp,by simp⟩ (by
   rintro i d ρ hd ⟨l,z,rfl,hl⟩;obtain⟨hi,rfl⟩:=Vv hd;obtain⟨l',e',hl'⟩:=Yo n hn x1 (.fz (.lst (ws.map .str))) x4 (.ow (.dk (eT ts))) bits k i hi l (by rw[z1R] at hl;exact hl);refine⟨_,?_,l',.fz (.int (i:Int)),rfl,by rw[z1R];exact hl'⟩;rw[e_tg,J3,KR];simp only[z1e,z1f];exact e')
 rw[K5,z1R] at hl;have ix:=PJ hk;have nt:=lZ ht.nm nd hk;have pk:Df (.dk (eT ts)) (.str ws[k]) (lT l)=some (.dk (eT (ts++[(ws[k],l)]))):=by
  rw[M6 _ _ _ (by have:=lg ht.nm;simp[eT];omega)];have:(.inr ws[k]:Key)∉(eT ts).map (·.1):=I_ lT nt;rw[putL_new this];simp[eT]
 have rg:=Vk n (by omega) [.fz .(1),x1,.fz (.lst (ws.map .str)),.fz (.int bits),x4,.fz (.int (k:Int)),.ow (.dk (eT ts)),.fz (lT []),z8] 0 rfl;have l0:(D.lst [])=lT []:=rfl;refine⟨ts++[(ws[k],l)],.fz (lT l),z',?_,?_,?_⟩
 ·unfold GQ;rw[E_,Zb,gk,gj,YG,U8,e_nx];simp only[z1e,z1f];rw[l0,E_,Rq,rg,M3,ef,e_nx];simp only[Ry,e_b,e_v,z24,z1S,e_vs,Px,e_bs,ix,M5,pk,K4,z1e,z1f]
 ·rw[z0S,ht.nm,z7F];simp[hk]
 ·intro p hp
  rcases z0U.mp hp with q | q
  ·exact ht.ok p q
  ·simp at q;subst q;refine⟨hl.nd,by have:=hl.len;show l.length<=100;omega,hl.lt⟩
structure Wds (mws tws:List Str):Prop where
 m3:mws.length<=3
 t3:tws.length<=3
 nd:(mws++tws).Nodup
 mw:∀ x∈mws,Wd x
 tw:∀ x∈tws,Wd x
theorem TQ (n:Nat) (hn:n<=5) (mws tws:List Str) (h:Wds mws tws) (bits:Int):∃ W:Wl,W.n=n/\mw W=mws/\tw W=tws/\WOk W/\Eo [.int (n:Int),.lst (mws.map .str),.lst (tws.map .str),.int bits]=some (wd W):=by
 have ndm:=(z0W.mp h.nd).1;have ndt:=(z0W.mp h.nd).2.1;have hm3:=h.m3;have ht3:=h.t3;obtain⟨ρ1,e1,ms,z5,rfl,hm⟩:=N6 (b:=tgB (Bv 5) GJ) (ds:=rngD mws.length) (ρ:=[.fz .(1),.fz (.lst (mws.map .str)),.fz (.lst (tws.map .str)),.fz (.int bits),.ow (.dk (eM [])),.un,.un,.un,.un])
  (P:=λ i ρ=>∃ ms z,ρ=[.fz .(1),.fz (.lst (mws.map .str)),.fz (.lst (tws.map .str)),.fz (.int bits),.ow (.dk (eM ms)),z,.un,.un,.un]/\Mk n mws i ms) 0 ⟨[],_,rfl,by simp,by simp⟩ (by
   rintro i d ρ hd ⟨ms,z,rfl,hm⟩;obtain⟨hi,rfl⟩:=Vv hd;rw[z1R] at hm ⊢;obtain⟨ms',e',hm'⟩:=dC n hn (.fz (.lst (tws.map .str))) bits mws hm3 ndm i hi ms hm .un .un .un;refine⟨_,?_,ms',.fz (.int (i:Int)),rfl,hm'⟩;rw[e_tg,J3,KR];simp only[z1e,z1f];exact e')
 rw[K5,z1R] at hm;obtain⟨ρ2,e2,ts,y5,y7,y8,rfl,ht⟩:=N6 (b:=tgB (Bv 5) GQ) (ds:=rngD tws.length) (ρ:=[.fz .(1),.fz (.lst (mws.map .str)),.fz (.lst (tws.map .str)),.fz (.int bits),.ow (.dk (eM ms)),z5,.ow (.dk (eT [])),.un,.un])
  (P:=λ i ρ=>∃ ts z y7 y8,ρ=[.fz .(1),.fz (.lst (mws.map .str)),.fz (.lst (tws.map .str)),.fz (.int bits),.ow (.dk (eM ms)),z,.ow (.dk (eT ts)),y7,y8]/\Tk n tws i ts) 0 ⟨[],_,_,_,rfl,by simp,by simp⟩ (by
   rintro i d ρ hd ⟨ts,z,y7,y8,rfl,hm⟩;obtain⟨hi,rfl⟩:=Vv hd;rw[z1R] at hm ⊢;obtain⟨ts',w7,w8,e',hm'⟩:=lr n hn (.fz (.lst (mws.map .str))) (.ow (.dk (eM ms))) bits tws ht3 ndt i hi ts hm y7 y8;refine⟨_,?_,ts',.fz (.int (i:Int)),w7,w8,rfl,hm'⟩;rw[e_tg,J3,KR];simp only[z1e,z1f];exact e')
 rw[K5,z1R] at ht;have mn:ms.map (·.1)=mws:=by rw[hm.nm,z7G]
 have tn:ts.map (·.1)=tws:=by rw[ht.nm,z7G]
 refine⟨⟨n,ms,ts⟩,rfl,mn,tn,⟨hn,?_,?_,λ p hp=>h.mw _ (by rw[<-mn];exact z0f.mpr ⟨p,hp,rfl⟩),λ p hp=>h.tw _ (by rw[<-tn];exact z0f.mpr ⟨p,hp,rfl⟩),?_,hm.ok,ht.ok⟩,?_⟩
 ·have:=congrArg z0P mn;rw[z07] at this;show ms.length<=3;omega
 ·have:=congrArg z0P tn;rw[z07] at this;show ts.length<=3;omega
 ·show (ms.map (·.1)++ts.map (·.1)).Nodup;rw[mn,tn];exact h.nd
 ·have lm:lenE (.lst (mws.map .str))=some (.int (mws.length:Int)):=by rw[show lenE (.lst (mws.map .str))=some (.int ((mws.map D.str).length:Int)) from zE_ _,z07]
  have lt:lenE (.lst (tws.map .str))=some (.int (tws.length:Int)):=by rw[show lenE (.lst (tws.map .str))=some (.int ((tws.map D.str).length:Int)) from zE_ _,z07]
  have r1:rngO (some (.int (mws.length:Int)))=some (rngD mws.length):=by rw[U9 _ (by omega),z1a]
  have r2:rngO (some (.int (tws.length:Int)))=some (rngD tws.length):=by rw[U9 _ (by omega),z1a]
  have e0:(D.dk [])=.dk (eM []):=rfl;have e0':(D.dk [])=.dk (eT []):=rfl;have s1:setW 4 (kF (.dk [])) [.fz .(1),.fz (.lst (mws.map .str)),.fz (.lst (tws.map .str)),.fz (.int bits),.un,.un,.un,.un,.un]=some (.nx [.fz .(1),.fz (.lst (mws.map .str)),.fz (.lst (tws.map .str)),.fz (.int bits),.ow (.dk (eM [])),.un,.un,.un,.un]):=rfl;have s2:setW 6 (kF (.dk [])) [.fz .(1),.fz (.lst (mws.map .str)),.fz (.lst (tws.map .str)),.fz (.int bits),.ow (.dk (eM ms)),z5,.un,.un,.un]=some (.nx [.fz .(1),.fz (.lst (mws.map .str)),.fz (.lst (tws.map .str)),.fz (.int bits),.ow (.dk (eM ms)),z5,.ow (.dk (eT [])),.un,.un]):=rfl;unfold Eo J7;rw[Jm,DP];simp only[z0u,z2y,z0c,z1b,z3w,z3x,z3y,z3z,z3A,z1H];rw[E_,s1,e_nx,E_,Rq,Rp,e_u,e_v];simp only[z24,z1S];rw[e_vs,e_us,lm,r1,M3,e1,e_nx,E_,s2,e_nx,E_,Rq,Rp,e_u,e_v];simp only[z24,z1S];rw[e_vs,e_us,lt,r2,M3,e2,e_nx]
  ·rfl
  ·rfl
theorem yS (xs:List Nat) (j:Nat) (h:j<xs.length):ixD (.lst (xs.map iN)) (.int (j:Int))=some (iN xs[j]):=by
 show atI (xs.map iN) (j:Int)=_;rw[YH,z0q,z0F h];rfl
theorem qw (ds:List D) (k:Nat):slD (.lst ds) (some (k:Int)) none=some (.lst (ds.drop k)):=by
 show some (D.lst (cutD ds (some (k:Int)) none))=_;rw[gR]
theorem Xa (n:D):∀ (k:Nat) (xs ys:List Nat) (i:Int) (f:Nat) (z:Slot),xs.length=k->xs.length+ys.length<=100->k<f->∃ i' zs z',zs.Perm xs ∧
  Gq Bh Bw f [.fz (.int i),.fz n,.fz (lN xs),.ow (lN ys),z]=some (.nx [.fz (.int i'),.fz n,.fz (.lst []),.ow (lN (ys++zs)),z'])
 | k,xs,ys,i,0,z,_,_,hf=>by omega
 | 0,xs,ys,i,f+1,z,hl,_,hf=>by
  have e:xs=[]:=z4w hl;subst e;refine⟨i,[],z,.nil,?_⟩;unfold Gq;have t:Bh [.fz (.int i),.fz n,.fz (lN []),.ow (lN ys),z]=some false:=by
   simp only[cK,Bh,lN];rfl
  rw[t,z1g];rfl
 | k+1,xs,ys,i,f+1,z,hl,hs,hf=>by
  have t:Bh [.fz (.int i),.fz n,.fz (lN xs),.ow (lN ys),z]=some true:=by
   have q:=v_ xs;have:xs≠[]:=λ z=>by subst z;simp at hl
   simp only[cK,Bh,lN,q,this,ne_eq,not_false_eq_true]
  have j0:0<=i%(xs.length:Int):=z4K _ (by omega);have j1:i%(xs.length:Int)<xs.length:=z4L _ (by omega);obtain⟨j,ej⟩:∃ j:Nat,(j:Int)=i%(xs.length:Int):=⟨(i%(xs.length:Int)).toNat,by omega⟩;have hj:j<xs.length:=by omega
  have le:(xs.eraseIdx j).length=k:=by rw[List.length_eraseIdx_of_lt hj];omega
  have m1:=F_ i (xs.length:Int) (by omega);have m2:=Em i (xs.length:Int) (by omega) (by omega);have ll:=sX (xs.map iN);rw[z07] at ll;have ix:=yS xs j hj;have ap:appL (.lst (ys.map iN)) (iN xs[j])=some (.lst ((ys++[xs[j]]).map iN)):=by rw[aB _ _ .(17),z0S];rfl
  have s1:=sl_l (xs.map iN) j;have a1:addD (.int (j:Int)) (.int 1)=some (.int ((j+1:Nat):Int)):=by rw[K3];congr 2
  have s2:=qw (xs.map iN) (j+1);have ad:addD (.lst ((xs.map iN).take j)) (.lst ((xs.map iN).drop (j+1)))=some (lN (xs.eraseIdx j)):=by
   rw[U7 .(17),<-z3s,<-z5H,<-z0S,<-z9H];rfl
  obtain⟨i',zs,z',pz,ih⟩:=Xa n k (xs.eraseIdx j) (ys++[xs[j]]) (i/(xs.length:Int)) f (.fz (.int (j:Int))) le (by rw[le,z0L];simp;omega) (by omega);refine⟨i',xs[j]::zs,z',(z5G _ pz).trans (Ib xs j hj),?_⟩;have b2:Bw [.fz (.int i),.fz n,.fz (lN xs),.ow (lN ys),z]=some (.nx [.fz (.int (i/(xs.length:Int))),.fz n,.fz (lN (xs.eraseIdx j)),.ow (lN (ys++[xs[j]])),.fz (.int (j:Int))]):=by
   unfold Bw;simp only[cK,lN,ll,m1,m2,<-ej];simp only[cK,ix,ap,s1,a1,s2,ad,lN]
  unfold Gq;rw[t];show (match Bw _ with | some (.nx ρ')=>Gq Bh Bw f ρ' | some (.ct ρ')=>Gq Bh Bw f ρ' | some (.bk ρ')=>some (.nx ρ') | some (.rt e ρ')=>some (.rt e ρ') | none=>none)=_;rw[b2];show Gq Bh Bw f _=_;rw[ih,z6R];rfl
theorem R_ (i:Int) (n:Nat) (hn:n<=5):∃ os:List Nat,os.Perm (z0d n)/\Hw [.int i,.int (n:Int)]=some (lN os):=by
 obtain⟨i',zs,z',pz,e⟩:=Xa .(1) n (z0d n) [] i 60 .un (by simp) .(17) (by omega);rw[z1H] at e;refine⟨zs,pz,?_⟩;have r:=wA n (by omega);have e0:(D.lst [])=lN []:=rfl;simp only[dK,Hw,J8,r,e0,e]
def trn (os:List Nat) (W:Wl):Wl:=⟨W.n,W.ms.map λ p=>.(16),W.ts.map λ p=>.(10)⟩
theorem Yp (os:List Nat) (W:Wl):mw (trn os W)=mw W:=by simp[trn,mw,z0V]
theorem Yq (os:List Nat) (W:Wl):tw (trn os W)=tw W:=by simp[trn,tw,z0V]
theorem lw (W:Wl) (h:WOk W) (os:List Nat) (ho:os.Perm (z0d W.n)):WOk (trn os W):=by
 refine QS W h _ _ (by rw[show ((W.ms.map λ p=>.(16)).map (·.1))=W.ms.map (·.1) from Yp os W]) (by rw[show ((W.ts.map λ p=>.(10)).map (·.1))=W.ts.map (·.1) from Yq os W]) (λ p hp=>?_) (λ p hp=>?_)
 ·obtain⟨q,hq,rfl⟩:=z0f.mp hp;obtain⟨a1,_,a3⟩:=h.ml q hq;refine⟨?_,λ t ht=>?_⟩
  ·unfold z2e;rw[z1B];exact z2X (λ {a b} ha hb hab e=>hab (S9 ho (a3 a ha) (a3 b hb) e)) a1
  ·obtain⟨s,hs,rfl⟩:=z0f.mp ht;exact Vn ho (a3 s hs)
 ·obtain⟨q,hq,rfl⟩:=z0f.mp hp;obtain⟨a1,_,a3⟩:=h.tl q hq;refine⟨?_,λ t ht=>?_⟩
  ·unfold z2e;rw[z1B];refine z2X (λ {a b} ha hb hab e=>hab ?_) a1;have e1:os.getD a.1 0=os.getD b.1 0:=congrArg Prod.fst e;have e2:os.getD a.2 0=os.getD b.2 0:=congrArg Prod.snd e;exact z3e (S9 ho (a3 a ha).1 (a3 b hb).1 e1) (S9 ho (a3 a ha).2 (a3 b hb).2 e2)
  ·obtain⟨s,hs,rfl⟩:=z0f.mp ht;exact⟨Vn ho (a3 s hs).1,Vn ho (a3 s hs).2⟩
theorem yU {W:Wl}(h:WOk W):(mw W).Nodup:=(z0W.mp h.nd).1
theorem yV {W:Wl}(h:WOk W):(tw W).Nodup:=(z0W.mp h.nd).2.1
theorem wL {W:Wl}(ms:List (Str×List Nat)) (w:Str) (l:List Nat) (h:w∉ms.map (·.1)) (hl:ms.length<=100):Df (.dk (eM ms)) (.str w) (lM l)=some (.dk (eM (ms++[(w,l)]))):=by
 rw[M6 _ _ _ (by simp[eM];omega)];have:(.inr w:Key)∉(eM ms).map (·.1):=I_ lM h;rw[putL_new this];simp[eM]
theorem wM {W:Wl}(ms:List (Str×List (Nat×Nat))) (w:Str) (l:List (Nat×Nat)) (h:w∉ms.map (·.1)) (hl:ms.length<=100):Df (.dk (eT ms)) (.str w) (lT l)=some (.dk (eT (ms++[(w,l)]))):=by
 rw[M6 _ _ _ (by simp[eT];omega)];have:(.inr w:Key)∉(eT ms).map (·.1):=I_ lT h;rw[putL_new this];simp[eT]
theorem l_ (W:Wl) (h:WOk W) (os:List Nat) (ho:os.length=W.n) (x4:Slot):∀ (r p:List (Str×List Nat)) (z:Slot),W.ms=p++r ->
  ∃ z',forF (tgB (Bv 3) Fg) ((r.map (·.1)).map .str) [.fz (wd W),.fz (lN os),.ow (.dk (eM (p.map λ p=>.(16)))),z,x4]=some (.nx [.fz (wd W),.fz (lN os),.ow (.dk (eM ((p++r).map λ p=>.(16)))),z',x4])
 | [],p,z,e=>⟨z,by rw[z1g];rfl⟩
 | q::r,p,z,e=>by
  have hq:q∈W.ms:=by rw[e];simp
  have i1:=ixw1 W;have a:=at_M W h hq;have nd:=yU h;have ml:=h.ml q hq;have nq:q.1∉p.map (·.1):=by
   have:(W.ms.map (·.1)).Nodup:=nd;rw[e,z0S,z0W] at this;exact λ z=>this.2.2 q.1 z q.1 (by simp) rfl
  have cm:Bb (seqA (bF ixE (bF ixE (vF 0) .(13)) (vF 3))) allT Hg [.fz (wd W),.fz (lN os),.ow (.dk (eM (p.map λ p=>.(16)))),.fz (.str q.1),x4]=some (.lst ((q.2.map λ t=>os.getD t 0).map iN)):=by
   rw[z0p];refine Dt q.2 iN _ ?_ (by omega) λ t ht=>?_
   ·simp only[cK,i1,a,DQ];exact Ff _
   ·have:=Vl os t (by have:=ml.2.2 t ht;omega);simp only[cK,Hg,this,z0V]
  have pk:=wL (W:=W) (p.map λ p=>.(16)) q.1 (q.2.map λ t=>os.getD t 0) (by rw[z0p];exact nq) (by
   have:=congrArg z0P e;rw[z0L,z0u] at this;have:=h.m3;rw[z07];omega)
  unfold lM at pk;have b:Fg [.fz (wd W),.fz (lN os),.ow (.dk (eM (p.map λ p=>.(16)))),.fz (.str q.1),x4]=some (.nx [.fz (wd W),.fz (lN os),.ow (.dk (eM ((p++[q]).map λ p=>.(16)))),.fz (.str q.1),x4]):=by
   rw[z0S];simp only[Fg,Ry,e_v,z24,z1S,e_vs,Px,cm,M5,pk,K4,z1e,z1f,z0c,z1b]
  obtain⟨z',ih⟩:=l_ W h os ho x4 r (p++[q]) (.fz (.str q.1)) (by rw[e];simp);refine⟨z',?_⟩;rw[z0c,z0c,En,e_tg,J3,KR];simp only[z1e,z1f];rw[b,Dv,ih];simp
theorem mC (W:Wl) (h:WOk W) (os:List Nat) (ho:os.length=W.n) (x2:Slot):∀ (r p:List (Str×List (Nat×Nat))) (z:Slot),W.ts=p++r ->
  ∃ z',forF (tgB (Bv 3) Fi) ((r.map (·.1)).map .str) [.fz (wd W),.fz (lN os),x2,z,.ow (.dk (eT (p.map λ p=>.(10))))]=some (.nx [.fz (wd W),.fz (lN os),x2,z',.ow (.dk (eT ((p++r).map λ p=>.(10))))])
 | [],p,z,e=>⟨z,by rw[z1g];rfl⟩
 | q::r,p,z,e=>by
  have hq:q∈W.ts:=by rw[e];simp
  have i1:=ixw2 W;have a:=at_T W h hq;have nd:=yV h;have ml:=h.tl q hq;have nq:q.1∉p.map (·.1):=by
   have:(W.ts.map (·.1)).Nodup:=nd;rw[e,z0S,z0W] at this;exact λ z=>this.2.2 q.1 z q.1 (by simp) rfl
  have cm:Bb (seqA (bF ixE (bF ixE (vF 0) (kF (.int 2))) (vF 3))) allT Hh [.fz (wd W),.fz (lN os),x2,.fz (.str q.1),.ow (.dk (eT (p.map λ p=>.(10))))]=some (.lst ((q.2.map λ q=>.(33)).map pN)):=by
   rw[z0p];refine Dt q.2 pN _ ?_ (by omega) λ t ht=>?_
   ·simp only[cK,i1,a,DQ];exact Ff _
   ·have h1:=Vl os t.1 (by have:=(ml.2.2 t ht).1;omega);have h2:=Vl os t.2 (by have:=(ml.2.2 t ht).2;omega);have j0:=ixp0 t;have j1:=ixp1 t;simp only[cK,Hh,j0,j1,h1,h2,z0V]
  have pk:=wM (W:=W) (p.map λ p=>.(10)) q.1 (q.2.map λ q=>.(33)) (by rw[z0p];exact nq) (by
   have:=congrArg z0P e;rw[z0L,z0u] at this;have:=h.t3;rw[z07];omega)
  unfold lT at pk;have b:Fi [.fz (wd W),.fz (lN os),x2,.fz (.str q.1),.ow (.dk (eT (p.map λ p=>.(10))))]=some (.nx [.fz (wd W),.fz (lN os),x2,.fz (.str q.1),.ow (.dk (eT ((p++[q]).map λ p=>.(10))))]):=by
   rw[z0S];simp only[Fi,Ry,e_v,z24,z1S,e_vs,Px,cm,M5,pk,K4,z1e,z1f,z0c,z1b]
  obtain⟨z',ih⟩:=mC W h os ho x2 r (p++[q]) (.fz (.str q.1)) (by rw[e];simp);refine⟨z',?_⟩;rw[z0c,z0c,En,e_tg,J3,KR];simp only[z1e,z1f];rw[b,Dv,ih];simp
theorem dD (W:Wl) (h:WOk W) (os:List Nat) (ho:os.Perm (z0d W.n)):G9 [wd W,lN os]=some (wd (trn os W)):=by
 have hl:os.length=W.n:=by rw[ho.length_eq,z2B]
 obtain⟨z1,l1⟩:=l_ W h os hl .un W.ms [] .un rfl;obtain⟨z2,l2⟩:=mC W h os hl (.ow (.dk (eM (W.ms.map λ p=>.(16))))) W.ts [] z1 rfl;rw[z1H] at l1 l2;have i0:=ixw0 W;have i1:=ixw1 W;have i2:=ixw2 W;have q1:N_ (some .(26))=some ((W.ms.map (·.1)).map .str):=by rw[OJ,aL]
 have q2:N_ (some .(25))=some ((W.ts.map (·.1)).map .str):=by rw[OJ,aM]
 have s1:setW 2 (kF (.dk [])) [.fz (wd W),.fz (lN os),.un,.un,.un]=some (.nx [.fz (wd W),.fz (lN os),.ow (.dk (eM (([]:List (Str×List Nat)).map λ p=>.(16)))),.un,.un]):=rfl;have s2:setW 4 (kF (.dk [])) [.fz (wd W),.fz (lN os),.ow (.dk (eM (W.ms.map λ p=>.(16)))),z1,.un]=some (.nx [.fz (wd W),.fz (lN os),.ow (.dk (eM (W.ms.map λ p=>.(16)))),z1,.ow (.dk (eT (([]:List (Str×List (Nat×Nat))).map λ p=>.(10))))]):=rfl;unfold G9 Jc;rw[Jm (show [wd W,lN os].length=2 from rfl),DP];simp only[z0u,z2y,z0c,z1b,z3w,z3x,z3y,z3z,z3A,z1H];rw[E_,s1,e_nx,E_,Rq];simp only[DQ,e_b,e_v,z24,z1S,e_vs,e_k,e_bs,i1,q1,M3];rw[l1,e_nx,E_,s2,e_nx,E_,Rq];simp only[DQ,e_b,e_v,z24,z1S,e_vs,e_k,e_bs,i2,q2,M3];rw[l2,e_nx];simp only[dK,i0];rfl
def oth {α:Type} [DecidableEq α] (t:α) (l:List α):List α:=if t∈l then l.filter (λ x=>!decide (x=t)) else l++[t]
theorem mD {α:Type} [DecidableEq α] {t:α}{l:List α}(h:l.Nodup):(oth t l).Nodup:=by
 unfold oth;split
 ·exact z7E z9C h
 ·rename_i c;rw[z0W];exact⟨h,by simp,λ a ha b hb e=>by simp at hb;subst hb;subst e;exact c ha⟩
theorem ao {α:Type} [DecidableEq α] {t x:α}{l:List α}(h:x∈oth t l):x∈l∨x=t:=by
 unfold oth at h;split at h
 ·exact .inl (z2s.mp h).1
 ·rcases z0U.mp h with h | h
  ·exact .inl h
  ·exact .inr (by simpa using h)
theorem qx {α:Type}(l:List α) (e:α->D) (f:α->Bool) (hs:src ρ=some (l.map e)) (hn:l.length<=1000) (h1:∀ x∈l,ga (ρ++[.fz (e x)])=some (f x)) (h2:∀ x∈l,fe (ρ++[.fz (e x)])=some (e x)):Bb src ga fe ρ=some (.lst ((l.filter f).map e)):=by
 have c:∀ m:List α,(∀ x∈m,x∈l)->Jh ρ ga fe (m.map e)=some ((m.filter f).map e):=by
  intro m
  induction m with
  | nil=>intro _;rfl
  | cons k r ih=>
   intro hl;rw[z0c,J2,h1 k (hl k (by simp)),h2 k (hl k (by simp)),ih λ d hd=>hl d (by simp[hd]),z9B];cases f k<;>rfl
 exact Q7 hs (by rw[z07];omega) (c l λ _ h=>h)
theorem aq {α:Type} [DecidableEq α] (e:α->D) (t:α) (l:List α) (hl:l.length<=1000) (inE:inF false (e t) (.lst (l.map e))=some (.bl (decide (t∈l)))) (neE:∀ x y,eqD true (e x) (e y)=some (.bl (!decide (x=y)))):Di [.lst (l.map e),e t]=some (.lst ((oth t l).map e)):=by
 have cm:Bb (seqA (vF 0)) Ig Ih [.fz (.lst (l.map e)),.fz (e t)]=some (.lst ((l.filter λ x=>!decide (x=t)).map e)):=
  qx l e _ (by simp only[cK,DQ,Ff]) hl (λ x _=>by
   have:=neE x t;simp only[cK,Ig,this]) λ x _=>by simp only[cK,Ih]
 simp only[cK,Di,J9,inE];unfold oth
 by_cases c:t∈l
 ·rw[decide_eq_true c,if_pos c];simp only[cK,cm]
 ·rw[decide_eq_false c,if_neg c];have ad:addD (.lst (l.map e)) (.lst [e t])=some (.lst ((l++[t]).map e)):=by rw[U7 .(17)];simp
  simp only[cK,ad]
theorem yW (a b:Nat):eqD true (.int (a:Int)) (.int (b:Int))=some (.bl (!decide (a=b))):=by rw[Za,Vo]
theorem yX (x y:Pr):eqD true (pN x) (pN y)=some (.bl (!decide (x=y))):=by
 have e:∀ a b:Nat,eqK 180 (.int (a:Int)) (.int (b:Int))=some (decide (a=b)):=λ a b=>by
  show some (eqV (.int (a:Int)) (.int (b:Int)))=_
  by_cases z:a=b
  ·subst z;simp[eqV]
  ·have:¬ ((a:Int)=(b:Int)):=by omega
   simp[eqV,z,this]
 have:eqvD (pN x) (pN y)=some (decide (x=y)):=by
  show (if 2=2 then allO (eqK 180) [.int (x.1:Int),.int (x.2:Int)] [.int (y.1:Int),.int (y.2:Int)] else none)=_;rw[if_pos rfl];simp only[allO,e];obtain⟨a,b⟩:=x;obtain⟨c,d⟩:=y
  by_cases h1:a=c<;>by_cases h2:b=d<;>simp[h1,h2]
 unfold eqD;rw[this];rfl
theorem qy (t:Nat) (l:List Nat) (hl:l.length<=1000):Di [lM l,.int (t:Int)]=some (lM (oth t l)):=aq iN t l hl (in_i t l) yW
theorem qz (t:Pr) (l:List Pr) (hl:l.length<=1000):Di [lT l,pN t]=some (lT (oth t l)):=aq pN t l hl (by rw[in_p t l];congr 2;rw[decide_eq_decide]) yX
def chg {α:Type}(w:Str) (l:α) (ms:List (Str×α)):List (Str×α):=ms.map λ p=>(p.1,if p.1=w then l else p.2)
theorem Vw {α:Type}(w:Str) (l:α) (ms:List (Str×α)):(chg w l ms).map (·.1)=ms.map (·.1):=by simp[chg,z0V]
theorem au {α:Type}(f:α->D) (w:Str) (l:α) (ms:List (Str×α)) (h:w∈ms.map (·.1)) (hl:ms.length<=100):Df (.dk (ms.map λ p=>((.inr p.1:Key),f p.2))) (.str w) (f l)=some (.dk ((chg w l ms).map λ p=>((.inr p.1:Key),f p.2))):=by
 rw[M6 _ _ _ .(17)];have g:∀ ms:List (Str×α),w∈ms.map (·.1)->(getK (.inr w:Key) (ms.map λ p=>((.inr p.1:Key),f p.2))).isSome=true:=λ ms=>by
  induction ms with
  | nil=>intro h;simp at h
  | cons p r ih=>
   intro h;rw[z0c];show (if (.inr p.1:Key)=.inr w then some (f p.2) else getK (.inr w:Key) (r.map λ p=>((.inr p.1:Key),f p.2))).isSome=true;split
   ·rfl
   ·rename_i c;refine ih ?_
    rcases z0i.mp h with h | h
    ·exact absurd (by rw[h]) c
    ·exact h
 have r:∀ ms:List (Str×α),repK (.inr w:Key) (f l) (ms.map λ p=>((.inr p.1:Key),f p.2))=(chg w l ms).map λ p=>((.inr p.1:Key),f p.2):=λ ms=>by
  induction ms with
  | nil=>rfl
  | cons p r ih=>
   rw[z0c];show ((.inr p.1:Key),if (.inr p.1:Key)=.inr w then f l else f p.2)::repK (.inr w:Key) (f l) (r.map λ p=>((.inr p.1:Key),f p.2))=_;rw[ih];show _=((.inr p.1:Key),f (if p.1=w then l else p.2))::(chg w l r).map λ p=>((.inr p.1:Key),f p.2);congr 2
   by_cases c:p.1=w
   ·rw[if_pos c,if_pos (by rw[c])]
   ·rw[if_neg c,if_neg (λ z=>c (by simpa using z))]
 unfold putL;rw[g ms h,if_pos rfl,r]
theorem az {α:Type}{w:Str}{l:α}{ms:List (Str×α)}{p:Str×α}(h:p∈chg w l ms):p∈ms∨p.2=l:=by
 unfold chg at h;obtain⟨q,hq,rfl⟩:=z0f.mp h
 by_cases c:q.1=w
 ·exact .inr (by show (if q.1=w then l else q.2)=l;rw[if_pos c])
 ·exact .inl (by rw[if_neg c];exact hq)
structure Lk (W V:Wl):Prop where
 ok:WOk V
 n:V.n=W.n
 mm:mw V=mw W
 tt:tw V=tw W
theorem mF (k:List (Key×D)):lenE (.dk k)=some (.int (k.length:Int)):=Zq k
theorem Yr (W:Wl) (h:WOk W) (c:Int):∃ V,Lk W V/\CQ [wd W,.int c]=some (wd V):=by
 have n5:=h.n5;have m3:=h.m3;have t3:=h.t3;have mx:=lK W.n 1;have mx:maxD .(32) (.int 1)=some (.int ((max W.n 1:Nat):Int)):=mx;have md1:=F_ c ((max W.n 1:Nat):Int) (by omega);have fd5:=Em c 5 (by decide) (by decide);have md2:=F_ (c/5) ((max W.n 1:Nat):Int) (by omega);have fd25:=Em c 25 (by decide) (by decide);have en:eqD false .(32) (.int 0)=some (.bl (decide (W.n=0))):=Mt W.n 0;have lm:lenE .(26)=some (.int (W.ms.length:Int)):=by rw[mF];simp[eM]
 have lt:lenE .(25)=some (.int (W.ts.length:Int)):=by rw[mF];simp[eT]
 have ad:=K3 (W.ms.length:Int) (W.ts.length:Int);have asg:∀ ρ:Rho,tupG 3 (BK 2 (BK 3 (BK 4 nilG))) (wd W) ρ=some (((ρ.set 2 (.fz .(32))).set 3 (.fz .(26))).set 4 (.fz .(25))):=λ ρ=>rfl;have e_asg:∀ (f:FE) (g:FG) (ρ:Rho) (d:D),f ρ=some d->asgF f g ρ=(g d ρ).map .nx:=λ f g ρ d e=>by unfold asgF;rw[e];rfl
 obtain⟨a,ea⟩:∃ a:Nat,(a:Int)=c%((max W.n 1:Nat):Int):=⟨(c%((max W.n 1:Nat):Int)).toNat,by have:=z4K c (show ((max W.n 1:Nat):Int)≠0 by omega);omega⟩;obtain⟨b,eb⟩:∃ b:Nat,(b:Int)=c/5%((max W.n 1:Nat):Int):=⟨(c/5%((max W.n 1:Nat):Int)).toNat,by have:=z4K (c/5) (show ((max W.n 1:Nat):Int)≠0 by omega);omega⟩;have ha:W.n≠0->a<W.n:=λ z=>by have:=z4L c (show 0<((max W.n 1:Nat):Int) by omega);omega
 have hb:W.n≠0->b<W.n:=λ z=>by have:=z4L (c/5) (show 0<((max W.n 1:Nat):Int) by omega);omega
 rw[<-ea] at md1;rw[<-eb] at md2
 by_cases c0:W.n=0
 ·refine⟨W,⟨h,rfl,rfl,rfl⟩,?_⟩;rw[decide_eq_true c0] at en;unfold CQ DR;rw[Jm (show [wd W,.int c].length=2 from rfl),DP,E_,e_asg _ _ _ (wd W) rfl,asg];simp only[cK,mx,md1,fd5,md2,en]
 ·rw[decide_eq_false c0] at en
  by_cases cz:W.ms.length+W.ts.length=0
  ·refine⟨W,⟨h,rfl,rfl,rfl⟩,?_⟩;have ez:eqD false (.int ((W.ms.length:Int)+(W.ts.length:Int))) (.int 0)=some (.bl true):=by rw[Qf,decide_eq_true (by omega)]
   unfold CQ DR;rw[Jm (show [wd W,.int c].length=2 from rfl),DP,E_,e_asg _ _ _ (wd W) rfl,asg];simp only[cK,mx,md1,fd5,md2,en,lm,lt,ad,ez]
  ·have ez:eqD false (.int ((W.ms.length:Int)+(W.ts.length:Int))) (.int 0)=some (.bl false):=by rw[Qf,decide_eq_false (by omega)]
   have md3:=F_ (c/25) ((W.ms.length:Int)+(W.ts.length:Int)) (by omega);obtain⟨j,ej⟩:∃ j:Nat,(j:Int)=c/25%((W.ms.length:Int)+(W.ts.length:Int)):=⟨(c/25%((W.ms.length:Int)+(W.ts.length:Int))).toNat,by have:=z4K (c/25) (show (W.ms.length:Int)+(W.ts.length:Int)≠0 by omega);omega⟩;have hj:j<W.ms.length+W.ts.length:=by have:=z4L (c/25) (show 0<(W.ms.length:Int)+(W.ts.length:Int) by omega);omega
   rw[<-ej] at md3;have dm:T5 .(26)=some .(26):=rfl;have dt:T5 .(25)=some .(25):=rfl;have ltj:ltD (.int (j:Int)) (.int (W.ms.length:Int))=some (.bl (decide (j<W.ms.length))):=aX j W.ms.length
   by_cases cj:j<W.ms.length
   ·rw[decide_eq_true cj] at ltj;have hk:j<(W.ms.map (·.1)).length:=by rw[z07];exact cj
    have lf:K1 .(26)=some (.lst ((W.ms.map (·.1)).map .str)):=by rw[aF,aL]
    have ix:=PJ hk;have hp:W.ms[j]∈W.ms:=z1d cj;have ew:(W.ms.map (·.1))[j]=(W.ms[j]).1:=by rw[z9L]
    rw[ew] at ix;have at':=at_M W h hp;have ml:=h.ml _ hp;have ot:=qy a (W.ms[j]).2 (by omega);have pc:Df .(26) (.str (W.ms[j]).1) (lM (oth a (W.ms[j]).2))=some (.dk (eM (chg (W.ms[j]).1 (oth a (W.ms[j]).2) W.ms))):=au lM _ _ W.ms (z0f.mpr ⟨_,hp,rfl⟩) (by omega);refine⟨⟨W.n,chg (W.ms[j]).1 (oth a (W.ms[j]).2) W.ms,W.ts⟩,⟨QS W h _ _ (by rw[Vw]) (.refl _) (λ p hp=>?_) (λ p hp=>⟨(h.tl p hp).1,(h.tl p hp).2.2⟩),rfl,Vw _ _ _,rfl⟩,?_⟩
    ·rcases az hp with z | z
     ·exact⟨(h.ml p z).1,(h.ml p z).2.2⟩
     ·rw[z];refine⟨mD ml.1,λ t ht=>?_⟩
      rcases ao ht with y | y
      ·exact ml.2.2 t y
      ·rw[y];exact ha c0
    ·unfold CQ DR;rw[Jm (show [wd W,.int c].length=2 from rfl),DP,E_,e_asg _ _ _ (wd W) rfl,asg];simp only[cK,mx,md1,fd5,md2,en,lm,lt,ad,ez,fd25,md3,dm,dt,ltj,lf,ix,at',ot,Ry,M5,pc];rfl
   ·rw[decide_eq_false cj] at ltj;have sj:j-W.ms.length<W.ts.length:=by omega
    have sb:subD (.int (j:Int)) (.int (W.ms.length:Int))=some (.int ((j-W.ms.length:Nat):Int)):=by rw[Pu];congr 2;omega
    have hk:j-W.ms.length<(W.ts.map (·.1)).length:=by rw[z07];exact sj
    have lf:K1 .(25)=some (.lst ((W.ts.map (·.1)).map .str)):=by rw[aF,aM]
    have ix:=PJ hk;have hp:W.ts[j-W.ms.length]∈W.ts:=z1d sj;have ew:(W.ts.map (·.1))[j-W.ms.length]=(W.ts[j-W.ms.length]).1:=by rw[z9L]
    rw[ew] at ix;have at':=at_T W h hp;have ml:=h.tl _ hp;have ot:=qz (a,b) (W.ts[j-W.ms.length]).2 (by omega);have pc:Df .(25) (.str (W.ts[j-W.ms.length]).1) (lT (oth (a,b) (W.ts[j-W.ms.length]).2))=some (.dk (eT (chg (W.ts[j-W.ms.length]).1 (oth (a,b) (W.ts[j-W.ms.length]).2) W.ts))):=au lT _ _ W.ts (z0f.mpr ⟨_,hp,rfl⟩) (by omega);refine⟨⟨W.n,W.ms,chg (W.ts[j-W.ms.length]).1 (oth (a,b) (W.ts[j-W.ms.length]).2) W.ts⟩,⟨QS W h _ _ (.refl _) (by rw[Vw]) (λ p hp=>⟨(h.ml p hp).1,(h.ml p hp).2.2⟩) (λ p hp=>?_),rfl,rfl,Vw _ _ _⟩,?_⟩
    ·rcases az hp with z | z
     ·exact⟨(h.tl p z).1,(h.tl p z).2.2⟩
     ·rw[z];refine⟨mD ml.1,λ t ht=>?_⟩
      rcases ao ht with y | y
      ·exact ml.2.2 t y
      ·rw[y];exact⟨ha c0,hb c0⟩
    ·unfold CQ DR;rw[Jm (show [wd W,.int c].length=2 from rfl),DP,E_,e_asg _ _ _ (wd W) rfl,asg];simp only[cK,mx,md1,fd5,md2,en,lm,lt,ad,ez,fd25,md3,dm,dt,ltj,sb,lf,ix,at',ot,Ry,M5,pc];rfl
theorem yZ:shlD (.int 1) (.int 90)=some (.int 1237940039285380274899124224):=by
 show (if CShl 1 90 then some (D.int (1*2^(90:Int).toNat)) else none)=_;rw[if_pos (by unfold CShl;decide +kernel)];rfl
theorem q8 (i:Int) (h:z1q i<=1048576):mulD (.int i) (.int 27182818284590452353602874713526624977572470936999595749669)=some (.int (i*27182818284590452353602874713526624977572470936999595749669)):=by
 show (if Mi i _ then some (D.int (i*_)) else none)=_;rw[if_pos (.inr ⟨by omega,by decide +kernel⟩)]
def SZ:List Nat:=[2,3,1,3,4,2,3,0,4,2,3,5]
def MW:List Str:=["red","o","redo"]
def TW:List Str:=["near","n","under"]
theorem mG:∀ x∈MW++TW,Wd x:=by
 have h:∀ x∈MW++TW,(1<=x.length/\x.length<=8)/\(∀ c∈cs x,c∈cs LET)/\x∉KEPT:=by decide +kernel
 exact λ x hx=>⟨(h x hx).1.1,(h x hx).1.2,(h x hx).2.1,(h x hx).2.2⟩
theorem wN:(MW++TW).Nodup:=by decide +kernel
theorem wO (j k:Nat):Wds (MW.take j) (TW.take k):=by
 refine⟨?_,?_,?_,λ x hx=>mG x (by simp[z5z hx]),λ x hx=>mG x (by simp[z5z hx])⟩
 ·rw[z1i];show min j 3<=3;omega
 ·rw[z1i];show min k 3<=3;omega
 ·exact z7E (List.Sublist.append (z6r _ _) (z6r _ _)) wN
theorem KN (c:Int) (m:Nat) (h:0<m):∃ j:Nat,j<m/\modD (.int c) (.int (m:Int))=some (.int (j:Int))/\c%(m:Int)=(j:Int):=by
 have h0:=z4K c (show (m:Int)≠0 by omega);have h1:=z4L c (show 0<(m:Int) by omega);refine⟨(c%(m:Int)).toNat,by omega,?_,by omega⟩;rw[F_ c m (by omega)];congr 2;omega
theorem yc (j:Nat) (h:j<12):∃ n:Nat,n<=5/\ixE (.lst [.int 2,.int 3,.int 1,.int 3,.int 4,.int 2,.int 3,.int 0,.int 4,.int 2,.int 3,.int 5]) (.int (j:Int))=some .(1):=by
 have e:=Vl SZ j (by show j<12;exact h);refine⟨SZ.getD j 0,?_,e⟩;have:∀ x∈SZ,x<=5:=by decide
 rw[z3v,z0F (by show j<12;exact h)];exact this _ (z1d _)
theorem Ui (l:List Str) (k:Nat):slD (.lst (l.map .str)) none (some (k:Int))=some (.lst ((l.take k).map .str)):=by rw[sl_l,z3s]
theorem Vx (a b c d e f g h i j k l:D):lstO (some [a,b,c,d,e,f,g,h,i,j,k,l])=some (.lst [a,b,c,d,e,f,g,h,i,j,k,l]):=zE_ _
theorem mH (i1 i2 i3 i4:Int) (hb:z1q i2<=1048576):∃ W V,WOk W/\WOk V/\mw V=mw W/\tw V=tw W/\Cp [.lst [.int i1,.int i2,.int i3,.int i4]]=some (.lst [wd W,wd V]):=by
 have asg:∀ ρ:Rho,tupG 4 (BK 1 (BK 2 (BK 3 (BK 4 nilG)))) .(43) ρ=some ((((ρ.set 1 (.fz (.int i1))).set 2 (.fz (.int i2))).set 3 (.fz (.int i3))).set 4 (.fz (.int i4))):=λ ρ=>rfl;have e_asg:∀ (f:FE) (g:FG) (ρ:Rho) (d:D),f ρ=some d->asgF f g ρ=(g d ρ).map .nx:=λ f g ρ d e=>by unfold asgF;rw[e];rfl
 have big:=q8 i2 hb;have sh:=yZ;have mb:=F_ (i2*27182818284590452353602874713526624977572470936999595749669) 1237940039285380274899124224 (by decide);have mb2:=F_ i2 1237940039285380274899124224 (by decide);have mb4:=F_ i4 1237940039285380274899124224 (by decide);have m3:=F_ i1 3 (by decide);have e3:=Qf (i1%3) 2;have d3:=Em i1 3 (by decide) (by decide);have ml:=oZ (i1/3) 1000000007 (by decide);have mn:=F_ (i1/3*1000000007) 2147483647 (by decide);generalize (i1/3*1000000007)%2147483647=num at mn;obtain⟨j0,hj0,q0,_⟩:=KN num 12 (by decide);obtain⟨n,hn,ixn⟩:=yc j0 hj0;have d12:=Em num 12 (by decide) (by decide);have d36:=Em num 36 (by decide) (by decide);obtain⟨j1,hj1,q1,_⟩:=KN (num/12) 3 (by decide);obtain⟨j2,hj2,q2,_⟩:=KN (num/36) 3 (by decide);have t1:=Ui MW j1;have t2:=Ui TW j2;have c12:((12:Nat):Int)=12:=rfl;have c3:((3:Nat):Int)=3:=rfl;rw[c12] at q0;rw[c3] at q1 q2;change slD (.lst [.str "red",.str "o",.str "redo"]) none (some (j1:Int))=_ at t1;change slD (.lst [.str "near",.str "n",.str "under"]) none (some (j2:Int))=_ at t2;have hW:=wO j1 j2;obtain⟨bits,eb⟩:∃ bits:Int,bits=if i1%3=2 then i2%1237940039285380274899124224 else (i2*27182818284590452353602874713526624977572470936999595749669)%1237940039285380274899124224:=⟨_,rfl⟩
 obtain⟨W,wn,wm,wt,wo,we⟩:=TQ n hn _ _ hW bits;obtain⟨k,hk,qk,ek⟩:=KN i3 5 (by decide);have d5:=Em i3 5 (by decide) (by decide);obtain⟨n2,hn2,q5,_⟩:=KN (i3/5) 5 (by decide);have c5:((5:Nat):Int)=5:=rfl;rw[c5] at qk q5;have ek0:eqD false (.int (k:Int)) (.int 0)=some (.bl (decide (k=0))):=Mt k 0;have ek1:eqD false (.int (k:Int)) (.int 1)=some (.bl (decide (k=1))):=Mt k 1;have ek2:eqD false (.int (k:Int)) (.int 2)=some (.bl (decide (k=2))):=Mt k 2;obtain⟨V0,v0n,v0m,v0t,v0o,v0e⟩:=TQ n2 (by omega) _ _ hW (i4%1237940039285380274899124224);obtain⟨V1,v1n,v1m,v1t,v1o,v1e⟩:=TQ (min (n+1) 4) (by omega) _ _ hW bits;have an:addD .(1) (.int 1)=some (.int ((n+1:Nat):Int)):=by rw[K3];congr 2
 have mi:minD (.int ((n+1:Nat):Int)) (.int 4)=some (.int ((min (n+1) 4:Nat):Int)):=lJ (n+1) 4;obtain⟨os,po,oe⟩:=R_ (i3/5) n hn;rw[<-wn] at po;have te:=dD W wo os po;have d43:=Em i4 3 (by decide) (by decide);obtain⟨V3,v3,v3e⟩:=Yr (trn os W) (lw W wo os po) (i4/3);have st:∀ R,seqF (setF 5 (bF modD (bF mulD (vF 2) (kF (.int 27182818284590452353602874713526624977572470936999595749669))) (bF shlD .(13) (kF (.int 90))))) (seqF (ifS (blF (bF (eqD false) (bF modD (vF 1) (kF (.int 3))) (kF (.int 2)))) (setF 5 (bF modD (vF 2) (bF shlD .(13) (kF (.int 90))))) (nxF)) R) [.fz .(43),.fz (.int i1),.fz (.int i2),.fz (.int i3),.fz (.int i4),.un,.un,.un,.un,.un,.un,.un,.un]=R [.fz .(43),.fz (.int i1),.fz (.int i2),.fz (.int i3),.fz (.int i4),.fz (.int bits),.un,.un,.un,.un,.un,.un,.un]:=λ R=>by
  by_cases c:i1%3=2
  ·rw[if_pos c] at eb;rw[decide_eq_true c] at e3;simp only[cK,big,sh,mb,m3,e3,mb2];rw[eb]
  ·rw[if_neg c] at eb;rw[decide_eq_false c] at e3;simp only[cK,big,sh,mb,m3,e3];rw[eb]
 by_cases k0:k=0
 ·refine⟨W,V0,wo,v0o,by rw[v0m,wm],by rw[v0t,wt],?_⟩;rw[decide_eq_true k0] at ek0;unfold Cp Ep;rw[Jm (show [D.lst [.int i1,.int i2,.int i3,.int i4]].length=1 from rfl),DP,E_,e_asg _ _ _ .(43) rfl,asg,K4,e_nx];simp only[z0u,z2y,z0c,z1b,z3w,z3x,z3y,z3z,z3A,z1H,z1e,z1f];rw[st];simp only[cK,Vx,d3,ml,mn,q0,ixn,d12,q1,t1,d36,q2,t2,we,qk,ek0,d5,q5,sh,mb4,v0e]
 ·rw[decide_eq_false k0] at ek0
  by_cases k1:k=1
  ·refine⟨W,V1,wo,v1o,by rw[v1m,wm],by rw[v1t,wt],?_⟩;rw[decide_eq_true k1] at ek1;unfold Cp Ep;rw[Jm (show [D.lst [.int i1,.int i2,.int i3,.int i4]].length=1 from rfl),DP,E_,e_asg _ _ _ .(43) rfl,asg,K4,e_nx];simp only[z0u,z2y,z0c,z1b,z3w,z3x,z3y,z3z,z3A,z1H,z1e,z1f];rw[st];simp only[cK,Vx,d3,ml,mn,q0,ixn,d12,q1,t1,d36,q2,t2,we,qk,ek0,ek1,an,mi,v1e]
  ·rw[decide_eq_false k1] at ek1
   by_cases k2:k=2
   ·refine⟨W,trn os W,wo,lw W wo os po,Yp os W,Yq os W,?_⟩;rw[decide_eq_true k2] at ek2;unfold Cp Ep;rw[Jm (show [D.lst [.int i1,.int i2,.int i3,.int i4]].length=1 from rfl),DP,E_,e_asg _ _ _ .(43) rfl,asg,K4,e_nx];simp only[z0u,z2y,z0c,z1b,z3w,z3x,z3y,z3z,z3A,z1H,z1e,z1f];rw[st];simp only[cK,Vx,d3,ml,mn,q0,ixn,d12,q1,t1,d36,q2,t2,we,qk,ek0,ek1,ek2,d5,oe,te]
   ·rw[decide_eq_false k2] at ek2;refine⟨W,V3,wo,v3.ok,by rw[v3.mm,Yp],by rw[v3.tt,Yq],?_⟩;unfold Cp Ep;rw[Jm (show [D.lst [.int i1,.int i2,.int i3,.int i4]].length=1 from rfl),DP,E_,e_asg _ _ _ .(43) rfl,asg,K4,e_nx];simp only[z0u,z2y,z0c,z1b,z3w,z3x,z3y,z3z,z3A,z1H,z1e,z1f];rw[st];simp only[cK,Vx,d3,ml,mn,q0,ixn,d12,q1,t1,d36,q2,t2,we,qk,ek0,ek1,ek2,d5,oe,te,d43,v3e]
theorem q9 {W V:Wl}(hw:WOk W) (hv:WOk V) (h:Spk W V) (rows:List Pr) (hi:InW W V rows) (hl:rows.length<=1000):Ve [wob W,wob V,.lst .(9)]=some (.bl (afS W V rows)):=by
 have s:=Ng W V hw hv h rows hi;have a:=af_l W V h.sp rows hl;simp only[cK,Ve,Yb,s,a]
theorem Ys {W V:Wl}(hw:WOk W) (hv:WOk V) (h:Spk W V) (x2 z5:Slot) (c:Int) (rows:List Pr) (hi:InW W V rows) (hl:rows.length<=4):∃ rows' y5,InW W V rows'/\rows'.length<=4/\Bk [.fz (wob W),.fz (wob V),x2,.ow .(5),.fz (.int c),z5]=some (.nx [.fz (wob W),.fz (wob V),x2,.ow (.lst (rows'.map pN)),.fz (.int c),y5]):=by
 have ln:=v9 rows;have lt:ltD (.int (rows.length:Int)) (.int 4)=some (.bl (decide (rows.length<4))):=aX rows.length 4;have s1:=Ho W;have s2:=Ho V;have g1:=tY W.n;have g2:=tY V.n
 by_cases c1:rows.length<4/\0<W.n/\0<V.n
 ·obtain⟨c1,c2,c3⟩:=c1;rw[decide_eq_true c1] at lt;rw[decide_eq_true c2] at g1;rw[decide_eq_true c3] at g2;have d4:=Em c 4 (by decide) (by decide);have d20:=Em c 20 (by decide) (by decide);obtain⟨a,ha,qa,_⟩:=KN (c/4) W.n c2;obtain⟨b,hb,qb,_⟩:=KN (c/20) V.n c3;have m4:=F_ c 4 (by decide);have e4:=Qf (c%4) 0;have hq:(a,b).1<W.n/\(a,b).2<V.n:=⟨ha,hb⟩;have ad:=lU rows (a,b) (by omega);have f:=q9 hw hv h (rows++[(a,b)]) (D_ hi hq) .(17);have ap:=yL rows (a,b) (by omega)
  by_cases e0:c%4=0
  ·rw[decide_eq_true e0] at e4;refine⟨rows++[(a,b)],.fz (pN (a,b)),D_ hi hq,by simp;omega,?_⟩;simp only[cK,Bk,ln,lt,s1,s2,g1,g2,d4,d20,qa,qb,m4,e4,ap]
  ·rw[decide_eq_false e0] at e4;cases ef:afS W V (rows++[(a,b)]) with
   | true=>
    rw[ef] at f;refine⟨rows++[(a,b)],.fz (pN (a,b)),D_ hi hq,by simp;omega,?_⟩;simp only[cK,Bk,ln,lt,s1,s2,g1,g2,d4,d20,qa,qb,m4,e4,ad,f,ap]
   | false=>
    rw[ef] at f;refine⟨rows,.fz (pN (a,b)),hi,hl,?_⟩;simp only[cK,Bk,ln,lt,s1,s2,g1,g2,d4,d20,qa,qb,m4,e4,ad,f]
 ·refine⟨rows,z5,hi,hl,?_⟩
  by_cases h1:rows.length<4
  ·rw[decide_eq_true h1] at lt
   by_cases h2:0<W.n
   ·have h3:¬ 0<V.n:=λ z=>c1 ⟨h1,h2,z⟩;rw[decide_eq_true h2] at g1;rw[decide_eq_false h3] at g2;simp only[cK,Bk,ln,lt,s1,s2,g1,g2]
   ·rw[decide_eq_false h2] at g1;simp only[cK,Bk,ln,lt,s1,s2,g1]
  ·rw[decide_eq_false h1] at lt;simp only[cK,Bk,ln,lt]
theorem mJ {W V:Wl}(hw:WOk W) (hv:WOk V) (h:Spk W V) (ns:List Int):∃ rows,InW W V rows/\rows.length<=4/\Hx [wob W,wob V,.lst (ns.map .int)]=some .(5):=by
 have lp:∀ (r:List Int) (rows:List Pr) (z4 z5:Slot),InW W V rows->rows.length<=4->∃ rows' y4 y5,InW W V rows'/\rows'.length<=4/\forF (tgB (Bv 4) Bk) (r.map .int) [.fz (wob W),.fz (wob V),.fz (.lst (ns.map .int)),.ow .(5),z4,z5]=some (.nx [.fz (wob W),.fz (wob V),.fz (.lst (ns.map .int)),.ow (.lst (rows'.map pN)),y4,y5]):=by
  intro r
  induction r with
  | nil=>exact λ rows z4 z5 a b=>⟨rows,z4,z5,a,b,rfl⟩
  | cons c r ih=>
   intro rows z4 z5 a b;obtain⟨rows1,y5,a1,b1,e1⟩:=Ys hw hv h (.fz (.lst (ns.map .int))) z5 c rows a b;obtain⟨rows2,w4,w5,a2,b2,e2⟩:=ih rows1 (.fz (.int c)) y5 a1 b1;refine⟨rows2,w4,w5,a2,b2,?_⟩
   w_up
   rw[e1,Dv,e2]
 obtain⟨rows,y4,y5,a,b,e⟩:=lp ns [] .un .un (λ p hp=>by cases hp) (by simp);refine⟨rows,a,b,?_⟩;simp only[z1b] at e;simp only[dK,Hx,KC,DQ,Ff,e]
theorem mK:∀ ns:List Int,ns.length<=63->(∀ i∈ns,z1q i<=1048576)->W6 [.lst (ns.map .int)]=some (.bl true):=by
 intro ns hl hbt;have cm:Bb (rngI (kF (.int 4))) allT RD [.fz (.lst (ns.map .int)),.un,.un,.un,.un,.un]=some (.lst [.int (ns.getD 0 0),.int (ns.getD 1 0),.int (ns.getD 2 0),.int (ns.getD 3 0)]):=
  XS (n:=4) (λ k=>.int (ns.getD k 0)) _ rfl (by decide) λ k _=>by
   have:=qK ns k;simp only[cK,RD,this]
 have hb:z1q (ns.getD 1 0)<=1048576:=by
  rw[z3v];cases e:ns[1]? with
  | none=>decide
  | some i=>exact hbt i (z3d e)
 obtain⟨W,V,hw,hv,mm,tt,te⟩:=mH (ns.getD 0 0) (ns.getD 1 0) (ns.getD 2 0) (ns.getD 3 0) hb;have h:Spk W V:=⟨by rw[mm],by rw[tt]⟩;have asg:∀ ρ:Rho,tupG 2 (BK 1 (BK 2 nilG)) (.lst [wd W,wd V]) ρ=some ((ρ.set 1 (.fz (wd W))).set 2 (.fz (wd V))):=λ ρ=>rfl;have e_asg:∀ (f:FE) (g:FG) (ρ:Rho) (d:D),f ρ=some d->asgF f g ρ=(g d ρ).map .nx:=λ f g ρ d e=>by unfold asgF;rw[e];rfl
 have t1:Am (Cp) (Aa (Bb (rngI (kF (.int 4))) (allT) (RD)) (nilA)) [.fz (.lst (ns.map .int)),.un,.un,.un,.un,.un]=some (.lst [wd W,wd V]):=by simp only[cK,cm,te]
 have i0:=ixw0 W;have i1:=ixw1 W;have i2:=ixw2 W;have j0:=ixw0 V;have j1:=ixw1 V;have j2:=ixw2 V;have k1:=tQ W hw (Aa (bF ixE (vF 1) .(29)) (Aa (bF ixE (vF 1) .(13)) (Aa (bF ixE (vF 1) (kF (.int 2))) (nilA)))) [.fz (.lst (ns.map .int)),.fz (wd W),.fz (wd V),.un,.un,.un] (by simp only[cK,i0,i1,i2]);have k2:=tQ V hv (Aa (bF ixE (vF 2) .(29)) (Aa (bF ixE (vF 2) .(13)) (Aa (bF ixE (vF 2) (kF (.int 2))) (nilA)))) [.fz (.lst (ns.map .int)),.fz (wd W),.fz (wd V),.fz (wob W),.un,.un] (by simp only[cK,j0,j1,j2]);have sc:slD (.lst (ns.map .int)) (some 5) (some 12)=some (.lst ((cutD ns (some 5) (some 12)).map .int)):=by
  show some (D.lst (cutD (ns.map D.int) (some 5) (some 12)))=_;rw[aK]
 obtain⟨rows,hi,h4,pe⟩:=mJ hw hv h (cutD ns (some 5) (some 12));have g1:=aj hw hv h rows hi h4;have ng:negD (.int 1)=some (.int (-1)):=rfl;have s2:slD .(5) none (some (-1))=some (.lst ((cutD rows none (some (-1))).map pN)):=by
  show some (D.lst (cutD .(9) none (some (-1))))=_;rw[aK]
 have hi2:InW W V (cutD rows none (some (-1))):=λ p hp=>hi p (by
  unfold cutD at hp;exact z7c (z5z hp))
 have g2:=aj hw hv h (cutD rows none (some (-1))) hi2 (z0A (qP rows none (some (-1))) h4);unfold W6 jw;rw[Jm (show [D.lst (ns.map .int)].length=1 from rfl),DP];simp only[z0u,z2y,z0c,z1b,z3w,z3x,z3y,z3z,z3A,z1H];rw[E_,e_asg _ _ _ _ t1,asg,K4,e_nx];simp only[cK,k1,k2,sc,pe,g1,ng,s2,g2]
end K61
end
open PySem PySem.W PyProof.Rows
theorem L2.head_at {r:OpenRow}{q:z0s}{d:DefRec}{kwd:List (Str×Expr)}{N:Nat}(H:Hook)
  (l1:LeftO r.prog q loose (λ s=>xlAt q [] s&&recOk r.records s) H.obs H.val N)
  (e1:defOf q r.name=some (d,kwd)) (e2:r.prog.theDef r.name=some (d.params,d.body,d.scope)) (e3:kwWritten? d.params.kwonlyargs d.params.kw_defaults=some kwd)
  (e4:(!r.writes||r.records.isEmpty)=true) (e5:r.wellSaid=true) (e6:(chainsOk q&&opensWell r.prog&&(frees r.toRowW&&r.within.isEmpty))=true) (e7:r.prog.bare) (e8:r.toRowW.promised)
  (e9:WalkO q loose (XL q []) H.says r.toRowW d kwd λ f vs=>z78 f vs):r.Holds:=
 holds_open (XP:=XL q []) l1 H.of H.keeps (λ s e=>xl_of s (z9M.mp e).1) XL.keeps e1 e2 e3 (λ _ e=>recFacts_of (z9M.mp e).2) e4 e5 e6 e7 e8 e9
set_option maxHeartbeats 0 in
theorem PySem.Challenge.cw_twinrounds_k61_pointing_holds : PySem.Challenge.rw_twinrounds_k61_pointing.Holds := by
 w_on;o_law;refine L2.head_at (q:=K61.vw) (loose:=[]) (N:=6000) K61.hook K61.look (by rfl) (by rfl) (by rfl) (by rfl) (by assumption) .(34) ⟨rfl,rfl,rfl,rfl,rfl,by decide +kernel⟩ ?_ ?_
 ·w_witness2
 unfold K61.hook
 k_fill
 refine PV.ir (l:=z9O) (n:=63) (k:=41) (x:="_law_script") (CX:=λ _=>L2.CX0) (sp:=λ w=>K61.tO _) rfl (by decide) rfl ⟨rfl,by decide,by decide⟩ (λ w h Y=>PySem.W.kIn_of Y) ?F (λ _ _ a ns hl hbt _ hS=>⟨a,ns,rfl,hS,hl,hbt,λ _=>rfl⟩) λ _ _ _ _ _ z=>z
 case F=>
  intro w mg fa h KX G hmg;have TT:∃ C_World:Addr,∃ C_Ranks:Addr,∃ T:K61.Tx (K61.gx (L2.KOf KX) C_World C_Ranks) mg,∀ (s:z03) (u:z00),z4g s T.x_law.fd ⟨[u],[]⟩ [("_law_script",u)]:=by
   dsimp only [L2.KOf];refine' ⟨_,_,{ C_World:=_,gc_World:=PV.jt,cl_World:=(PV.cls KX ?pg_World ?hd_World ?po_World ?sa_World :),mC_World:=z30 KX G ?aC_World,C_Ranks:=_,gc_Ranks:=(PV.vy (by decide) PV.jt),cl_Ranks:=(PV.cls KX ?pg_Ranks ?hd_Ranks ?po_Ranks ?sa_Ranks :),mC_Ranks:=z30 KX G ?aC_Ranks,x__law_world:=(PV.dx KX G ?a0 ?l0 ?c0 ?k0 ?b0 :),x__law_turned:=(PV.dx KX G ?a1 ?l1 ?c1 ?k1 ?b1 :),x__law_order:=(PV.dx KX G ?a2 ?l2 ?c2 ?k2 ?b2 :),x__law_other:=(PV.dx KX G ?a3 ?l3 ?c3 ?k3 ?b3 :),x__law_changed:=(PV.dx KX G ?a4 ?l4 ?c4 ?k4 ?b4 :),x__law_twins:=(PV.dx KX G ?a5 ?l5 ?c5 ?k5 ?b5 :),x_refuse_above:=(PV.dx KX G ?a6 ?l6 ?c6 ?k6 ?b6 :),x_refuse_no_thing:=(PV.dx KX G ?a7 ?l7 ?c7 ?k7 ?b7 :),x_kept_things:=(PV.dx KX G ?a8 ?l8 ?c8 ?k8 ?b8 :),x_kept_pairs:=(PV.dx KX G ?a9 ?l9 ?c9 ?k9 ?b9 :),x_is_word:=(PV.dx KX G ?a10 ?l10 ?c10 ?k10 ?b10 :),x_World___init__:=(PV.ix KX ?mk_World ?kc_World ?a11 ?i11 ?l11 ?c11 ?k11 ?b11 :),x_World_mark_words:=(PV.mx KX ?a12 ?i12 ?l12 ?c12 ?k12 ?b12 :),x_World_tie_words:=(PV.mx KX ?a13 ?i13 ?l13 ?c13 ?k13 ?b13 :),x_refuse_unlike:=(PV.dx KX G ?a14 ?l14 ?c14 ?k14 ?b14 :),x_refuse_strange_pairs:=(PV.dx KX G ?a15 ?l15 ?c15 ?k15 ?b15 :),x_bear_the_same:=(PV.dx KX G ?a16 ?l16 ?c16 ?k16 ?b16 :),x_lead_the_same:=(PV.dx KX G ?a17 ?l17 ?c17 ?k17 ?b17 :),x_go_together:=(PV.dx KX G ?a18 ?l18 ?c18 ?k18 ?b18 :),x_fits_with:=(PV.dx KX G ?a19 ?l19 ?c19 ?k19 ?b19 :),x_all_fit:=(PV.dx KX G ?a20 ?l20 ?c20 ?k20 ?b20 :),x_fits:=(PV.dx KX G ?a21 ?l21 ?c21 ?k21 ?b21 :),x__law_pairs:=(PV.dx KX G ?a22 ?l22 ?c22 ?k22 ?b22 :),x_unpaired:=(PV.dx KX G ?a23 ?l23 ?c23 ?k23 ?b23 :),x_Ranks_rank_with:=(PV.mx KX ?a24 ?i24 ?l24 ?c24 ?k24 ?b24 :),x_Ranks_best_rank:=(PV.mx KX ?a25 ?i25 ?l25 ?c25 ?k25 ?b25 :),x_Ranks_least_rank:=(PV.mx KX ?a26 ?i26 ?l26 ?c26 ?k26 ?b26 :),x_Ranks_rank_of_fitting:=(PV.mx KX ?a27 ?i27 ?l27 ?c27 ?k27 ?b27 :),x_Ranks_rank_of:=(PV.mx KX ?a28 ?i28 ?l28 ?c28 ?k28 ?b28 :),x_Ranks_told_rank:=(PV.mx KX ?a29 ?i29 ?l29 ?c29 ?k29 ?b29 :),x_Ranks___init__:=(PV.ix KX ?mk_Ranks ?kc_Ranks ?a30 ?i30 ?l30 ?c30 ?k30 ?b30 :),x_rank:=(PV.dx KX G ?a31 ?l31 ?c31 ?k31 ?b31 :),x_size_of_side:=(PV.dx KX G ?a32 ?l32 ?c32 ?k32 ?b32 :),x_pair_of:=(PV.dx KX G ?a33 ?l33 ?c33 ?k33 ?b33 :),x_new_pairs:=(PV.dx KX G ?a34 ?l34 ?c34 ?k34 ?b34 :),x_ranks_behind:=(PV.dx KX G ?a35 ?l35 ?c35 ?k35 ?b35 :),x_good_pointing:=(PV.dx KX G ?a36 ?l36 ?c36 ?k36 ?b36 :),x_pointing:=(PV.dx KX G ?a37 ?l37 ?c37 ?k37 ?b37 :),x__law_is_thing:=(PV.dx KX G ?a38 ?l38 ?c38 ?k38 ?b38 :),x__law_good:=(PV.dx KX G ?a39 ?l39 ?c39 ?k39 ?b39 :),x__law_cell:=(PV.dx KX G ?a40 ?l40 ?c40 ?k40 ?b40 :),x_law:=(PV.dx KX G ?a41 ?l41 ?c41 ?k41 ?b41 :),fl_size:=(PV.M9 KX (PV.fl_c .(18) ?n_World_size (PV.fl_c .(19) ?n_Ranks_size (PV.fl_n))) :),fl_marked:=(PV.M9 KX (PV.fl_c .(18) ?n_World_marked (PV.fl_c .(19) ?n_Ranks_marked (PV.fl_n))) :),fl_tied:=(PV.M9 KX (PV.fl_c .(18) ?n_World_tied (PV.fl_c .(19) ?n_Ranks_tied (PV.fl_n))) :),fl_other:=(PV.M9 KX (PV.fl_c .(18) ?n_World_other (PV.fl_c .(19) ?n_Ranks_other (PV.fl_n))) :),fl_one:=(PV.M9 KX (PV.fl_c .(18) ?n_World_one (PV.fl_c .(19) ?n_Ranks_one (PV.fl_n))) :),fl_endless:=(PV.M9 KX (PV.fl_c .(18) ?n_World_endless (PV.fl_c .(19) ?n_Ranks_endless (PV.fl_n))) :),fl_reckoned:=(PV.M9 KX (PV.fl_c .(18) ?n_World_reckoned (PV.fl_c .(19) ?n_Ranks_reckoned (PV.fl_n))) :),z_all:=z1I KX G ?z_all,z_bool:=z1I KX G ?z_bool,z_dict:=z1I KX G ?z_dict,z_enumerate:=z1I KX G ?z_enumerate,z_int:=z1I KX G ?z_int,z_isinstance:=z1I KX G ?z_isinstance,z_len:=z1I KX G ?z_len,z_list:=z1I KX G ?z_list,z_max:=z1I KX G ?z_max,z_min:=z1I KX G ?z_min,z_range:=z1I KX G ?z_range,z_set:=z1I KX G ?z_set,z_sorted:=z1I KX G ?z_sorted,z_tuple:=z1I KX G ?z_tuple,s_MOST_LETTERS:=(PV.sx (f:=(.int 8)) KX G ?a_MOST_LETTERS :),s_LETTERS:=(PV.sx (f:=(.str "abcdefghijklmnopqrstuvwxyz")) KX G ?a_LETTERS :),s_MOST_THINGS:=(PV.sx (f:=(.int 5)) KX G ?a_MOST_THINGS :),s_MOST_WORDS:=(PV.sx (f:=(.int 3)) KX G ?a_MOST_WORDS :),c_KEPT_TEXTS:=(PV.kxL (xs:=["not","and","or","some","all"]) KX G ?a_KEPT_TEXTS ?l_KEPT_TEXTS ?h_KEPT_TEXTS ?v_KEPT_TEXTS :) },?bt⟩
   case aC_World | pg_World | hd_World | po_World | sa_World | mk_World | kc_World | n_World_size | n_World_marked | n_World_tied | n_World_other | n_World_one | n_World_endless | n_World_reckoned | aC_Ranks | pg_Ranks | hd_Ranks | po_Ranks | sa_Ranks | mk_Ranks | kc_Ranks | n_Ranks_size | n_Ranks_marked | n_Ranks_tied | n_Ranks_other | n_Ranks_one | n_Ranks_endless | n_Ranks_reckoned | a0 | l0 | c0 | k0 | a1 | l1 | c1 | k1 | a2 | l2 | c2 | k2 | a3 | l3 | c3 | k3 | a4 | l4 | c4 | k4 | a5 | l5 | c5 | k5 | a6 | l6 | c6 | k6 | a7 | l7 | c7 | k7 | a8 | l8 | c8 | k8 | a9 | l9 | c9 | k9 | a10 | l10 | c10 | k10 | a11 | i11 | l11 | c11 | k11 | a12 | i12 | l12 | c12 | k12 | a13 | i13 | l13 | c13 | k13 | a14 | l14 | c14 | k14 | a15 | l15 | c15 | k15 | a16 | l16 | c16 | k16 | a17 | l17 | c17 | k17 | a18 | l18 | c18 | k18 | a19 | l19 | c19 | k19 | a20 | l20 | c20 | k20 | a21 | l21 | c21 | k21 | a22 | l22 | c22 | k22 | a23 | l23 | c23 | k23 | a24 | i24 | l24 | c24 | k24 | a25 | i25 | l25 | c25 | k25 | a26 | i26 | l26 | c26 | k26 | a27 | i27 | l27 | c27 | k27 | a28 | i28 | l28 | c28 | k28 | a29 | i29 | l29 | c29 | k29 | a30 | i30 | l30 | c30 | k30 | a31 | l31 | c31 | k31 | a32 | l32 | c32 | k32 | a33 | l33 | c33 | k33 | a34 | l34 | c34 | k34 | a35 | l35 | c35 | k35 | a36 | l36 | c36 | k36 | a37 | l37 | c37 | k37 | a38 | l38 | c38 | k38 | a39 | l39 | c39 | k39 | a40 | l40 | c40 | k40 | a41 | l41 | c41 | k41 | z_all | z_bool | z_dict | z_enumerate | z_int | z_isinstance | z_len | z_list | z_max | z_min | z_range | z_set | z_sorted | z_tuple | a_MOST_LETTERS | a_LETTERS | a_MOST_THINGS | a_MOST_WORDS | a_KEPT_TEXTS | l_KEPT_TEXTS=>k_is
   case b5 | b10 | b12 | b13 | b41=>exact λ _ _ _ _ _ _ us hl=>by (obtain⟨_,rfl⟩:=PV.tG hl;rfl)
   case b1 | b2 | b3 | b4 | b6 | b7 | b8 | b9 | b14 | b23 | b26 | b27 | b28 | b29 | b32 | b36 | b38 | b40=>exact λ _ _ _ _ _ _ us hl=>by (obtain⟨_,_,rfl⟩:=PV.tH hl;rfl)
   case b15 | b16 | b20 | b21 | b22 | b24 | b25 | b30 | b31 | b33 | b34 | b37 | b39=>exact λ _ _ _ _ _ _ us hl=>by (obtain⟨_,_,_,rfl⟩:=PV.tK hl;rfl)
   case b0 | b11 | b17 | b18 | b19 | b35=>exact λ _ _ _ _ _ _ us hl=>by (obtain⟨_,_,_,_,rfl⟩:=PV.yE hl;rfl)
   case h_KEPT_TEXTS=>decide
   case v_KEPT_TEXTS=>exact .cons ⟨_,rfl⟩ (.cons ⟨_,rfl⟩ (.cons ⟨_,rfl⟩ (.cons ⟨_,rfl⟩ (.cons ⟨_,rfl⟩ (.nil)))))
   case bt=>exact λ s u=>.of_eq rfl
  obtain⟨C_World,C_Ranks,T,e1⟩:=TT;have e0:fa=T.x_law.f:=by
   have q:=hmg.symm.trans T.x_law.m;cases q;rfl
  subst e0;exact⟨T.x_law.fd,e1,λ base kb nb=>(K61.vz (w:=w) (base:=base) T).imp (K61.v4 K61.mK)⟩
