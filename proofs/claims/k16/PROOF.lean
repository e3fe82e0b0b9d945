import PyProof.Rows.All
import Wide.All
import OpenK.AllK
import Wide.FinOn
import Lean
import PyProof.EqAt
import PyProof.EqKinds
import PyProof.TupleCall
import PyProof.StationsW
import PyProof.DictWalks
import PyProof.DictItemsLoops
import KE.KPairComp
import KE.KDictList
import PyProof.StrWalks
import PyProof.ConsumeWalk
import PyProof.DictUpdate
import PyProof.ExcClass2
import PyProof.ExcClass3
import PyProof.ExcArgsOwn
import PyProof.ExcAttrAll.ValueError
import PyProof.InstStoreFacts
import PyProof.StrLawsRepr
import PyProof.ReprStr
import PyProof.NsDelKeeps
import PyProof.RulesAs
import KE.KIsAll
import PySem.Challenge.RW_twinrounds_k16_no_name_thing_word
set_option compiler.extract_closed false
set_option genSizeOf false
set_option genInjectivity false
set_option Elab.async false
set_option linter.all false
set_option maxRecDepth 100000
set_option maxHeartbeats 4000000
abbrev zFr:=PySem.W.Frag
abbrev zQ:=PySem.Value->PySem.Shared->Prop
abbrev zP:=List (PySem.Addr×PySem.Obj)
variable {us its:List PySem.Value}{u doc pm cdv ct oc:PySem.Value}{a b it p C L q:PySem.Addr}{P prog:PySem.Program}{w:PySem.World}{h h':PySem.Heap}{t' i n j ep x1 k':Nat}{ch A fp B A0:List PySem.Addr}{e tg l:PySem.Expr}{pins' π:List (PySem.Addr×PySem.Obj)}{N ns ps ks zs loose:List PySem.Str}{M:PySem.Model}{E Q:PySem.Value->PySem.Shared->Prop}{s' s:PySem.Shared}{pos pos' py spos apos tp xpos:PySem.Pos}{c f qual cn:PySem.Str}{es:Array (Int×PySem.Value)}{body s1:List PySem.Stmt}{kw:List (PySem.Str×PySem.Value)}{env:PySem.Env}{mg:PySem.Str->Option PySem.Value}{fd:PySem.FuncData}{outer:List PySem.Env}{sc scope:PySem.Scope}{an od tb:Option PySem.Addr}{osl:Array (Option PySem.Value)}{elts:List PySem.Expr}
theorem z00:type_of%@PySem.wpAny_bind:=@PySem.wpAny_bind
theorem z01:type_of%@PySem.wpAny_pure:=@PySem.wpAny_pure
theorem z02:type_of%@List.length_map.{0,0}:=@List.length_map
theorem z03:type_of%@List.map_cons.{0,0}:=@List.map_cons
theorem z04:type_of%@Nat.le_refl:=@Nat.le_refl
theorem z05:type_of%@PySem.Heap.get?_push_of_some:=@PySem.Heap.get?_push_of_some
theorem z06:type_of%@PySem.Heap.lt_size:=@PySem.Heap.lt_size
theorem z07:type_of%@List.mem_map.{0,0}:=@List.mem_map
theorem z08:type_of%@Nat.ne_of_lt:=@Nat.ne_of_lt
theorem z09:type_of%@List.lookup_cons.{0,0}:=@List.lookup_cons
theorem z0a:type_of%@Nat.le_trans:=@Nat.le_trans
theorem z0b:type_of%@List.mem_cons_of_mem.{0}:=@List.mem_cons_of_mem
theorem z0c:type_of%@Option.bind_some.{0,0}:=@Option.bind_some
theorem z0d:type_of%@List.mem_cons.{0}:=@List.mem_cons
theorem z0e:type_of%@List.size_toArray.{0}:=@List.size_toArray
theorem z0f:type_of%@PySem.Heap.get?_push_size:=@PySem.Heap.get?_push_size
theorem z0g:type_of%@List.getElem?_map.{0,0}:=@List.getElem?_map
theorem z0h:type_of%@Option.some.inj.{0}:=@Option.some.inj
theorem z0i:type_of%@List.mem_cons_self.{0}:=@List.mem_cons_self
theorem z0j:type_of%@Bool.false_ne_true:=@Bool.false_ne_true
theorem z0k:type_of%@Option.map_some.{0,0}:=@Option.map_some
theorem z0l:type_of%@List.map_map.{0,0,0}:=@List.map_map
theorem z0m:type_of%@Nat.lt_of_lt_of_le:=@Nat.lt_of_lt_of_le
theorem z0n:type_of%@List.set_cons_zero.{0}:=@List.set_cons_zero
theorem z0o:type_of%@List.set_cons_succ.{0}:=@List.set_cons_succ
theorem z0p:type_of%@List.mem_append.{0}:=@List.mem_append
theorem z0q:type_of%@List.map_nil.{0,0}:=@List.map_nil
theorem z0r:type_of%@Int.toNat_natCast:=@Int.toNat_natCast
theorem z0s:type_of%@List.length_cons.{0}:=@List.length_cons
theorem z0t:type_of%@List.append_nil.{0}:=@List.append_nil
theorem z0u:type_of%@List.length_append.{0}:=@List.length_append
theorem z0v:type_of%@List.getElem?_set_ne.{0}:=@List.getElem?_set_ne
theorem z0w:type_of%@List.getElem?_cons_zero.{0}:=@List.getElem?_cons_zero
theorem z0x:type_of%@Bool.and_eq_true:=@Bool.and_eq_true
theorem z0y:type_of%@beq_eq_false_iff_ne.{0}:=@beq_eq_false_iff_ne
theorem z0z:type_of%@PySem.wpAny_holding:=@PySem.wpAny_holding
theorem z0A:type_of%@Nat.zero_add:=@Nat.zero_add
theorem z0B:type_of%@List.mem_range:=@List.mem_range
theorem z0C:type_of%@List.getElem?_eq_some_iff.{0}:=@List.getElem?_eq_some_iff
theorem z0D:type_of%@PySem.wpAny_mono:=@PySem.wpAny_mono
theorem z0E:type_of%@PySem.PassesOwn.never:=@PySem.PassesOwn.never
theorem z0F:type_of%@List.nil_append.{0}:=@List.nil_append
theorem z0G:type_of%@PySem.W.kia_one:=@PySem.W.kia_one
theorem z0H:type_of%@List.map_append.{0,0}:=@List.map_append
theorem z0I:type_of%@List.getElem?_cons_succ.{0}:=@List.getElem?_cons_succ
theorem z0J:type_of%@decide_eq_false:=@decide_eq_false
theorem z0K:type_of%@List.mem_filter.{0}:=@List.mem_filter
theorem z0L:type_of%@List.all_eq_true.{0}:=@List.all_eq_true
theorem z0M:type_of%@List.nodup_append.{0}:=@List.nodup_append
theorem z0N:type_of%@beq_iff_eq.{0}:=@beq_iff_eq
theorem z0O:type_of%@PySem.codeAny_mono:=@PySem.codeAny_mono
theorem z0P:type_of%@Nat.zero_le:=@Nat.zero_le
theorem z0Q:type_of%@Nat.le_succ:=@Nat.le_succ
theorem z0R:type_of%@PySem.wpAny_newObj_type:=@PySem.wpAny_newObj_type
theorem z0S:type_of%@PySem.Heap.get?_update_other:=@PySem.Heap.get?_update_other
theorem z0T:type_of%@PySem.W.mg_none_of:=@PySem.W.mg_none_of
theorem z0U:type_of%@List.mem_append_right.{0}:=@List.mem_append_right
theorem z0V:type_of%@List.length_take.{0}:=@List.length_take
theorem z0W:type_of%@List.length_set.{0}:=@List.length_set
theorem z0X:type_of%@List.any_cons.{0}:=@List.any_cons
theorem z0Y:type_of%@PySem.wpAny_setField:=@PySem.wpAny_setField
theorem z0Z:type_of%@beq_self_eq_true.{0}:=@beq_self_eq_true
theorem z10:type_of%@PySem.W.mg_of:=@PySem.W.mg_of
theorem z11:type_of%@Nat.two_pow_pos:=@Nat.two_pow_pos
theorem z12:type_of%@List.getElem?_set_self.{0}:=@List.getElem?_set_self
theorem z13:type_of%@PySem.Heap.size_push:=@PySem.Heap.size_push
theorem z14:type_of%@PySem.wpAny_call:=@PySem.wpAny_call
theorem z15:type_of%@PySem.wpAny_Call_Name_kw:=@PySem.wpAny_Call_Name_kw
theorem z16:type_of%@PySem.wpAny_field:=@PySem.wpAny_field
theorem z17:type_of%@PySem.wpAny_call_entry:=@PySem.wpAny_call_entry
theorem z18:type_of%@PySem.Heap.get?_update_self:=@PySem.Heap.get?_update_self
theorem z19:type_of%@Int.emod_nonneg:=@Int.emod_nonneg
theorem z1a:type_of%@List.getElem?_eq_getElem.{0}:=@List.getElem?_eq_getElem
theorem z1b:type_of%@List.getElem?_append_left.{0}:=@List.getElem?_append_left
theorem z1c:type_of%@List.length_drop.{0}:=@List.length_drop
theorem z1d:type_of%@Option.isSome_some.{0}:=@Option.isSome_some
theorem z1e:type_of%@List.length_nil.{0}:=@List.length_nil
theorem z1f:type_of%@Nat.not_lt:=@Nat.not_lt
theorem z1g:type_of%@Nat.mul_comm:=@Nat.mul_comm
theorem z1h:type_of%@PySem.W.callWith_K:=@PySem.W.callWith_K
theorem z1i:type_of%@List.nodup_cons.{0}:=@List.nodup_cons
theorem z1j:type_of%@List.getElem?_append_right.{0}:=@List.getElem?_append_right
theorem z1k:type_of%@List.all_cons.{0}:=@List.all_cons
theorem z1l:type_of%@List.replicate_succ.{0}:=@List.replicate_succ
theorem z1m:type_of%@decide_eq_true:=@decide_eq_true
theorem z1n:type_of%@Nat.lt_of_le_of_lt:=@Nat.lt_of_le_of_lt
theorem z1o:type_of%@Int.emod_lt_of_pos:=@Int.emod_lt_of_pos
theorem z1p:type_of%@Nat.lt_succ_of_lt:=@Nat.lt_succ_of_lt
theorem z1q:type_of%@PySem.isSubtype_type:=@PySem.isSubtype_type
theorem z1r:type_of%@Nat.mul_le_mul_left:=@Nat.mul_le_mul_left
theorem z1s:type_of%@Nat.lt_irrefl:=@Nat.lt_irrefl
theorem z1t:type_of%@Array.length_toList.{0}:=@Array.length_toList
theorem z1u:type_of%@PySem.wpAny_passesOwn:=@PySem.wpAny_passesOwn
theorem z1v:type_of%@List.mem_of_getElem?.{0}:=@List.mem_of_getElem?
theorem z1w:type_of%@PySem.wpAny_callSpecial?_slot:=@PySem.wpAny_callSpecial?_slot
theorem z1x:type_of%@List.getElem_mem.{0}:=@List.getElem_mem
theorem z1y:type_of%@of_decide_eq_true:=@of_decide_eq_true
theorem z1z:type_of%@List.pairwise_cons.{0}:=@List.pairwise_cons
theorem z1A:type_of%@List.drop_eq_getElem_cons.{0}:=@List.drop_eq_getElem_cons
theorem z1B:type_of%@List.mem_singleton.{0}:=@List.mem_singleton
theorem z1C:type_of%@PySem.codeAny_call_builtin:=@PySem.codeAny_call_builtin
theorem z1D:type_of%@List.foldl_cons.{0,0}:=@List.foldl_cons
theorem z1E:type_of%@Option.isSome_none.{0}:=@Option.isSome_none
theorem z1F:type_of%@List.getElem_of_mem.{0}:=@List.getElem_of_mem
theorem z1G:type_of%@PySem.wpAny_loadPart_at:=@PySem.wpAny_loadPart_at
theorem z1H:type_of%@Nat.pow_le_pow_right:=@Nat.pow_le_pow_right
theorem z1I:type_of%@Nat.mul_succ:=@Nat.mul_succ
theorem z1J:type_of%@Bool.not_true:=@Bool.not_true
theorem z1K:type_of%@PySem.wpAny_truthy_bool:=@PySem.wpAny_truthy_bool
theorem z1L:type_of%@Bool.eq_iff_iff:=@Bool.eq_iff_iff
theorem z1M:type_of%@Nat.lt_succ_self:=@Nat.lt_succ_self
theorem z1N:type_of%@List.find?_cons.{0}:=@List.find?_cons
theorem z1O:type_of%@PySem.Obj.data_mapFields:=@PySem.Obj.data_mapFields
theorem z1P:type_of%@List.getElem?_eq_none.{0}:=@List.getElem?_eq_none
theorem z1Q:type_of%@decide_eq_true_eq:=@decide_eq_true_eq
theorem z1R:type_of%@PySem.wpAny_setState_of:=@PySem.wpAny_setState_of
theorem z1S:type_of%@Nat.testBit_or:=@Nat.testBit_or
theorem z1T:type_of%@List.cons_append.{0}:=@List.cons_append
theorem z1U:type_of%@List.replicate_zero.{0}:=@List.replicate_zero
theorem z1V:type_of%@Bool.not_false:=@Bool.not_false
theorem z1W:type_of%@PySem.mem_of_lookup:=@PySem.mem_of_lookup
theorem z1X:type_of%@PySem.F.slot_dict_keyiterator_next:=@PySem.F.slot_dict_keyiterator_next
theorem z1Y:type_of%@List.getElem?_range:=@List.getElem?_range
theorem z1Z:type_of%@List.getD_eq_getElem?_getD.{0}:=@List.getD_eq_getElem?_getD
theorem z20:type_of%@PySem.F.excBase_ValueError:=@PySem.F.excBase_ValueError
theorem z21:type_of%@Nat.testBit_two_pow_sub_one:=@Nat.testBit_two_pow_sub_one
section
open PySem PySem.W PyProof.Rows
def L2.viewAt (p:Program) (ks:List Nat):Program:={ p with main:={ p.main with body:=ks.filterMap λ i=>p.main.body[i]? } }
abbrev K16.R:=PySem.Challenge.rw_twinrounds_k16_no_name_thing_word.row
def K16.vw:Program:=L2.viewAt PySem.Challenge.pw_twinrounds_k16_no_name_thing_word [0,2,3,4,5,6,7,8,9,11,12,13,14,15,16,17,18,19,20,21,23,24,25,26,27,28,29,30,31,32,33,34,35,36,39,40,41,42,43,44,45,46,47,48,49,50,51,52]
theorem zE_ {α:Sort _}(a:α):a=a:=of_eq_true (eq_self a)
namespace L2T
def runG (st:SharedT->Thread->Option (SharedT×Thread)) (ok:Thread->Bool):Nat->SharedT->Thread->Option SharedT
 | 0,_,_=>none
 | n+1,s,t=>match through t with
  | true=>some s
  | false=>match ok t with
   | false=>none
   | true=>match st s t with
    | some (s',t')=>runG st ok n s' t'
    | none=>none
theorem Z4 {tb:String->Option Builtin}{p:Program}{w:World}{n₀:Nat}{ann:Option Value}:∀ {n:Nat}{s s':SharedT}{t:Thread},runG (stepT (denote tb) p w) (stepOk n₀ ann) n s t=some s'->topRun tb p w n₀ ann n s.abs t=some s'.abs
 | 0,_,_,_,h=>by cases h
 | n+1,s,s',t,h=>by
  unfold runG at h;unfold topRun;cases he:through t with
  | true=>rw[he] at h;cases h;rfl
  | false=>
   rw[he] at h;cases hk:stepOk n₀ ann t with
   | false=>rw[hk] at h;cases h
   | true=>
    rw[hk] at h;cases hs:stepT (denote tb) p w s t with
    | none=>rw[hs] at h;cases h
    | some r=>obtain⟨s₂,t₂⟩:=r;rw[hs] at h;rw[stepT_spec hs];exact Z4 h
def treeOf (l:List Obj):BT:=(l.foldl (λ (a:BT×Nat) o=>(a.1.ins a.2 o,a.2+1)) (BT.nil,0)).1
noncomputable abbrev boot (w:World) (os:OsState):SharedT:=⟨treeOf (boot_heap w.params).objs.toList,11,(boot_heap w.params).life,Array.mk [],boot_drawn,boot_toks,os⟩
set_option maxHeartbeats 0 in
theorem boot_abs (w:World) (os:OsState):(boot w os).abs=⟨boot_heap w.params,Array.mk [],boot_drawn,boot_toks,os⟩:=by kernel_rfl
set_option maxHeartbeats 0 in
theorem dH (w:World):((boot_heap w.params).isNs mainGlobals,(boot_heap w.params).objs.size)=(true,11):=by kernel_rfl
noncomputable abbrev ann (w:World):Option Value:=(boot_heap w.params).nsMap mainGlobals "__annotations__"
noncomputable def fits (p:Program) (w:World) (s:Shared):Bool:=staticsOk (importedModules p.main.body) (boot_heap w.params) s.heap&&namesBound p s.heap&&gensDone s&&laidKept (boot_heap w.params) s.heap
theorem left {p:Program}{N:Nat}{α:Type}{f:Shared->α}{good:World->α}(hb:opening p=plainProg p.main.scope.names) (hf:∀ s,fenceModules? p s=some s) (hN:Nat.ble 600 N=true)
  (h:∀ (w:World) (os:OsState),(runG (Fast.tw10156331382660048174 (Fast.tw11892475500146522536 Fast.tw14364793385576792824) p w) (Fast.tw6613529449190102663 11 (ann w)) N (boot w os) (topStub p)).map (λ s=>(fits p w s.abs,f s.abs))=some (true,good w)) (w:World):(openEnds treeTable p w N).map f=some (good w):=by
 obtain⟨⟨h0,gs,d,k,os⟩,e,e'⟩:=Option.map_eq_some_iff.mp (boot_open hb hN hf w);obtain⟨rfl,rfl,rfl,rfl⟩:h0=boot_heap w.params/\gs=Array.mk []/\d=boot_drawn/\k=boot_toks:=by simpa using e'
 have h:=h w os;rw[<-Fast.te10156331382660048174,<-Fast.te11892475500146522536,<-Fast.te14364793385576792824,<-Fast.te6613529449190102663] at h;obtain⟨s1,r,q⟩:=Option.map_eq_some_iff.mp h;obtain⟨q1,q2⟩:=Prod.mk.inj q;have t:=Z4 r;rw[boot_abs] at t;obtain⟨b1,b2⟩:=Prod.mk.inj (dH w);have g:topFrom treeTable p w N ⟨boot_heap w.params,Array.mk [],boot_drawn,boot_toks,os⟩=some s1.abs:=by
  unfold topFrom;dsimp only;rw[b1,b2];show (topRun treeTable p w 11 (ann w) N _ (topStub p)).bind _=_;rw[t];show (match fits p w s1.abs with | true=>some s1.abs | false=>none)=_;rw[q1]
 unfold openEnds;rw[e];show (topFrom treeTable p w N _).map f=_;rw[g];exact congrArg some q2
end L2T
section
local macro_rules | `(tactic| o_head $H) => `(tactic| exact ‹∀ P : Prop, P› _)
set_option maxHeartbeats 0 in
theorem K16.side (hole:∀ P:Prop,P):K16.R.Holds:=by
 k_head
end
def K16.as:List Addr:=[2,3,15,17,18,20,21,22,29,30,31,32,35,42,44,45,47,48,49,50,51,54,61,63,64,66,67,68,69,70,73,80,82,83,85,86,87,88,89,92,99,101,102,104,105,106,107,108,111,118,120,121,123,124,125,126,127,130,137,138,139,142,149,150,151,154,155,158,159,160,162,163,165,166,167,169,170,172,173,174,176,177,179,180,181,183,184,186,187,195,197,198,200,201,202,204,205,207,208,209,211,212,214,215,216,218,219,221,222,223,225,226,228,229,230,231,232,233,234,237,238,239,241,242,244,245,246,248,249,251,252,253,256,257,258,260,261,263,264,265,267,268,270,271,272,274,275,277,278,279,281,282,284,285,286,289,290,291,293,294,296,297,298,301,302,303,306,307,308,310,311,313,314,315,316,319,320,321,323,324,326,327,328,331,332,333,336,337,338,341,342,343,345,346,348,349,350,352,353,355,356,357,360,361,362,365,366,367,369,370,372,373,374,376,377,379,380,381,384,385,386,388,389,391,392,393,395,396,398,399,400,402,403,405,406]
set_option maxHeartbeats 0 in
theorem K16.as_ok:∀ P,K16.as=(K16.side.heap_1 P).map (·.1):=λ _=>by kernel_rfl
noncomputable def K16.hook:Hook:=kHook K16.side.heap_1 K16.as K16.as_ok
set_option maxHeartbeats 0 in
theorem K16.look:LeftO K16.R.prog K16.vw [Str.ofString "is_so"] (λ s=>xlAt K16.vw [] s&&recOk K16.R.records s) K16.hook.obs K16.hook.val 6000:=by
 rw[show LeftO K16.R.prog K16.vw [Str.ofString "is_so"] (λ s=>xlAt K16.vw [] s&&recOk K16.R.records s) K16.hook.obs K16.hook.val 6000=∀ w,(openEnds treeTable K16.R.prog w 6000).map (λ s=>(openSeen K16.vw [Str.ofString "is_so"] (importedModules K16.R.prog.main.body) (λ s=>xlAt K16.vw [] s&&recOk K16.R.records s) true s,K16.hook.obs s))=some (openGood K16.vw [Str.ofString "is_so"],K16.hook.val w) from rfl,Fast.te4187177175401517315];exact L2T.left (by kernel_rfl) (λ _=>by kernel_rfl) rfl (λ w os=>by kernel_rfl)
end
namespace L2
open PySem PySem.Spec PyProof.Rows
abbrev Key:=Sum Int Str
def Ug:Key->Value->Bool
 | .inl k,v=>Value.isInt k v
 | .inr x,v=>Value.isStrOf x v
def keyH (w:World):Key->Int
 | .inl k=>hashInt k
 | .inr x=>hashStr w x
theorem Ci:∀ {k:Key}{v:Value},Ug k v=true->(∃ i t,k=Sum.inl i/\v=Value.int i t)∨(∃ x t,k=Sum.inr x/\v=Value.str x t)
 | .inl i,v,h=>by
  obtain⟨t,e⟩:=Value.isInt_shape (k:=i) (v:=v) h;exact .inl ⟨i,t,rfl,e⟩
 | .inr x,v,h=>by
  obtain⟨t,e⟩:=Value.isStrOf_shape (x:=x) (v:=v) h;exact .inr ⟨x,t,rfl,e⟩
theorem dI (i:Int) (t:Tok):Ug (.inl i) (.int i t)=true:=by simp[Ug,Value.isInt]
theorem dJ (x:Str) (t:Tok):Ug (.inr x) (.str x t)=true:=by simp[Ug,Value.isStrOf]
theorem tO (a b:Int):decide ((Sum.inl a:Key)=Sum.inl b)=(a==b):=by
 by_cases e:a=b
 ·subst e;simp
 ·have h:¬ (Sum.inl a:Key)=Sum.inl b:=λ q=>e (Sum.inl.inj q);rw[z0J h];exact (z0y.mpr e).symm
theorem tQ (a b:Str):decide ((Sum.inr a:Key)=Sum.inr b)=decide (a=b):=by
 by_cases e:a=b
 ·subst e;simp
 ·have h:¬ (Sum.inr a:Key)=Sum.inr b:=λ q=>e (Sum.inr.inj q);rw[z0J h,z0J e]
theorem tR (a:Int) (b:Str):decide ((Sum.inl a:Key)=Sum.inr b)=false:=z0J (λ q=>nomatch q)
theorem tU (a:Str) (b:Int):decide ((Sum.inr a:Key)=Sum.inl b)=false:=z0J (λ q=>nomatch q)
def Bj (prog:Program) (w:World):PySem.KeyKind prog w Key where
 is:=Ug
 hash:=keyH w
 inj:=λ v a b ha hb=>by
  rcases Ci ha with ⟨i,t,rfl,rfl⟩ | ⟨x,t,rfl,rfl⟩
  ·rcases Ci hb with ⟨j,u,rfl,e⟩ | ⟨y,u,rfl,e⟩
   ·injection e with e1 _;rw[e1]
   ·exact nomatch e
  ·rcases Ci hb with ⟨j,u,rfl,e⟩ | ⟨y,u,rfl,e⟩
   ·exact nomatch e
   ·injection e with e1 _;rw[e1]
 byValue:=λ k v h=>by
  rcases Ci h with ⟨i,t,rfl,rfl⟩ | ⟨x,t,rfl,rfl⟩<;>rfl
 pyHash:=λ hv h=>by
  rcases Ci hv with ⟨i,t,rfl,rfl⟩ | ⟨x,t,rfl,rfl⟩
  ·exact wpAny_pyHash_int h
  ·exact wpAny_pyHash_str h
 eqBool:=λ hu hv h=>by
  rcases Ci hu with ⟨i,t,rfl,rfl⟩ | ⟨x,t,rfl,rfl⟩
  ·rcases Ci hv with ⟨j,u,rfl,rfl⟩ | ⟨y,u,rfl,rfl⟩
   ·rw[tO] at h;exact wpAny_eqBool_int h
   ·rw[tR] at h;exact SeqAt.EqAt.int_str i t y u _ _ _ _ h
  ·rcases Ci hv with ⟨j,u,rfl,rfl⟩ | ⟨y,u,rfl,rfl⟩
   ·rw[tU] at h;exact SeqAt.EqAt.str_int x t j u _ _ _ _ h
   ·rw[tQ] at h;exact wpAny_eqBool_str h
 «strs»:=λ k x t v h=>by
  rcases Ci h with ⟨i,u,rfl,e⟩ | ⟨y,u,rfl,e⟩
  ·exact nomatch e
  ·injection e with e1 _
   subst e1;cases v<;>rfl
theorem XF (prog:Program) (w:World) (i:Int) (t:Tok):(Bj prog w).is (.inl i) (.int i t)=true:=dI i t
theorem XH (prog:Program) (w:World) (x:Str) (t:Tok):(Bj prog w).is (.inr x) (.str x t)=true:=dJ x t
set_option genInjectivity true in
inductive V where
 | non | bl (b:Bool) | int (i:Int) | str (x:Str) | byt (b:Array UInt8) | flt (b:UInt64) | ref (a:Addr) | ty (n:String)
 deriving DecidableEq
def RelV:V->Value->Prop
 | .non,u=>u=Value.none
 | .bl b,u=>u=Value.bool b
 | .int i,u=>∃ t,u=Value.int i t
 | .str x,u=>∃ t,u=Value.str x t
 | .byt b,u=>∃ t,u=Value.bytes b t
 | .flt b,u=>∃ t,u=Value.float b t
 | .ref a,u=>u=Value.ref a
 | .ty n,u=>u=Value.type n
abbrev Vals:List V->List Value->Prop:=Paired RelV
theorem Vals.length {xs:List V}{us:List Value}(r:Vals xs us):xs.length=us.length:=Paired.length r
theorem Vals.get:∀ {xs:List V}{us:List Value}{i:Nat}{x:V},Vals xs us->xs[i]?=some x->∃ u,us[i]?=some u/\RelV x u
 | _,_,_,_,.nil,e=>by simp at e
 | _,_,0,_,.cons r _,e=>by simp at e;subst e;exact⟨_,rfl,r⟩
 | _,_,i+1,x,.cons _ t,e=>by
  obtain⟨u,h1,h2⟩:=Vals.get (i:=i) (x:=x) t (by simpa using e);exact⟨u,by simpa using h1,h2⟩
theorem Vals.set {x:V}{u:Value}(r:RelV x u):∀ {xs:List V}{us:List Value}(i:Nat),Vals xs us->Vals (xs.set i x) (us.set i u)
 | _,_,_,.nil=>.nil
 | _,_,0,.cons _ t=>.cons r t
 | _,_,i+1,.cons q t=>.cons q (Vals.set r i t)
theorem Vals.append:∀ {xs ys:List V}{us ws:List Value},Vals xs us->Vals ys ws->Vals (xs++ys) (us++ws)
 | _,_,_,_,.nil,s=>s
 | _,_,_,_,.cons r t,s=>.cons r (Vals.append t s)
theorem Vals.take:∀ {xs:List V}{us:List Value}(n:Nat),Vals xs us->Vals (xs.take n) (us.take n)
 | _,_,0,_=>.nil
 | _,_,_+1,.nil=>.nil
 | _,_,n+1,.cons r t=>.cons r (Vals.take n t)
theorem Vals.drop:∀ {xs:List V}{us:List Value}(n:Nat),Vals xs us->Vals (xs.drop n) (us.drop n)
 | _,_,0,r=>r
 | _,_,_+1,.nil=>.nil
 | _,_,n+1,.cons _ t=>Vals.drop n t
def RelO:Option V->Option Value->Prop
 | some v,some u=>RelV v u
 | none,none=>True
 | _,_=>False
def KV {κ:Type}:List (κ×V)->List (κ×Value)->Prop:=Paired λ (p:κ×V) (q:κ×Value)=>p.1=q.1/\RelV p.2 q.2
def kV:Key->V
 | .inl i=>.int i
 | .inr x=>.str x
inductive HO where
 | lst (xs:List V)
 | tup (xs:List V)
 | dK (kvs:List (Key×V)) | dT (kvs:List (List Key×V))
 | set (S:Int->Bool) (n:Nat)
 | ins (C dx:Addr) (fs:List (Str×V))
 | own (x:Addr)
 | xd (fs:List (Str×V))
 | met (f x:Addr)
 | rng (lo hi:Int)
 | frz (o:Obj) (u:HO)
 | tbl (ps:Array Value)
 | ext (φ:Heap->Prop)
abbrev Hp:=Addr->Option HO
def upd (H:Hp) (a:Addr) (o:HO):Hp:=λ b=>if b=a then some o else H b
theorem Ai {H:Hp}{o:HO}:upd H a o a=some o:=by delta upd;rw[if_pos rfl]
theorem Al {H:Hp}{o:HO}(h:b≠a):upd H a o b=H b:=by delta upd;rw[if_neg h]
theorem rC {H:Hp}{o u:HO}(h:H a=some o) (h':H b=some u) (d:o≠u):a≠b:=by
 intro e;subst e;rw[h] at h';exact d (z0h h')
theorem Aw {H:Hp}{o:HO}(h:H a=some o) (h':H b=none):a≠b:=by
 intro e;subst e;rw[h] at h';cases h'
section
variable (P:Program) (w:World)
def Bt (H:Hp) (h:Heap) (a:Addr):HO->Prop
  | .lst xs=>xs.length<=sizeLine/\∃ (its:List Value) (n:Nat),Vals xs its/\h.get? a=some { cls:=.type "list",data:=.seq its.toArray n }
  | .tup xs=>xs.length<=sizeLine/\∃ its:List Value,Vals xs its/\IsTup h a its.toArray
  | .dK kvs=>kvs.length<=sizeLine/\(a==sysModules)=false/\∃ vs,KV kvs vs/\h.DictOf (Bj P w) a vs
  | .dT kvs=>kvs.length<=sizeLine/\(a==sysModules)=false/\∃ xs:List (List Key×Addr×Value),
      Paired (λ (p:List Key×V) (q:List Key×Addr×Value)=>p.1=q.1/\H q.2.1=some (.tup (p.1.map kV))/\RelV p.2 q.2.2) kvs xs ∧
      ∃ o es ep,h.get? a=some o/\o.ExactDict/\o.data=.dict es ep/\es.toList=xs.map (entryOfKey (tupleKind (Bj P w)))/\(xs.map (·.1)).Nodup
  | .set S n=>h.SetOf (intKind P w) a S n
  | .ins C dx fs=>H dx=some (.own a)/\fs.length<=1000/\dx≠a/\h.get? a=some (PySem.W.instObj C dx) ∧
      ∃ mA,h.Ns1 dx mA/\(∀ f,RelO (fs.lookup f) (mA f))/\PySem.Within mA (fs.map (·.1))
  | .own _=>∃ o,h.get? a=some o
  | .xd fs=>∃ mA,h.Ns1 a mA/\∀ f,RelO (fs.lookup f) (mA f)
  | .rng lo hi=>∃ t u v,h.get? a=some { cls:=.type "range",data:=.fields #[.int lo t,.int hi u,.int 1 v] }
  | .frz o u=>h.get? a=some o/\Bt H h a u
  | .tbl ps=>h.get? a=some { cls:=.none,data:=.fields ps }
  | .met f x=>h.get? a=some (PySem.W.methodObj (.ref f) (.ref x))
  | .ext φ=>φ h/\(∃ o,h.get? a=some o)/\∀ h1 h2:Heap,φ h1->(∀ o,h1.get? a=some o->h2.get? a=some o)->φ h2
def HOk (H:Hp) (h:Heap):Prop:=∀ a o,H a=some o->Bt P w H h a o
end
section
variable {H H':Hp}{o:HO}
theorem Bt.lt (x:Bt P w H h a o):a<h.objs.size:=by
 cases o with
 | lst xs=>obtain⟨_,_,_,_,e⟩:=x;exact z06 e
 | tup xs=>obtain⟨_,_,_,p⟩:=x;exact p.lt
 | dK kvs=>obtain⟨_,_,_,_,o,_,_,e,_⟩:=x;exact z06 e
 | dT kvs=>obtain⟨_,_,_,_,o,_,_,e,_⟩:=x;exact z06 e
 | set S n=>obtain⟨o,_,_,_,e,_⟩:=x;exact z06 e
 | ins C dx fs=>obtain⟨_,_,_,e,_⟩:=x;exact z06 e
 | own y=>obtain⟨_,e⟩:=x;exact z06 e
 | xd fs=>obtain⟨_,⟨_,_,_,e,_⟩,_⟩:=x;exact z06 e
 | rng lo hi=>obtain⟨_,_,_,e⟩:=x;exact z06 e
 | frz ob u=>obtain⟨e,_⟩:=x;exact z06 e
 | tbl ps=>exact z06 (show h.get? a=some _ from x)
 | met f y=>exact z06 (show h.get? a=some _ from x)
 | ext φ=>obtain⟨_,⟨_,e⟩,_⟩:=x;exact z06 e
theorem Paired.mapP {α β:Type}{F G:α->β->Prop}:∀ {l₁:List α}{l₂:List β},Paired F l₁ l₂->(∀ a b,F a b->G a b)->Paired G l₁ l₂
 | _,_,.nil,_=>.nil
 | _,_,.cons r t,f=>.cons (f _ _ r) (Paired.mapP t f)
theorem Bt.stay (x:Bt P w H h a o) (k:∀ b u,(b=a∨H b=some (.own a))->h.get? b=some u->h'.get? b=some u)
  (ho:∀ b,H b=some (.own a)->H' b=some (.own a)) (ht:∀ b xs,H b=some (.tup xs)->H' b=some (.tup xs)):Bt P w H' h' a o:=by
 induction o with
 | lst xs=>obtain⟨z,its,n,r,e⟩:=x;exact⟨z,its,n,r,k _ _ (.inl rfl) e⟩
 | tup xs=>obtain⟨z,its,r,ob,e,c⟩:=x;exact⟨z,its,r,ob,k _ _ (.inl rfl) e,c⟩
 | dK kvs=>obtain⟨z,y,vs,r,ob,es,ep,e,c⟩:=x;exact⟨z,y,vs,r,ob,es,ep,k _ _ (.inl rfl) e,c⟩
 | dT kvs=>
  obtain⟨z,y,xs,r,ob,es,ep,e,c⟩:=x;exact⟨z,y,xs,Paired.mapP r λ p q z=>⟨z.1,ht _ _ z.2.1,z.2.2⟩,ob,es,ep,k _ _ (.inl rfl) e,c⟩
 | set S n=>obtain⟨ob,es,ep,t,e,c⟩:=x;exact⟨ob,es,ep,t,k _ _ (.inl rfl) e,c⟩
 | ins C dx fs=>
  obtain⟨d,z,ne,e,mA,⟨od,es,ep,e2,c⟩,r⟩:=x;exact⟨ho _ d,z,ne,k _ _ (.inl rfl) e,mA,⟨od,es,ep,k _ _ (.inr d) e2,c⟩,r⟩
 | own y=>obtain⟨ob,e⟩:=x;exact⟨ob,k _ _ (.inl rfl) e⟩
 | xd fs=>obtain⟨mA,⟨od,es,ep,e,c⟩,r⟩:=x;exact⟨mA,⟨od,es,ep,k _ _ (.inl rfl) e,c⟩,r⟩
 | rng lo hi=>obtain⟨t,u,v,e⟩:=x;exact⟨t,u,v,k _ _ (.inl rfl) e⟩
 | frz ob u ih=>obtain⟨e,q⟩:=x;exact⟨k _ _ (.inl rfl) e,ih q⟩
 | tbl ps=>
  have e:h.get? a=some { cls:=.none,data:=.fields ps }:=x;show h'.get? a=some { cls:=.none,data:=.fields ps };exact k a _ (.inl rfl) e
 | met f y=>
  have e:h.get? a=some (PySem.W.methodObj (.ref f) (.ref y)):=x;show h'.get? a=some (PySem.W.methodObj (.ref f) (.ref y));exact k a _ (.inl rfl) e
 | ext φ=>obtain⟨p,⟨o,e⟩,st⟩:=x;exact⟨st _ _ p λ o q=>k _ _ (.inl rfl) q,⟨o,k _ _ (.inl rfl) e⟩,st⟩
theorem HOk.lt (x:HOk P w H h) (e:H a=some o):a<h.objs.size:=(x a o e).lt
theorem HOk.fresh (x:HOk P w H h) (e:h.objs.size<=a):H a=none:=by
 cases q:H a with
 | none=>rfl
 | some u=>exact absurd (z0m (x.lt q) e) (z1s _)
theorem HOk.kept (x:HOk P w H h) (k:∀ b u,h.get? b=some u->h'.get? b=some u):HOk P w H h':=λ a o e=>
 (x a o e).stay (λ b u _ q=>k b u q) (λ _ q=>q) λ _ _ q=>q
theorem HOk.laid (x:HOk P w H h) (k:∀ b u,h.get? b=some u->h'.get? b=some u) (hp:h.objs.size<=a) (new:Bt P w (upd H a o) h' a o):HOk P w (upd H a o) h':=λ b u e=>by
 have hn:=x.fresh hp
 by_cases hb:b=a
 ·subst hb;rw[Ai] at e;cases e;exact new
 ·rw[Al hb] at e;exact (x b u e).stay (λ c v _ q=>k c v q) (λ c q=>by rw[Al (Aw q hn)];exact q) λ c xs q=>by rw[Al (Aw q hn)];exact q
end
def Rd (H:Hp) (a:Addr) (u:HO):Prop:=H a=some u∨∃ o,H a=some (.frz o u)
theorem Rd.of {H:Hp}{u:HO}(h:H a=some u):Rd H a u:=.inl h
theorem Rd.ok {H:Hp}{u:HO}(r:Rd H a u) (x:HOk P w H h):Bt P w H h a u:=by
 rcases r with r | ⟨o,r⟩
 ·exact x a u r
 ·obtain⟨_,q⟩:=x a _ r;exact q
def Mut:Option HO->Prop
 | some (.lst _)=>True
 | some (.dK _)=>True
 | some (.dT _)=>True
 | some (.set _ _)=>True
 | some (.ins _ _ _)=>True
 | some (.ext _)=>True
 | _=>False
section
variable {H:Hp}{x e:Addr}{o':HO}
theorem HOk.write (ok:HOk P w H h) (mu:Mut (H x)) (he:e=x∨H e=some (.own x)) (k:∀ b u,b≠e->h.get? b=some u->h'.get? b=some u) (heo:∃ u,h'.get? e=some u)
  (new:Bt P w (upd H x o') h' x o'):HOk P w (upd H x o') h':=λ b u q=>by
 have nown:∀ c y,H c=some (.own y)->c≠x:=λ c y r z=>by subst z;rw[r] at mu;exact mu
 have ntup:∀ c xs,H c=some (.tup xs)->c≠x:=λ c xs r z=>by subst z;rw[r] at mu;exact mu
 by_cases hb:b=x
 ·subst hb;rw[Ai] at q;cases q;exact new
 ·rw[Al hb] at q
  by_cases hbe:b=e
  ·have q':H b=some (.own x):=by
    rcases he with z | z
    ·exact absurd (hbe.trans z) hb
    ·rw[hbe];exact z
   rw[q] at q';cases q';obtain⟨v,hv⟩:=heo;exact⟨v,by rw[hbe];exact hv⟩
  ·refine (ok b u q).stay (λ c v hc r=>k c v ?_ r) (λ c r=>by rw[Al (nown c b r)];exact r) λ c xs r=>by rw[Al (ntup c xs r)];exact r
   rcases hc with rfl | hc
   ·exact hbe
   ·rintro rfl
    rcases he with z | z
    ·exact nown c b hc z
    ·rw[hc] at z;cases z;exact hb rfl
end
structure Un (fs ex:List Addr) (H H':Hp) (h h':Heap):Prop where
 keep:∀ b o,h.get? b=some o->H b=none->b∉fs->b∉ex->h'.get? b=some o
 slot:∀ b o,h.get? b=some o->H b=none->b∈fs->b∉ex->∃ sl,h'.get? b=some { o with slots:=sl }
 free:∀ b o,h.get? b=some o->H b=none->b∉ex->H' b=none
 there:∀ b o,h.get? b=some o->b∉ex->∃ o',h'.get? b=some o'
 tups:∀ b xs,H b=some (.tup xs)->H' b=some (.tup xs)
 frzs:∀ b o u,H b=some (.frz o u)->H' b=some (.frz o u)
 tbls:∀ b ps,H b=some (.tbl ps)->∃ more,H' b=some (.tbl (ps++more))
section
variable {fs fs' ex ex':List Addr}{H H1 H2:Hp}{h1 h2:Heap}{x e:Addr}{o:HO}
theorem Un.any (u:Un fs ex H H1 h h1) {b:Addr}{ob:Obj}(q:h.get? b=some ob) (n:H b=none) (hx:b∉ex):∃ sl,h1.get? b=some { ob with slots:=sl }:=by
 by_cases hb:b∈fs
 ·exact u.slot b ob q n hb hx
 ·exact⟨ob.slots,u.keep b ob q n hb hx⟩
theorem Un.kept (k:∀ b u,h.get? b=some u->h'.get? b=some u):Un fs ex H H h h':=
 ⟨λ b ob q _ _ _=>k b ob q,λ b ob q _ _ _=>⟨ob.slots,k b ob q⟩,λ _ _ _ n _=>n,λ b ob q _=>⟨ob,k b ob q⟩,λ _ _ q=>q,λ _ _ _ q=>q,λ _ ps q=>⟨#[],by rw[q];simp⟩⟩
theorem Un.refl:Un fs ex H H h h:=Un.kept λ _ _ q=>q
theorem Un.laid (k:∀ b u,h.get? b=some u->h'.get? b=some u) (hp:h.objs.size<=a) (hn:H a=none):Un fs ex H (upd H a o) h h' where
 keep:=λ b u q _ _ _=>k b u q
 slot:=λ b u q _ _ _=>⟨u.slots,k b u q⟩
 free:=λ b u q n _=>by rw[Al (z08 (z0m (z06 q) hp))];exact n
 there:=λ b u q _=>⟨u,k b u q⟩
 tups:=λ b xs q=>by rw[Al (Aw q hn)];exact q
 frzs:=λ b u xs q=>by rw[Al (Aw q hn)];exact q
 tbls:=λ b ps q=>⟨#[],by rw[Al (Aw q hn),q];simp⟩
theorem Un.write (mu:Mut (H x)) (he:e=x∨H e=some (.own x)) (k:∀ b u,b≠e->h.get? b=some u->h'.get? b=some u) (heo:∃ u,h'.get? e=some u):Un fs ex H (upd H x o) h h':=by
 have hx:∀ b,H b=none->b≠x:=λ b n z=>by subst z;rw[n] at mu;exact mu
 have hb:∀ b,H b=none->b≠e:=λ b n z=>by
  subst z
  rcases he with r | r
  ·exact hx b n r
  ·rw[n] at r;cases r
 have hm:∀ b u,H b=some u->¬ Mut (some u)->b≠x:=λ b u q nm z=>by subst z;rw[q] at mu;exact nm mu
 refine⟨λ b u q n _ _=>k b u (hb b n) q,λ b u q n _ _=>⟨u.slots,k b u (hb b n) q⟩,λ b u q n _=>by rw[Al (hx b n)];exact n,λ b u q _=>?_,
  λ b xs q=>by rw[Al (hm b _ q λ z=>z)];exact q,λ b u xs q=>by rw[Al (hm b _ q λ z=>z)];exact q,λ b ps q=>⟨#[],by rw[Al (hm b _ q λ z=>z),q];simp⟩⟩
 by_cases hbe:b=e
 ·subst hbe;exact heo
 ·exact⟨u,k b u hbe q⟩
end
def trk (h:Heap) (H:Hp):List Addr:=(List.range h.objs.size).filter λ a=>(H a).isSome
def hidT (h:Heap) (H:Hp):Heap:=PySem.W.hideAll h (trk h H)
theorem dM (h:Heap) (H:Hp):(hidT h H).objs.size=h.objs.size:=PySem.W.hideAll_size _ _
theorem fu {H:Hp}{o:Obj}(e:h.get? b=some o) (n:H b=none):(hidT h H).get? b=some o:=
 PySem.W.hideAll_get _ e λ hm=>by
  have q:(H b).isSome=true:=(z0K.mp hm).2;rw[n] at q;simp at q
theorem nC {H:Hp}{o:Obj}(e:(hidT h H).get? b=some o):h.get? b=some o/\H b=none:=by
 have e':h.get? b=some o:=PySem.W.of_hideAll (trk h H) e;refine⟨e',?_⟩;cases q:H b with
 | none=>rfl
 | some x=>
  have hm:b∈trk h H:=z0K.mpr ⟨z0B.mpr (z06 e'),by simp[q]⟩;have z:(hidT h H).get? b=none:=PySem.W.hideAll_none (trk h H) hm;rw[z] at e;cases e
def nF (g h:Heap) (L:Addr):List (Addr×Obj):=(List.range h.objs.size).filterMap λ a=>if a=L∨(g.get? a).isSome=true then none else (h.get? a).map λ o=>(a,o)
def rest (g h:Heap) (L d:Addr):List (Addr×Obj):=(nF g h L).filter λ p=>decide (p.1≠d)
structure Mod (K:zFr) (mg:Str->Option Value) (base:Heap):Prop where
 kin:K.In base
 glob:base.Ns mainGlobals mg
 blt:∃ mb,base.Ns builtinsNs mb/\∀ x:Str,x≠"__name__"->mb x=bootBuiltins x
 nolimit:base.NoLimit
set_option genInjectivity true in
structure Cx where
 prog:Program
 w:World
 K:PySem.W.Frag
 mg:Str->Option Value
 base:Heap
 A:Around
 N:List Str
 s₀:Shared
 H₀:Hp
 env:Env
 outer:List Env
 stack:List Env
 ex:List Addr
 fn:Str->Bool
 calm:Bool
 pn:List (Addr×Obj)
 xe:Value->Shared->Prop
def frs (l:List Env):List Addr:=l.filterMap (·.frame)
abbrev Cx.fs (X:Cx):List Addr:=frs X.outer
def Vis (sc:Scope) (x:Str):Prop:=sc.names.lookup x=some .local ∨sc.names.lookup x=some .cell ∨sc.names.lookup x=some .free
def Loc (sc:Scope) (x:Str):Prop:=sc.names.lookup x=some .local ∨sc.names.lookup x=some .cell
def Look (env:Env) (h:Heap) (m:Str->Option Value) (x:Str) (u:Value):Prop:=
 (env.kindOf x=some .local /\m x=some u)∨((env.kindOf x=some .cell ∨env.kindOf x=some .free)/\∃ c,env.cells.lookup x=some c/\h.IsCell c (some u))
structure Cx.Ok (X:Cx):Prop where
 mod:Mod X.K X.mg X.base
 kind:X.env.scope.kind=.function
 glob:X.env.globals=mainGlobals
 blt:X.env.builtins=builtinsNs
 above:X.s₀.heap.objs.size<=X.env.locals
 inj:∀ x y c,X.env.cells.lookup x=some c->X.env.cells.lookup y=some c->x=y
 has:∀ x,(X.env.kindOf x=some .cell ∨X.env.kindOf x=some .free)->∃ c,X.env.cells.lookup x=some c
 cab:∀ x c,X.fn x=true->X.env.cells.lookup x=some c->X.s₀.heap.objs.size<=c
 hd:X.calm=true->X.A.handled=none
 frames:X.A.frames=some X.stack
 stk:X.stack=X.outer∨(X.stack=X.env::X.outer/\X.env.frame=some X.env.locals)
 exf:∀ b∈X.ex,b≠X.env.locals/\∀ x c,X.env.cells.lookup x=some c->c≠b
 bs:∀ b o,X.base.get? b=some o->X.s₀.heap.get? b=some o/\X.H₀ b=none
 bsz:X.base.objs.size<=X.s₀.heap.objs.size
 noex:∀ b o,X.base.get? b=some o->b∉X.ex
 exfs:∀ b∈X.ex,b∉X.fs
 funs:X.s₀.heap.FunFrames X.base X.outer
 frf:∀ b∈X.fs,X.H₀ b=none
structure Inv (X:Cx) (π:zP) (σ:List (Option V)) (H:Hp) (s:Shared):Prop where
 ok:X.Ok
 os:s.os=X.s₀.os
 bare:AllBare s.gens
 base:Un X.fs X.ex X.H₀ H X.s₀.heap s.heap
 loc:∃ m,s.heap.Ns X.env.locals m/\∀ (i:Nat) (x:Str) (v:V),X.N[i]?=some x->σ[i]?=some (some v)->Vis X.env.scope x->∃ u,RelV v u/\Look X.env s.heap m x u
 cell:∀ x c,X.env.cells.lookup x=some c->∃ v,s.heap.IsCell c v
 free:H X.env.locals=none
 freeC:∀ x c,X.env.cells.lookup x=some c->H c=none
 pin:∀ p∈X.pn++π,s.heap.get? p.1=some p.2/\H p.1=none/\p.1≠X.env.locals/\p.1∉X.fs/\∀ v,p.2.data≠.cell v
 hok:HOk X.prog X.w H s.heap
 len:σ.length=X.N.length
section
variable {X:Cx}{σ:List (Option V)}{H H':Hp}
theorem Cx.Ok.nofr (ok:X.Ok) {b:Addr}{o:Obj}(e:X.base.get? b=some o):b∉X.fs:=λ hb=>by
 have:=(ok.funs.mem hb).1;rw[e] at this;cases this
theorem Inv.bs (I:Inv X π σ H s):∀ b o,X.base.get? b=some o->s.heap.get? b=some o/\H b=none:=λ b o e=>
 ⟨I.base.keep b o (I.ok.bs b o e).1 (I.ok.bs b o e).2 (I.ok.nofr e) (I.ok.noex b o e),I.base.free b o (I.ok.bs b o e).1 (I.ok.bs b o e).2 (I.ok.noex b o e)⟩
theorem Inv.bk (I:Inv X π σ H s):∀ b o,X.base.get? b=some o->s.heap.get? b=some o:=λ b o e=>(I.bs b o e).1
theorem Inv.mod (I:Inv X π σ H s):Mod X.K X.mg X.base:=I.ok.mod
theorem Inv.kIn (I:Inv X π σ H s):X.K.In s.heap:=I.ok.mod.kin.keeps I.bk
theorem Inv.lt (I:Inv X π σ H s):X.env.locals<s.heap.objs.size:=let ⟨_,hn,_⟩:=I.loc;hn.lt
theorem Inv.sz (I:Inv X π σ H s):X.s₀.heap.objs.size<=s.heap.objs.size:=z0a I.ok.above (Nat.le_of_lt I.lt)
theorem Inv.nofs (I:Inv X π σ H s) {a:Addr}(h:s.heap.objs.size<=a):a∉X.fs:=λ hb=>by
 obtain⟨_,o,ho,_⟩:=I.ok.funs.mem hb;exact absurd (z0m (z06 ho) (z0a I.sz h)) (z1s _)
theorem Inv.cne (I:Inv X π σ H s):∀ x c,X.env.cells.lookup x=some c->c≠X.env.locals:=λ x c e z=>by
 obtain⟨v,o,ho,hd⟩:=I.cell x c e;obtain⟨m,⟨o',es,ep,ho',hd',_⟩,_⟩:=I.loc;rw[z,ho'] at ho;cases ho;rw[hd'] at hd;cases hd
theorem Inv.funs (I:Inv X π σ H s):s.heap.FunFrames X.base X.outer:=by
 have all:∀ (l:List Env),(∀ b∈frs l,b∈X.fs)->X.s₀.heap.FunFrames X.base l->s.heap.FunFrames X.base l:=by
  intro l
  induction l with
  | nil=>intro _ _;trivial
  | cons env r ih=>
   intro hs hl;obtain⟨hk,⟨L,o,hf,hn,ho,hd⟩,hr⟩:=hl;have hL:L∈X.fs:=hs L (by delta frs;rw[List.filterMap_cons,hf];exact z0i);obtain⟨sl,e⟩:=I.base.slot L o ho (I.ok.frf L hL) hL λ z=>I.ok.exfs L z hL;exact⟨hk,⟨L,_,hf,hn,e,hd⟩,ih (λ b hb=>hs b (by delta frs;rw[List.filterMap_cons,hf];exact z0b _ hb)) hr⟩
 exact all X.outer (λ _ hb=>hb) I.ok.funs
theorem Inv.stack (I:Inv X π σ H s):s.heap.FunFrames X.base X.stack:=by
 rcases I.ok.stk with e | ⟨e,hf⟩
 ·rw[e];exact I.funs
 ·rw[e];obtain⟨m,hn,_⟩:=I.loc;refine .cons (by rw[I.ok.kind];decide) hf hn ?_ I.funs;exact Heap.get?_none_of_le (z0a I.ok.bsz I.ok.above)
theorem Inv.stkSub (I:Inv X π σ H s):∀ b∈frs X.stack,b∈X.env.locals::X.fs:=λ b hb=>by
 rcases I.ok.stk with e | ⟨e,hf⟩
 ·rw[e] at hb;exact z0b _ hb
 ·rw[e] at hb;unfold frs at hb;rw[List.filterMap_cons,hf] at hb;exact hb
theorem Inv.stkFree (I:Inv X π σ H s):∀ b∈frs X.stack,H b=none:=λ b hb=>by
 rcases z0d.mp (I.stkSub b hb) with e | hb
 ·rw[e];exact I.free
 ·obtain⟨_,o,ho,_⟩:=I.ok.funs.mem hb;exact I.base.free b o ho (I.ok.frf b hb) λ z=>I.ok.exfs b z hb
theorem Inv.step {g':Array GenState}{d':Drawn}(I:Inv X π σ H s)
  (hch:∀ b∈ch,(b∈X.ex∨X.s₀.heap.objs.size<=b)/\b≠X.env.locals/\(∀ x c,X.env.cells.lookup x=some c->c≠b)/\∀ p∈X.pn++π,p.1≠b)
  (keep:∀ b o,b≠X.env.locals->b∉X.fs->b∉ch->s.heap.get? b=some o->H b=none->h'.get? b=some o)
  (slot:∀ b o,b≠X.env.locals->b∈X.fs->b∉ch->s.heap.get? b=some o->H b=none->∃ sl,h'.get? b=some { o with slots:=sl }) (free:∀ b o,b∉ch->s.heap.get? b=some o->H b=none->H' b=none)
  (there:∀ b o,b∉ch->s.heap.get? b=some o->∃ o',h'.get? b=some o')
  (tups:∀ b xs,H b=some (.tup xs)->H' b=some (.tup xs)) (frzs:∀ b o u,H b=some (.frz o u)->H' b=some (.frz o u)) (tbls:∀ b ps,H b=some (.tbl ps)->∃ more,H' b=some (.tbl (ps++more)))
  (ns:∀ m,s.heap.Ns X.env.locals m->h'.Ns X.env.locals m) (hok:HOk X.prog X.w H' h') (hg:AllBare g') :
  Inv X π σ H' { s with heap:=h',gens:=g',drawn:=d',toks:=t' }:=by
 have neL:∀ b o,X.s₀.heap.get? b=some o->b≠X.env.locals:=λ b o e=>z08 (z0m (z06 e) I.ok.above);have neC:∀ b o,X.s₀.heap.get? b=some o->b∉X.ex->b∉ch:=λ b o e hx hb=>by
  rcases (hch b hb).1 with z | z
  ·exact hx z
  ·exact absurd (z0m (z06 e) z) (z1s _)
 have cellK:∀ x c,X.env.cells.lookup x=some c->∀ v,s.heap.IsCell c v->h'.IsCell c v:=by
  rintro x c e v ⟨o,ho,hd⟩
  have nch:c∉ch:=λ z=>(hch c z).2.2.1 x c e rfl
  by_cases hc:c∈X.fs
  ·obtain⟨sl,q⟩:=slot c o (I.cne x c e) hc nch ho (I.freeC x c e);exact⟨_,q,hd⟩
  ·exact⟨o,keep c o (I.cne x c e) hc nch ho (I.freeC x c e),hd⟩
 refine⟨I.ok,I.os,hg,⟨λ b o e n hb hx=>?_,λ b o e n hb hx=>?_,λ b o e n hx=>?_,λ b o e hx=>?_,λ b xs e=>tups b xs (I.base.tups b xs e),λ b o xs e=>frzs b o xs (I.base.frzs b o xs e),λ b ps e=>?_⟩,?_,λ x c e=>?_,?_,λ x c e=>?_,λ p hp=>?_,hok,I.len⟩
 ·exact keep b o (neL b o e) hb (neC b o e hx) (I.base.keep b o e n hb hx) (I.base.free b o e n hx)
 ·obtain⟨sl,e1⟩:=I.base.slot b o e n hb hx;obtain⟨sl',e2⟩:=slot b _ (neL b o e) hb (neC b o e hx) e1 (I.base.free b o e n hx);exact⟨sl',e2⟩
 ·obtain⟨o',e1⟩:=I.base.there b o e hx;exact free b o' (neC b o e hx) e1 (I.base.free b o e n hx)
 ·obtain⟨o',e1⟩:=I.base.there b o e hx;exact there b o' (neC b o e hx) e1
 ·obtain⟨m1,e1⟩:=I.base.tbls b ps e;obtain⟨m2,e2⟩:=tbls b _ e1;exact⟨m1++m2,by rw[e2,Array.append_assoc]⟩
 ·obtain⟨m,hn,hl⟩:=I.loc;refine⟨m,ns m hn,λ i x v e1 e2 e3=>?_⟩;obtain⟨u,r,l⟩:=hl i x v e1 e2 e3;refine⟨u,r,?_⟩
  rcases l with l | ⟨k,c,e,z⟩
  ·exact .inl l
  ·exact .inr ⟨k,c,e,cellK x c e _ z⟩
 ·obtain⟨v,z⟩:=I.cell x c e;exact⟨v,cellK x c e v z⟩
 ·obtain⟨m,⟨o,_,_,ho,_⟩,_⟩:=I.loc;exact free _ o (λ z=>(hch _ z).2.1 rfl) ho I.free
 ·obtain⟨v,o,ho,hd⟩:=I.cell x c e;exact free c o (λ z=>(hch c z).2.2.1 x c e rfl) ho (I.freeC x c e)
 ·obtain⟨e,n,ne,nf,d⟩:=I.pin p hp;have nch:p.1∉ch:=λ z=>(hch p.1 z).2.2.2 p hp rfl;exact⟨keep p.1 p.2 ne nf nch e n,free p.1 p.2 nch e n,ne,nf,d⟩
theorem Inv.un (I:Inv X π σ H s) (u:Un X.fs [] H H' s.heap h') (hok:HOk X.prog X.w H' h'):Inv X π σ H' { s with heap:=h',toks:=t' }:=by
 obtain⟨m,⟨o,es,ep,ho,r⟩,_⟩:=id I.loc;obtain⟨sl,hL⟩:=u.any ho I.free (by simp);exact I.step (g':=s.gens) (d':=s.drawn) (ch:=[]) (λ _ z=>nomatch z) (λ b o _ hb _ e n=>u.keep b o e n hb (by simp)) (λ b o _ hb _ e n=>u.slot b o e n hb (by simp)) (λ b o _ e n=>u.free b o e n (by simp)) (λ b o _ e=>u.there b o e (by simp)) u.tups u.frzs u.tbls (λ m' hm=>by
  obtain⟨o',es',ep',ho',r'⟩:=hm;rw[ho] at ho';cases ho';exact⟨_,es',ep',hL,r'⟩) hok I.bare
theorem Inv.call {g':Array GenState}{d':Drawn}(I:Inv X π σ H s) (u:Un (frs X.stack) ch H H' s.heap h') (hok:HOk X.prog X.w H' h') (hg:AllBare g')
  (hch:∀ b∈ch,(b∈X.ex∨X.s₀.heap.objs.size<=b)/\b≠X.env.locals/\(∀ x c,X.env.cells.lookup x=some c->c≠b)/\∀ p∈X.pn++π,p.1≠b) :
  Inv X π σ H' { s with heap:=h',gens:=g',drawn:=d',toks:=t' }:=by
 obtain⟨m,⟨o,es,ep,ho,r⟩,_⟩:=id I.loc;obtain⟨sl,hL⟩:=u.any ho I.free λ z=>(hch _ z).2.1 rfl;exact I.step (ch:=ch) hch (λ b o hL hb hc e n=>u.keep b o e n (λ z=>(z0d.mp (I.stkSub b z)).elim hL hb) hc) (λ b o _ _ hc e n=>u.any e n hc) (λ b o hc e n=>u.free b o e n hc) (λ b o hc e=>u.there b o e hc) u.tups u.frzs u.tbls (λ m' hm=>by
  obtain⟨o',es',ep',ho',r'⟩:=hm;rw[ho] at ho';cases ho';exact⟨_,es',ep',hL,r'⟩) hok hg
theorem Inv.turned (I:Inv X π σ H s) (k:∀ b o,b≠it->s.heap.get? b=some o->h'.get? b=some o) (hn:H it=none) (hL:it≠X.env.locals)
  (h1:it∈X.ex∨X.s₀.heap.objs.size<=it) (h2:∀ x c,X.env.cells.lookup x=some c->c≠it) (h3:∀ p∈X.pn++π,p.1≠it):Inv X π σ H { s with heap:=h',toks:=t' }:=by
 have nit:∀ b u,H b=some u->b≠it:=λ b u e z=>by rw[z,hn] at e;cases e
 refine I.step (g':=s.gens) (d':=s.drawn) (ch:=[it]) (λ b hb=>?_) (λ b o _ _ hc e _=>k b o (λ z=>hc (by simp[z])) e) (λ b o _ _ hc e _=>⟨o.slots,k b o (λ z=>hc (by simp[z])) e⟩) (λ _ _ _ _ n=>n)
  (λ b o hc e=>⟨o,k b o (λ z=>hc (by simp[z])) e⟩) (λ _ _ e=>e) (λ _ _ _ e=>e) (λ b ps e=>⟨#[],by rw[e];simp⟩) (λ m hm=>?_) (λ b u e=>?_) I.bare
 ·have e:b=it:=by simpa using hb
  subst e;exact⟨h1,hL,h2,h3⟩
 ·obtain⟨o,es,ep,ho,r⟩:=hm;exact⟨o,es,ep,k _ o (Ne.symm hL) ho,r⟩
 ·refine (I.hok b u e).stay (λ c v hc q=>k c v ?_ q) (λ _ q=>q) λ _ _ q=>q
  rcases hc with z | z
  ·rw[z];exact nit b u e
  ·exact nit c _ z
theorem Inv.tok (I:Inv X π σ H s) (t:Nat):Inv X π σ H { s with toks:=t }:=I.un (h':=s.heap) (t':=t) Un.refl I.hok
theorem Inv.kept {t':Nat}(I:Inv X π σ H s) (k:∀ b u,s.heap.get? b=some u->h'.get? b=some u):Inv X π σ H { s with heap:=h',toks:=t' }:=I.un (Un.kept k) (I.hok.kept k)
theorem Inv.laid {a:Addr}{o:HO}{t':Nat}(I:Inv X π σ H s) (k:∀ b u,s.heap.get? b=some u->h'.get? b=some u) (hp:s.heap.objs.size<=a) (new:Bt X.prog X.w (upd H a o) h' a o) :
  Inv X π σ (upd H a o) { s with heap:=h',toks:=t' }:=I.un (Un.laid k hp (I.hok.fresh hp)) (I.hok.laid k hp new)
theorem Inv.write {x e:Addr}{o:HO}{t':Nat}(I:Inv X π σ H s) (mu:Mut (H x)) (he:e=x∨H e=some (.own x)) (k:∀ b u,b≠e->s.heap.get? b=some u->h'.get? b=some u) (heo:∃ u,h'.get? e=some u)
  (new:Bt X.prog X.w (upd H x o) h' x o):Inv X π σ (upd H x o) { s with heap:=h',toks:=t' }:=I.un (Un.write mu he k heo) (I.hok.write mu he k heo new)
theorem Inv.pins_of (I:Inv X π σ H s) (h:∀ p∈pins',s.heap.get? p.1=some p.2/\H p.1=none/\p.1≠X.env.locals/\p.1∉X.fs/\∀ v,p.2.data≠.cell v):Inv X pins' σ H s:=
 ⟨I.ok,I.os,I.bare,I.base,I.loc,I.cell,I.free,I.freeC,λ p hp=>(z0p.mp hp).elim (λ z=>I.pin p (List.mem_append_left _ z)) (h p),I.hok,I.len⟩
theorem Rk (hN:N.Nodup) {i j:Nat}{x:Str}(a:N[i]?=some x) (b:N[j]?=some x):i=j:=by
 obtain⟨h1,e1⟩:=z0C.mp a;obtain⟨h2,e2⟩:=z0C.mp b;exact (List.getElem_inj hN).mp (e1.trans e2.symm)
theorem Uh {A:Around}{x:Str}{v:V}{Q:Unit->Shared->Prop}(I:Inv X π σ H s) (hN:X.N.Nodup) (hi:X.N[i]?=some x) (hx:Loc X.env.scope x) (r:RelV v u)
  (h:∀ s',Inv X π (σ.set i (some v)) H s'->(∃ a,Heap.SameBut a s.heap s'.heap/\(a=X.env.locals∨X.env.cells.lookup x=some a))->Q () s') (hf:X.fn x=true∨X.env.scope.names.lookup x=some .local :=by first | exact .inl rfl | exact .inr rfl | assumption):wpAny M A (storeName X.env x u) Q E s:=by
 obtain⟨m,hn,hl⟩:=id I.loc;have hcls:(X.env.scope.kind==.class||(X.env.scope.kind==.module&&X.env.locals != X.env.globals))=false:=by rw[I.ok.kind];rfl
 have hiσ:i<σ.length:=by rw[I.len];exact (z0C.mp hi).1
 have cne:=I.cne;have tracked:∀ {a:Addr}{h':Heap},(∃ o,s.heap.get? a=some o/\H a=none)->Heap.SameBut a s.heap h'->HOk X.prog X.w H h':=λ {a h'} ha hs b ob e=>by
  obtain⟨_,_,hfree⟩:=ha;refine (I.hok b ob e).stay (λ c w' hc q=>(hs.2 c ?_).trans q) (λ _ q=>q) λ _ _ q=>q;rintro rfl
  rcases hc with rfl | hc
  ·rw[hfree] at e;cases e
  ·rw[hfree] at hc;cases hc
 rcases hx with hk | hk
 ·refine wpAny_storeName_local hk hn (λ h' hn' hs=>?_) hcls;obtain⟨oL,_,_,hoL,_⟩:=id hn;refine h _ ⟨I.ok,I.os,I.bare,⟨λ b o e n hb hx=>?_,λ b o e n hb hx=>?_,I.base.free,λ b o e hx=>?_,I.base.tups,I.base.frzs,I.base.tbls⟩,⟨_,hn',λ j y v' e1 e2 e3=>?_⟩,λ y c e=>?_,I.free,I.freeC,λ p hp=>?_,tracked ⟨oL,hoL,I.free⟩ hs,by simpa using I.len⟩ ⟨_,hs,.inl rfl⟩
  ·exact (hs.2 b (z08 (z0m (z06 e) I.ok.above))).trans (I.base.keep b o e n hb hx)
  ·obtain⟨sl,e1⟩:=I.base.slot b o e n hb hx;exact⟨sl,(hs.2 b (z08 (z0m (z06 e) I.ok.above))).trans e1⟩
  ·obtain⟨o',e1⟩:=I.base.there b o e hx;exact⟨o',(hs.2 b (z08 (z0m (z06 e) I.ok.above))).trans e1⟩
  ·by_cases hj:j=i
   ·subst hj;rw[hi] at e1;cases e1;rw[z12 hiσ] at e2;cases e2;exact⟨u,r,.inl ⟨hk,by simp⟩⟩
   ·rw[z0v (Ne.symm hj)] at e2;obtain⟨u',r',q⟩:=hl j y v' e1 e2 e3;refine⟨u',r',?_⟩
    rcases q with ⟨k,e⟩ | ⟨k,c,e,z⟩
    ·refine .inl ⟨k,?_⟩;have:y≠x:=λ e=>hj (Rk hN e1 (e▸hi));simp[this,e]
    ·exact .inr ⟨k,c,e,z.sameBut hs (cne y c e)⟩
  ·obtain⟨w',z⟩:=I.cell y c e;exact⟨w',z.sameBut hs (cne y c e)⟩
  ·obtain⟨e,n,ne,nf,d⟩:=I.pin p hp;exact⟨(hs.2 p.1 ne).trans e,n,ne,nf,d⟩
 ·have hfn:X.fn x=true:=by
   rcases hf with z | z
   ·exact z
   ·rw[z] at hk;cases hk
  obtain⟨c,hc⟩:=I.ok.has x (.inl hk);obtain⟨w',z⟩:=I.cell x c hc;refine wpAny_storeName_cell I.ok.kind hk hc z (λ h' hc' hs=>?_);obtain⟨oc,hoc,hocd⟩:=id z;refine h { s with heap:=h' } ⟨I.ok,I.os,I.bare,⟨λ b o e n hb hx=>?_,λ b o e n hb hx=>?_,I.base.free,λ b o e hx=>?_,I.base.tups,I.base.frzs,I.base.tbls⟩,⟨m,hn.sameBut hs (Ne.symm (cne x c hc)),λ j y v' e1 e2 e3=>?_⟩,λ y c' e=>?_,I.free,I.freeC,λ p hp=>?_,tracked ⟨oc,hoc,I.freeC x c hc⟩ hs,by simpa using I.len⟩ ⟨c,hs,.inr hc⟩
  ·exact (hs.2 b (z08 (z0m (z06 e) (I.ok.cab x c hfn hc)))).trans (I.base.keep b o e n hb hx)
  ·obtain⟨sl,e1⟩:=I.base.slot b o e n hb hx;exact⟨sl,(hs.2 b (z08 (z0m (z06 e) (I.ok.cab x c hfn hc)))).trans e1⟩
  ·obtain⟨o',e1⟩:=I.base.there b o e hx;exact⟨o',(hs.2 b (z08 (z0m (z06 e) (I.ok.cab x c hfn hc)))).trans e1⟩
  ·by_cases hj:j=i
   ·subst hj;rw[hi] at e1;cases e1;rw[z12 hiσ] at e2;cases e2;exact⟨u,r,.inr ⟨.inl hk,c,hc,hc'⟩⟩
   ·rw[z0v (Ne.symm hj)] at e2;obtain⟨u',r',q⟩:=hl j y v' e1 e2 e3;refine⟨u',r',?_⟩
    rcases q with q | ⟨k,c',e,z'⟩
    ·exact .inl q
    ·refine .inr ⟨k,c',e,z'.sameBut hs ?_⟩;rintro rfl;exact hj (Rk hN e1 (I.ok.inj _ _ _ e hc▸hi))
  ·by_cases hcc:c'=c
   ·subst hcc;exact⟨_,hc'⟩
   ·obtain⟨w2,z2⟩:=I.cell y c' e;exact⟨w2,z2.sameBut hs hcc⟩
  ·obtain⟨e,n,ne,nf,d⟩:=I.pin p hp;refine⟨(hs.2 p.1 ?_).trans e,n,ne,nf,d⟩;intro q;rw[q,hoc] at e;have q':oc=p.2:=z0h e;exact d w' (by rw[<-q'];exact hocd)
theorem M7 {A:Around}{x:Str}{v:V}{Q:Unit->Shared->Prop}(I:Inv X π σ H s) (hN:X.N.Nodup) (hi:X.N[i]?=some x) (hx:Loc X.env.scope x) (r:RelV v u)
  (h:∀ s',Inv X π (σ.set i (some v)) H s'->Q () s') (hf:X.fn x=true∨X.env.scope.names.lookup x=some .local :=by first | exact .inl rfl | exact .inr rfl | assumption):wpAny M A (storeName X.env x u) Q E s:=
 Uh I hN hi hx r (λ s' I' _=>h s' I') hf
theorem Inv.call' (I:Inv X π σ H s) (ho:s'.os=s.os) (u:Un (frs X.stack) ch H H' s.heap s'.heap) (hok:HOk X.prog X.w H' s'.heap) (hg:AllBare s'.gens)
  (hch:∀ b∈ch,(b∈X.ex∨X.s₀.heap.objs.size<=b)/\b≠X.env.locals/\(∀ x c,X.env.cells.lookup x=some c->c≠b)/\∀ p∈X.pn++π,p.1≠b):Inv X π σ H' s':=by
 obtain⟨h',g',d',t',o'⟩:=s';have e:o'=s.os:=ho;subst e;exact I.call (g':=g') (t':=t') (d':=d') u hok hg hch
end
abbrev XK:=Value->Option Addr->Hp->Prop
abbrev St:=List (Option V)
abbrev VK:=V->Hp->Prop
abbrev TE:=St->Hp->VK->Prop
abbrev TT:=St->Hp->(Bool->Hp->Prop)->Prop
abbrev TA:=St->Hp->(List V->Hp->Prop)->Prop
structure Ends where
 nx:St->Hp->Prop
 rt:VK
 bk:St->Hp->Prop:=λ _ _=>False
 ct:St->Hp->Prop:=λ _ _=>False
abbrev TS:=Ends->St->Hp->Prop
def EP (X:Cx) (π:zP) (σ:St) (Q:VK) (u:Value) (s':Shared):Prop:=∃ v H',Inv X π σ H' s'/\RelV v u/\Q v H'
def TP (X:Cx) (π:zP) (σ:St) (Q:Bool->Hp->Prop) (b:Bool) (s':Shared):Prop:=∃ H',Inv X π σ H' s'/\Q b H'
def AP (X:Cx) (π:zP) (σ:St) (Q:List V->Hp->Prop) (us:List Value) (s':Shared):Prop:=∃ vs H',Inv X π σ H' s'/\Vals vs us/\Q vs H'
def SP (X:Cx) (π:zP) (D:Ends) (f:Flow) (s':Shared):Prop:=
 match f with
 | .next=>∃ σ' H',Inv X π σ' H' s'/\D.nx σ' H'
 | .brk=>∃ σ' H',Inv X π σ' H' s'/\D.bk σ' H'
 | .cont=>∃ σ' H',Inv X π σ' H' s'/\D.ct σ' H'
 | .ret u=>∃ v σ' H',Inv X π σ' H' s'/\RelV v u/\D.rt v H'
def PE (X:Cx) (e:Expr) (t:TE):Prop:=
 ∀ (π:zP) (s:Shared) (σ:St) (H:Hp) (Q:VK),Inv X π σ H s->t σ H Q->wpAny (model X.prog X.w) X.A (eval e X.env) (EP X π σ Q) X.xe s
def PT (X:Cx) (e:Expr) (t:TT):Prop:=
 ∀ (π:zP) (s:Shared) (σ:St) (H:Hp) (Q:Bool->Hp->Prop),Inv X π σ H s->t σ H Q->wpAny (model X.prog X.w) X.A (isTrue e X.env (eval e X.env)) (TP X π σ Q) X.xe s
def PW (X:Cx) (e:Expr) (t:TT):Prop:=
 ∀ (whole:Sem Value) (π:zP) (s:Shared) (σ:St) (H:Hp) (Q:Bool->Hp->Prop),Inv X π σ H s->t σ H Q->wpAny (model X.prog X.w) X.A (isTrue e X.env whole) (TP X π σ Q) X.xe s
theorem PW.pt {X:Cx}{t:TT}(h:PW X e t):PT X e t:=h _
def PA (X:Cx) (es:List Expr) (t:TA):Prop:=
 ∀ (pos:Pos) (π:zP) (s:Shared) (σ:St) (H:Hp) (Q:List V->Hp->Prop),Inv X π σ H s->t σ H Q->wpAny (model X.prog X.w) X.A (spliced (backTo pos (starEach es X.env))) (AP X π σ Q) X.xe s
def PS (X:Cx) (st:Stmt) (t:TS):Prop:=
 ∀ (π:zP) (s:Shared) (σ:St) (H:Hp) (D:Ends),Inv X π σ H s->t D σ H->wpAny (model X.prog X.w) X.A (exec st X.env) (SP X π D) X.xe s
def PSs (X:Cx) (st:List Stmt) (t:TS):Prop:=
 ∀ (π:zP) (s:Shared) (σ:St) (H:Hp) (D:Ends),Inv X π σ H s->t D σ H->wpAny (model X.prog X.w) X.A (execs st X.env) (SP X π D) X.xe s
theorem thn {α:Type}{t:Sem α}{Q Q':α->Shared->Prop}{A:Around}(h:wpAny M A t Q E s) (hQ:∀ a s,Q a s->Q' a s):wpAny M A t Q' E s:=z0D h hQ λ _ _ x=>x
section
variable {X:Cx}
def tVar (i:Nat):TE:=λ σ H Q=>∃ v,σ[i]?=some (some v)/\Q v H
def tC (v:V):TE:=λ _ H Q=>Q v H
theorem tV {x:Str}(hN:X.N[i]?=some x) (hv:Vis X.env.scope x) (hd:(x==("__debug__":Str))=false:=by decide) (hcd:(x==("__classdict__":Str))=false:=by decide):PE X (.Name x pos) (tVar i):=by
 intro π s σ H Q I h;obtain⟨v,e,h⟩:=h;obtain⟨m,hn,hl⟩:=I.loc;obtain⟨u,r,l⟩:=hl i x v hN e hv;have fin:EP X π σ Q u s:=⟨v,H,I,r,h⟩
 rcases l with ⟨hk,hm⟩ | ⟨hk,c,hc,hcell⟩
 ·exact wpAny_Name (wpAny_loadName_local I.ok.kind hk hn hm fin) hd
 ·rcases hk with hk | hk
  ·exact wpAny_Name (wpAny_loadName_cell I.ok.kind hk hc hcell fin) hd
  ·exact wpAny_Name (wpAny_loadName_free I.ok.kind hk hc hcell fin hcd) hd
theorem tW {i j pos}:PE X (.Constant (.int i) j pos) (tC (.int i)):=λ _ _ _ H _ I h=>wpAny_Constant_int ⟨.int i,H,I.tok _,⟨_,rfl⟩,h⟩
theorem v8 {b j pos}:PE X (.Constant (.bool b) j pos) (tC (.bl b)):=λ _ _ _ H _ I h=>Constant_bool ⟨.bl b,H,I,rfl,h⟩
theorem tY {j pos}:PE X (.Constant .none j pos) (tC .non):=λ _ _ _ H _ I h=>Constant_none ⟨.non,H,I,rfl,h⟩
theorem tZ {x j pos}:PE X (.Constant (.str x) j pos) (tC (.str x)):=λ _ _ _ H _ I h=>Calls.Constant_str ⟨.str x,H,I.tok _,⟨_,rfl⟩,h⟩
def Gl (X:Cx) (x:Str):Prop:=X.env.kindOf x=some .globalImplicit
theorem GF {σ:St}{H:Hp}{x:Str}(I:Inv X π σ H s) (hg:Gl X x) (hm:X.mg x=some u) (h:Q u s)
  (hd:(x==("__debug__":Str))=false:=by decide):wpAny (model X.prog X.w) X.A (eval (.Name x pos) X.env) Q E s:=
 Calls.Name_function_global I.ok.kind hg (Calls.loadGlobal_global (by rw[I.ok.glob];exact I.mod.glob.keeps I.bk) hm h) hd
theorem Vd {σ:St}{H:Hp}{x:Str}(I:Inv X π σ H s) (hg:Gl X x) (hm:X.mg x=none) (hv:bootBuiltins x=some u) (h:Q u s)
  (hn:x≠"__name__":=by decide) (hd:(x==("__debug__":Str))=false:=by decide):wpAny (model X.prog X.w) X.A (eval (.Name x pos) X.env) Q E s:=by
 obtain⟨mb,h1,h2⟩:=I.mod.blt;exact Calls.Name_function_global I.ok.kind hg (Calls.loadGlobal_builtin (by rw[I.ok.glob];exact I.mod.glob.keeps I.bk) hm (by rw[I.ok.blt];exact h1.keeps I.bk) ((h2 x hn).trans hv) h) hd
theorem EY {x:Str}{v:V}(hg:Gl X x) (hm:X.mg x=some u) (r:RelV v u) (hd:(x==("__debug__":Str))=false:=by decide):PE X (.Name x pos) (tC v):=
 λ _ _ _ H _ I h=>GF I hg hm ⟨v,H,I,r,h⟩ hd
theorem Z5 {x:Str}{v:V}(hg:Gl X x) (hm:X.mg x=none) (hv:bootBuiltins x=some u) (r:RelV v u) (hn:x≠"__name__":=by decide) (hd:(x==("__debug__":Str))=false:=by decide):PE X (.Name x pos) (tC v):=
 λ _ _ _ H _ I h=>Vd I hg hm hv ⟨v,H,I,r,h⟩ hn hd
def t2I (ta tb:TE) (k:Int->Int->Hp->Prop):St->Hp->Prop:=λ σ H=>ta σ H λ x H1=>tb σ H1 λ y H2=>∃ i j,x=.int i/\y=.int j/\k i j H2
variable {a b:Expr}{ta tb:TE}
def PC (X:Cx) (op:CmpOp) (a b:Expr) (t:TE):Prop:=
 ∀ (π:zP) (s:Shared) (σ:St) (H:Hp) (Q:VK),Inv X π σ H s->t σ H Q ->
  wpAny (model X.prog X.w) X.A (eval a X.env) (λ v s₁=>wpAny (model X.prog X.w) X.A (eval b X.env) (λ u s₂=>wpAny (model X.prog X.w) X.A (compareOp op v u) (EP X π σ Q) X.xe s₂) X.xe s₁) X.xe s
theorem XJ (b:Expr) {op:CmpOp}(h:op≠.In) (h2:op≠.NotIn):behindInMarks op b=false:=by
 have e1:(op==CmpOp.In)=false:=by cases op<;>first | rfl | exact absurd rfl h
 have e2:(op==CmpOp.NotIn)=false:=by cases op<;>first | rfl | exact absurd rfl h2
 cases b<;>simp[behindInMarks,e1,e2]
def tCmp (p:Int->Int->Bool) (ta tb:TE):TE:=λ σ H Q=>t2I ta tb (λ i j H2=>Q (.bl (p i j)) H2) σ H
abbrev tLt:TE->TE->TE:=tCmp λ i j=>decide (i<j)
abbrev tGt:TE->TE->TE:=tCmp λ i j=>decide (j<i)
abbrev tGe:TE->TE->TE:=tCmp λ i j=>decide (j<=i)
def tIsN (ta:TE):TE:=λ σ H Q=>ta σ H λ x H1=>Q (.bl (decide (x=.non))) H1
theorem RelV.none_iff {x:V}{v:Value}(r:RelV x v):(v==Value.none)=decide (x=.non):=by
 cases x with
 | non=>cases r;rfl
 | bl _=>cases r;rfl
 | int _=>obtain⟨t,rfl⟩:=r;rfl
 | str _=>obtain⟨t,rfl⟩:=r;rfl
 | byt _=>obtain⟨t,rfl⟩:=r;rfl
 | flt _=>obtain⟨t,rfl⟩:=r;rfl
 | ref _=>cases r;rfl
 | ty _=>cases r;rfl
theorem gA {j pos'} (ha:PE X a ta):PC X .Is a (.Constant .none j pos') (tIsN ta):=by
 intro π s σ H Q I h;refine thn (ha π s σ H _ I h) λ v s1 ⟨x,H1,I1,r1,q1⟩=>?_;exact Constant_none (is_none_gen ⟨.bl _,H1,I1,by rw[r1.none_iff];rfl,q1⟩)
def tB (t:TE):TT:=λ σ H Q=>t σ H λ x H1=>∃ c,x=.bl c/\Q c H1
theorem tu {op:CmpOp}{t:TE}(h:PC X op a b t) (h1:behindInMarks op b=false:=by first | exact XJ _ (by decide) (by decide) | rfl):PE X (.Compare a [op] [b] pos) t:=λ π s σ H Q I hw=>wpAny_Compare1 (h π s σ H Q I hw) h1
theorem t6 {op:CmpOp}{t:TE}(h:PC X op a b t) (h1:behindInMarks op b=false:=by first | exact XJ _ (by decide) (by decide) | rfl):PT X (.Compare a [op] [b] pos) (tB t):=by
 intro π s σ H Q I hw;refine wpAny_isTrue_Compare1 (thn (h π s σ H _ I hw) λ v s1 h1=>thn h1 λ u s2 h2=>thn h2 λ c s3 ⟨x,H1,I1,r1,q1⟩=>?_) h1;obtain⟨d,rfl,q⟩:=q1;cases r1;exact z1K ⟨H1,I1,q⟩
variable {tA tB':TT}{rest:List Expr}
def tAnd (t u:TT):TT:=λ σ H Q=>t σ H λ c H1=>if c=true then u σ H1 Q else Q false H1
def tOr (t u:TT):TT:=λ σ H Q=>t σ H λ c H1=>if c=true then Q true H1 else u σ H1 Q
def tNot (t:TT):TT:=λ σ H Q=>t σ H λ c H1=>Q (!c) H1
theorem nG (ha:PT X a tA):PW X (.BoolOp .And [a] pos) tA:=by
 intro wh π s σ H Q I h;refine isTrue_and (thn (ha π s σ H Q I h) λ c s1 e=>?_);cases c with
 | true=>exact isTrue_and_nil e
 | false=>exact e
theorem gB (ha:PT X a tA):PW X (.BoolOp .Or [a] pos) tA:=by
 intro wh π s σ H Q I h;refine isTrue_or (thn (ha π s σ H Q I h) λ c s1 e=>?_);cases c with
 | false=>exact isTrue_or_nil e
 | true=>exact e
theorem t8 (ha:PT X a tA) (hb:PW X (.BoolOp .And (b::rest) pos) tB'):PW X (.BoolOp .And (a::b::rest) pos) (tAnd tA tB'):=by
 intro wh π s σ H Q I h;refine isTrue_and (thn (ha π s σ H _ I h) λ c s1 ⟨H1,I1,q1⟩=>?_);cases c with
 | true=>exact hb wh π s1 σ H1 Q I1 q1
 | false=>exact⟨H1,I1,q1⟩
theorem rD (ha:PT X a tA) (hb:PW X (.BoolOp .Or (b::rest) pos) tB'):PW X (.BoolOp .Or (a::b::rest) pos) (tOr tA tB'):=by
 intro wh π s σ H Q I h;refine isTrue_or (thn (ha π s σ H _ I h) λ c s1 ⟨H1,I1,q1⟩=>?_);cases c with
 | true=>exact⟨H1,I1,q1⟩
 | false=>exact hb wh π s1 σ H1 Q I1 q1
theorem t_ (ha:PT X a tA):PT X (.UnaryOp .Not a pos) (tNot tA):=by
 intro π s σ H Q I h;exact isTrue_not (ha π s σ H (λ c H1=>Q (!c) H1) I h)
def v9 (ta tb:TE):TE:=λ σ H Q=>ta σ H λ x H1=>∃ c,x=.bl c/\if c=true then tb σ H1 Q else Q (.bl false) H1
def v_ (ta:TE):TE:=λ σ H Q=>ta σ H λ x H1=>∃ c,x=.bl c/\Q (.bl (!c)) H1
theorem uA {op} {t:TE}(h:PE X a t):PE X (.BoolOp op [a] pos) t:=λ π s σ H Q I hw=>BoolOp_one (h π s σ H Q I hw)
theorem uB (ha:PE X a ta) (hb:PE X (.BoolOp .And (b::rest) pos) tb):PE X (.BoolOp .And (a::b::rest) pos) (v9 ta tb):=by
 intro π s σ H Q I h;refine BoolOp_and (thn (ha π s σ H _ I h) λ v s1 ⟨x,H1,I1,r1,q1⟩=>?_);obtain⟨c,rfl,q1⟩:=q1;cases r1;refine z1K ?_;cases c with
 | true=>exact hb π s1 σ H1 Q I1 q1
 | false=>exact⟨.bl false,H1,I1,rfl,q1⟩
theorem uC (ha:PE X a ta):PE X (.UnaryOp .Not a pos) (v_ ta):=by
 intro π s σ H Q I h;refine UnaryOp_ (thn (ha π s σ H _ I h) λ v s1 ⟨x,H1,I1,r1,q1⟩=>?_);obtain⟨c,rfl,q1⟩:=q1;cases r1;exact not_of (z1K ⟨.bl (!c),H1,I1,rfl,q1⟩)
def tIf (t:TT) (ta tb:TE):TE:=λ σ H Q=>t σ H λ c H1=>if c=true then ta σ H1 Q else tb σ H1 Q
theorem gC {c:Expr}(hc:PT X c tA) (ha:PE X a ta) (hb:PE X b tb):PE X (.IfExp c a b pos) (tIf tA ta tb):=by
 intro π s σ H Q I h;refine wpAny_IfExp (thn (hc π s σ H _ I h) λ d s1 ⟨H1,I1,q1⟩=>?_);cases d with
 | true=>exact ha π s1 σ H1 Q I1 q1
 | false=>exact hb π s1 σ H1 Q I1 q1
end
def SqL (K:zFr) (H:Hp) (a:Addr) (xs:List V):Prop:=
 Rd H a (.lst xs) ∨
  ∃ (o:Obj) (its:Array Value) (n:Nat),K.lookup a=some o/\o.cls=.type "list"/\o.dict=none/\o.data=.seq its n/\its.size<=sizeLine/\Vals xs its.toList
def SqT (K:zFr) (H:Hp) (a:Addr) (xs:List V):Prop:=
 Rd H a (.tup xs) ∨
  ∃ (o:Obj) (its:Array Value) (n:Nat),K.lookup a=some o/\o.cls=.type "tuple"/\o.data=.seq its n/\its.size<=sizeLine/\Vals xs its.toList
def absV:Value->Option V
 | .none=>some .non
 | .bool b=>some (.bl b)
 | .int i _=>some (.int i)
 | .str x _=>some (.str x)
 | .bytes b _=>some (.byt b)
 | .float b _=>some (.flt b)
 | .ref a=>some (.ref a)
 | .type n=>some (.ty n)
 | _=>none
theorem RelV.abs {x:V}(r:RelV x u):absV u=some x:=by
 cases x with
 | non=>cases r;rfl
 | bl _=>cases r;rfl
 | int _=>obtain⟨t,rfl⟩:=r;rfl
 | str _=>obtain⟨t,rfl⟩:=r;rfl
 | byt _=>obtain⟨t,rfl⟩:=r;rfl
 | flt _=>obtain⟨t,rfl⟩:=r;rfl
 | ref _=>cases r;rfl
 | ty _=>cases r;rfl
theorem RelV.inj {x y:V}{u:Value}(r:RelV x u) (q:RelV y u):x=y:=z0h (r.abs.symm.trans q.abs)
theorem Vals.inj:∀ {xs ys:List V}{us:List Value},Vals xs us->Vals ys us->xs=ys
 | _,_,_,.nil,.nil=>rfl
 | _,_,_,.cons r t,.cons r' t'=>by rw[r.inj r',Vals.inj t t']
section
variable {X:Cx}{σ:St}{H:Hp}{xs ys:List V}
theorem SqL.of {K:zFr}(h:H a=some (.lst xs)):SqL K H a xs:=.inl (.inl h)
theorem SqT.of {K:zFr}(h:H a=some (.tup xs)):SqT K H a xs:=.inl (.inl h)
theorem Inv.list (I:Inv X π σ H s) (h:SqL X.K H a xs):∃ its:List Value,Vals xs its/\PlainL s.heap a its.toArray/\xs.length<=sizeLine:=by
 rcases h with h | ⟨o,its,n,hk,hc,hd,hs,hz,r⟩
 ·obtain⟨z,its,n,r,e⟩:=h.ok I.hok;exact⟨its,r,⟨_,n,e,rfl,rfl,rfl⟩,z⟩
 ·refine⟨its.toList,r,⟨o,n,I.kIn a o hk,hc,hd,by simpa using hs⟩,?_⟩;have e:=r.length;simp only[z1t] at e;omega
theorem Inv.tuple (I:Inv X π σ H s) (h:SqT X.K H a xs):∃ its:List Value,Vals xs its/\IsTup s.heap a its.toArray/\xs.length<=sizeLine:=by
 rcases h with h | ⟨o,its,n,hk,hc,hs,hz,r⟩
 ·obtain⟨z,its,r,p⟩:=h.ok I.hok;exact⟨its,r,p,z⟩
 ·refine⟨its.toList,r,⟨o,I.kIn a o hk,hc,n,by simpa using hs⟩,?_⟩;have e:=r.length;simp only[z1t] at e;omega
theorem Inv.list_inj (I:Inv X π σ H s) (h:SqL X.K H a xs) (h':SqL X.K H a ys):xs=ys:=by
 obtain⟨its,r,⟨o,n,e,_,_,d⟩,_⟩:=I.list h;obtain⟨its',r',⟨o',n',e',_,_,d'⟩,_⟩:=I.list h';rw[e] at e';cases e';rw[d] at d';injection d' with d1 _
 have:its=its':=by simpa using congrArg Array.toList d1
 subst this;exact r.inj r'
theorem Inv.tuple_inj (I:Inv X π σ H s) (h:SqT X.K H a xs) (h':SqT X.K H a ys):xs=ys:=by
 obtain⟨its,r,⟨o,e,_,n,d⟩,_⟩:=I.tuple h;obtain⟨its',r',⟨o',e',_,n',d'⟩,_⟩:=I.tuple h';rw[e] at e';cases e';rw[d] at d';injection d' with d1 _
 have:its=its':=by simpa using congrArg Array.toList d1
 subst this;exact r.inj r'
end
abbrev Cx.wish (X:Cx) (E:zQ):Cx:={ X with xe:=E }
abbrev Cx.nox (X:Cx):Cx:=X.wish λ _ _=>False
theorem Cx.Ok.wish {X:Cx}(ok:X.Ok) (E:zQ):(X.wish E).Ok:=
 ⟨ok.mod,ok.kind,ok.glob,ok.blt,ok.above,ok.inj,ok.has,ok.cab,ok.hd,ok.frames,ok.stk,ok.exf,ok.bs,ok.bsz,ok.noex,ok.exfs,ok.funs,ok.frf⟩
theorem Cx.Ok.unwish {X:Cx}(ok:(X.wish E).Ok):X.Ok:=
 ⟨ok.mod,ok.kind,ok.glob,ok.blt,ok.above,ok.inj,ok.has,ok.cab,ok.hd,ok.frames,ok.stk,ok.exf,ok.bs,ok.bsz,ok.noex,ok.exfs,ok.funs,ok.frf⟩
section
variable {X:Cx}{σ:St}{H:Hp}
theorem Inv.wish (I:Inv X π σ H s) (E:zQ):Inv (X.wish E) π σ H s:=⟨I.ok.wish E,I.os,I.bare,I.base,I.loc,I.cell,I.free,I.freeC,I.pin,I.hok,I.len⟩
theorem Inv.unwish (I:Inv (X.wish E) π σ H s):Inv X π σ H s:=⟨I.ok.unwish,I.os,I.bare,I.base,I.loc,I.cell,I.free,I.freeC,I.pin,I.hok,I.len⟩
theorem SP.unwish {D:Ends}{f:Flow}{s':Shared}(h:SP (X.wish E) π D f s'):SP X π D f s':=by
 cases f with
 | next=>obtain⟨σ',H',I,q⟩:=h;exact⟨σ',H',I.unwish,q⟩
 | brk=>obtain⟨σ',H',I,q⟩:=h;exact⟨σ',H',I.unwish,q⟩
 | cont=>obtain⟨σ',H',I,q⟩:=h;exact⟨σ',H',I.unwish,q⟩
 | ret u=>obtain⟨v,σ',H',I,r,q⟩:=h;exact⟨v,σ',H',I.unwish,r,q⟩
theorem PSs.nox {st:List Stmt}{t:TS}(h:PSs X.nox st t):PSs X st t:=λ π s σ H D I hw=>
 z0D (h π s σ H D (I.wish _) hw) (λ _ _ q=>q.unwish) λ _ _ z=>False.elim z
end
section
variable {X:Cx}{st:Stmt}{rest:List Stmt}{t u:TS}{te:TE}
def wA:TS:=λ D σ H=>D.nx σ H
def tSeq (t u:TS):TS:=λ D σ H=>t { D with nx:=u D } σ H
theorem Ve:PSs X [] wA:=λ _ _ σ H _ I h=>wpAny_execs_nil ⟨σ,H,I,h⟩
theorem FW (h1:PS X st t) (h2:PSs X rest u):PSs X (st::rest) (tSeq t u):=by
 intro π s σ H D I h;refine wpAny_execs_cons (thn (h1 π s σ H { D with nx:=u D } I h) λ f s1 q=>?_);cases f with
 | next=>
  obtain⟨σ',H',I',q⟩:=q;exact h2 π s1 σ' H' D I' q
 | ret v=>exact q
 | brk=>exact q
 | cont=>exact q
theorem I_ (h1:PS X st t):PSs X [st] t:=by
 intro π s σ H D I h;refine wpAny_execs_cons (thn (h1 π s σ H D I h) λ f s1 q=>?_);cases f with
 | next=>exact wpAny_execs_nil q
 | ret v=>exact q
 | brk=>exact q
 | cont=>exact q
theorem Inv.quiet {σ:St}{H:Hp}(I:Inv X π σ H s):interactive X.env=false:=by simp[interactive,I.ok.kind]
def gD (te:TE):TS:=λ D σ H=>te σ H λ _ H1=>D.nx σ H1
theorem HB (he:PE X e te) (hs:swapsWith e none pos.line X.env=pure false:=by rfl):PS X (.Expr e pos) (gD te):=by
 intro π s σ H D I h;exact wpAny_Expr_any (thn (he π s σ H _ I h) λ v s1 ⟨x,H1,I1,r1,q1⟩=>⟨σ,H1,I1,q1⟩) I.quiet hs
def tRet (te:TE):TS:=λ D σ H=>te σ H D.rt
theorem uD (he:PE X e te):PS X (.Return (some e) pos) (tRet te):=by
 intro π s σ H D I h;exact wpAny_Return_some (thn (he π s σ H _ I h) λ v s1 ⟨x,H1,I1,r1,q1⟩=>⟨x,σ,H1,I1,r1,q1⟩)
def tIfS (c:TT) (t u:TS):TS:=λ D σ H=>c σ H λ b H1=>if b=true then t D σ H1 else u D σ H1
theorem gF {c:Expr}{a b:List Stmt}{tc:TT}(hc:PT X c tc) (ha:PSs X a t) (hb:PSs X b u):PS X (.If c a b pos) (tIfS tc t u):=by
 intro π s σ H D I h;refine wpAny_If (thn (hc π s σ H _ I h) λ d s1 ⟨H1,I1,q1⟩=>?_);cases d with
 | true=>exact ha π s1 σ H1 D I1 q1
 | false=>exact hb π s1 σ H1 D I1 q1
end
abbrev TG:=V->St->Hp->(St->Hp->Prop)->Prop
abbrev TGs:=List V->St->Hp->(St->Hp->Prop)->Prop
def PG (X:Cx) (target:Expr) (t:TG):Prop:=
 ∀ (π:zP) (s:Shared) (σ:St) (H:Hp) (v:V) (u:Value) (Q:St->Hp->Prop),Inv X π σ H s->RelV v u->t v σ H Q ->
  wpAny (model X.prog X.w) X.A (assign target X.env u) (λ _ s'=>∃ σ' H',Inv X π σ' H' s'/\Q σ' H') X.xe s
def PGs (X:Cx) (ts:List Expr) (t:TGs):Prop:=
 ∀ (π:zP) (s:Shared) (σ:St) (H:Hp) (vs:List V) (us:List Value) (Q:St->Hp->Prop),Inv X π σ H s->Vals vs us->t vs σ H Q ->
  wpAny (model X.prog X.w) X.A (assignInOrder ((assignEach ts X.env).map (·.2)) us) (λ _ s'=>∃ σ' H',Inv X π σ' H' s'/\Q σ' H') X.xe s
abbrev TSet:=V->V->V->Hp->(Hp->Prop)->Prop
def PSet (X:Cx) (t:TSet):Prop:=
 ∀ (π:zP) (s:Shared) (σ:St) (H:Hp) (o i v:V) (ov iv u:Value) (Q:Hp->Prop),Inv X π σ H s->RelV o ov->RelV i iv->RelV v u->t o i v H Q ->
  wpAny (model X.prog X.w) X.A (setItem ov iv u) (λ _ s'=>∃ H',Inv X π σ H' s'/\Q H') X.xe s
section
variable {X:Cx}
def Kd (i:Nat):TG:=λ v σ H Q=>Q (σ.set i (some v)) H
theorem nH {x:Str}(hN:X.N.Nodup) (hi:X.N[i]?=some x) (hx:Loc X.env.scope x) (hf:X.fn x=true∨X.env.scope.names.lookup x=some .local :=by first | exact .inl rfl | exact .inr rfl | assumption):PG X (.Name x pos) (Kd i):=by
 intro π s σ H v u Q I r h;exact wpAny_assign_Name (M7 I hN hi hx r (λ s' I'=>⟨_,H,I',h⟩) hf)
def gNil:TGs:=λ vs σ H Q=>vs=[]/\Q σ H
def wB (t:TG) (u:TGs):TGs:=λ vs σ H Q=>∃ v r,vs=v::r/\t v σ H λ σ' H'=>u r σ' H' Q
theorem nJ:PGs X [] gNil:=by
 intro π s σ H vs us Q I r h;obtain⟨e,h⟩:=h;subst e;cases r;exact assignInOrder_nil ⟨σ,H,I,h⟩
theorem gG {es:List Expr}{t:TG}{u:TGs}(h1:PG X e t) (h2:PGs X es u)
  (hs:(assignEach (e::es) X.env).map (·.2)=assign e X.env::(assignEach es X.env).map (·.2):=by rfl):PGs X (e::es) (wB t u):=by
 intro π s σ H vs us Q I r h;obtain⟨v,vr,e1,h⟩:=h;subst e1;cases r with
 | cons r rr=>
  rw[hs];refine assignInOrder_cons (thn (h1 π s σ H _ _ _ I r h) λ _ s1 ⟨σ1,H1,I1,q1⟩=>?_);exact h2 π s1 σ1 H1 _ _ Q I1 rr q1
def gTup (K:zFr) (n:Nat) (t:TGs):TG:=λ v σ H Q=>∃ a xs,v=.ref a/\SqT K H a xs/\xs.length=n/\t xs σ H Q
theorem uE {es:List Expr}{k:Nat}{t:TGs}(hc:X.calm=true) (h:PGs X es t)
  (hn:(assignEach es X.env).length=n:=by rfl) (hst:(assignEach es X.env).findIdx? (·.1)=none:=by rfl):PG X (.Tuple es k pos) (gTup X.K n t):=by
 intro π s σ H v u Q I r hw;obtain⟨a,xs,e1,hq,hl,hw⟩:=hw;subst e1;cases r;obtain⟨its,rv,ht,hz⟩:=I.tuple hq;refine assign_Tuple_tuple (I.ok.hd hc) ht (by simp[hn,<-hl,rv.length]) hst λ h' hx=>?_;have I1:Inv X π σ H { s with heap:=h' }:=I.kept (t':=s.toks) λ b o e=>hx b o (z08 (z06 e)) e;exact h π _ σ H xs _ Q I1 (by simpa using rv) hw
def gSub (to ti:TE) (t:TSet):TG:=λ v σ H Q=>to σ H λ o H1=>ti σ H1 λ i H2=>t o i v H2 λ H3=>Q σ H3
theorem uG {o i:Expr}{to ti:TE}{t:TSet}(ho:PE X o to) (hi:PE X i ti) (hs:PSet X t)
  (ha:∀ v,assign (.Subscript o i pos) X.env v=(do
   let ov <-holding [v] (eval o X.env)
   let iv <-holding [v,ov] (eval i X.env)
   standAt pos
   holding [v,ov,iv] (setItem ov iv v)
   release [v,ov,iv] []):=by intro _;rfl):PG X (.Subscript o i pos) (gSub to ti t):=by
 intro π s σ H v u Q I r h;rw[ha];refine z00 (z0z (thn (ho π s σ H _ I h) λ ov s1 ⟨x,H1,I1,r1,q1⟩=>?_));refine z00 (z0z (thn (hi π s1 σ H1 _ I1 q1) λ iv s2 ⟨y,H2,I2,r2,q2⟩=>?_));refine z00 (wpAny_standAt (z00 (z0z (thn (hs π s2 σ H2 x y v ov iv u _ I2 r1 r2 r q2) λ _ s3 ⟨H3,I3,q3⟩=>?_))));exact wpAny_release ⟨σ,H3,I3,q3⟩
def tAsg (te:TE) (g:TG):TS:=λ D σ H=>te σ H λ x H1=>g x σ H1 D.nx
theorem gH {te:TE}{g:TG}(he:PE X e te) (hg:PG X tg g) (hs:swapsWithSole [tg] e pos.line X.env=pure false:=by rfl) (hw:swappedStores [tg] e X.env=pure none:=by rfl)
  (h1:(assignEach [tg] X.env).map (·.2)=[assign tg X.env]:=by rfl):PS X (.Assign [tg] e pos) (tAsg te g):=by
 intro π s σ H D I h;refine wpAny_Assign_stores (thn (he π s σ H _ I h) λ v s1 ⟨x,H1,I1,r1,q1⟩=>?_) hs hw;rw[h1];exact thn (hg π s1 σ H1 x v _ I1 r1 q1) λ _ s2 q=>q
theorem Yo {x:Str}{te:TE}(hN:X.N.Nodup) (hi:X.N[i]?=some x) (hx:Loc X.env.scope x) (he:PE X e te) (hs:swapsWith e (some (.Name x pos')) pos.line X.env=pure false:=by rfl) (hf:X.fn x=true∨X.env.scope.names.lookup x=some .local :=by first | exact .inl rfl | exact .inr rfl | assumption) :
  PS X (.Assign [.Name x pos'] e pos) (tAsg te (Kd i)):=by
 intro π s σ H D I h;refine wpAny_Assign_Name (thn (he π s σ H _ I h) λ v s1 ⟨y,H1,I1,r1,q1⟩=>?_) hs;exact M7 I1 hN hi hx r1 (λ s2 I2=>⟨_,H1,I2,q1⟩) hf
end
section
variable {X:Cx}
def uH (c:TT) (tb:TS):TS:=λ D σ H=>∃ W:Nat->St->Hp->Prop,(∃ m,W m σ H)/\∀ m σ H,W m σ H ->
 c σ H λ b H1=>if b=true then ∃ N:St->Hp->Prop,(∀ σ' H',N σ' H'->∃ m',m'<m/\W m' σ' H')/\tb { D with nx:=N,ct:=N,bk:=D.nx } σ H1 else D.nx σ H1
theorem gJ {c:Expr}{tc:TT}{tb:TS}(hp:PassesOwn (model X.prog X.w) X.A X.env X.xe) (hc:PT X c tc) (hb:PSs X body tb):PS X (.While c body [] pos) (uH tc tb):=by
 intro π s σ H D I h;obtain⟨W,⟨m0,w0⟩,turn⟩:=h;refine wpAny_While (codeAny_whileLoop (λ n s'=>∃ σ' H',Inv X π σ' H' s'/\W n σ' H') ?_ m0 ⟨σ,H,I,w0⟩);rintro n s1 ⟨σ1,H1,I1,w1⟩;refine z1u hp (thn (hc π s1 σ1 H1 _ I1 (turn n σ1 H1 w1)) λ b s2 ⟨H2,I2,q2⟩=>?_);cases b with
 | true=>
  obtain⟨N,hN,q2⟩:=q2;rw[if_pos rfl];refine z1u hp (thn (hb π s2 σ1 H2 _ I2 q2) λ f s3 q3=>?_);cases f with
  | next=>
   obtain⟨σ3,H3,I3,n3⟩:=q3;obtain⟨m',hm,w3⟩:=hN σ3 H3 n3;exact⟨m',hm,σ3,H3,I3,w3⟩
  | cont=>
   obtain⟨σ3,H3,I3,n3⟩:=q3;obtain⟨m',hm,w3⟩:=hN σ3 H3 n3;exact⟨m',hm,σ3,H3,I3,w3⟩
  | brk=>exact q3
  | ret v=>exact q3
 | false=>
  rw[if_neg z0j];exact wpAny_execs_nil ⟨σ1,H2,I2,q2⟩
end
structure It where
 go:Nat->Hp->Prop
 yld:Nat->Hp->V->Hp->Prop
 stop:Nat->Hp->Prop
def FpOk (X:Cx) (π:zP) (H:Hp) (b:Addr):Prop:=
 H b=none/\b≠X.env.locals/\b∉X.fs/\(b∈X.ex∨X.s₀.heap.objs.size<=b)/\(∀ x c,X.env.cells.lookup x=some c->c≠b)/\∀ p∈X.pn++π,p.1≠b
theorem Inv.fpOk {X:Cx}{σ:St}{H H':Hp}(I:Inv X π σ H s) (hb:s.heap.objs.size<=b) (hn:H' b=none):FpOk X π H' b:=by
 refine⟨hn,Nat.ne_of_gt (z0m I.lt hb),I.nofs hb,.inr (z0a I.sz hb),λ x c e z=>?_,λ p hp z=>?_⟩
 ·obtain⟨v,q⟩:=I.cell x c e;exact absurd (z0m q.lt (by rw[z];exact hb)) (z1s _)
 ·exact absurd (z0m (z06 (I.pin p hp).1) (by rw[z];exact hb)) (z1s _)
structure Turn (P:Program) (w:World) (K:zFr) (tg:Expr) (J:It) (fp:List Addr) (it:Addr) (tn:Nat->Heap->Prop):Prop where
 mem:it∈fp
 obj:∀ i h,tn i h->∀ b∈fp,∃ o,h.get? b=some o/\∀ v,o.data≠.cell v
 keep:∀ i h h',tn i h->(∀ b∈fp,∀ o,h.get? b=some o->h'.get? b=some o)->tn i h'
 item:∀ (X:Cx),X.prog=P->X.w=w->X.K=K->X.calm=true->∀ (i:Nat) (π:zP) (s:Shared) (σ:St) (H:Hp) (E:zQ),Inv X π σ H s->(∀ b∈fp,FpOk X π H b)->tn i s.heap->J.go i H ->
  wpAny (model P w) X.A (pyNext (.ref it)) (λ r s1=>∃ u,r=some u ∧
   wpAny (model P w) X.A (letOwnedTupleGo tg (.ref it) u) (λ _ s2=>∃ x H',Inv X π σ H' s2/\RelV x u/\J.yld i H x H'/\tn (i+1) s2.heap/\∀ b∈fp,H' b=none) E s1) E s
 done:∀ (X:Cx),X.prog=P->X.w=w->X.K=K->X.calm=true->∀ (i:Nat) (π:zP) (s:Shared) (σ:St) (H:Hp) (E:zQ),Inv X π σ H s->(∀ b∈fp,FpOk X π H b)->tn i s.heap->J.stop i H ->
  wpAny (model P w) X.A (pyNext (.ref it)) (λ r s1=>r=none/\Inv X π σ H s1) E s
 self:∀ (A:Around) (i:Nat) (s:Shared) (Q:zQ) (E:zQ),tn i s.heap->Q (.ref it) s->wpAny (model P w) A (pyIter (.ref it)) Q E s
abbrev TI:=St->Hp->(It->Hp->Prop)->Prop
def PIE (X:Cx) (π:zP) (σ:St) (tg:Expr) (R:It->Hp->Prop) (itv:Value) (s2:Shared):Prop:=
 ∃ (it:Addr) (fp:List Addr) (tn:Nat->Heap->Prop) (J:It) (H':Hp),itv=.ref it/\Inv X π σ H' s2/\Turn X.prog X.w X.K tg J fp it tn/\tn 0 s2.heap/\(∀ b∈fp,FpOk X π H' b)/\R J H'
def PI (X:Cx) (tg iter:Expr) (wi:TI):Prop:=
 ∀ (π:zP) (s:Shared) (σ:St) (H:Hp) (R:It->Hp->Prop),Inv X π σ H s->wi σ H R ->
  wpAny (model X.prog X.w) X.A (eval iter X.env) (λ v s1=>wpAny (model X.prog X.w) X.A (pyIter v) (PIE X π σ tg R) X.xe s1) X.xe s
theorem XM {A:Around}{o:Obj}{n:String}{vs:Array Value}{Q:Unit->Shared->Prop}(ho:s.heap.get? it=some o) (hc:o.cls=.type n) (hd:o.data=.fields vs)
    (hn:["enumerate","zip","dict_itemiterator","dict_reverseitemiterator","odict_iterator","itertools.zip_longest","itertools.pairwise"].contains n=false) (hQ:Q () s):wpAny M A (letOwnedTupleGo tg (.ref it) u) Q E s:=by
  unfold letOwnedTupleGo;cases tg<;>first
    | exact z01 hQ
    | (cases u<;>first
        | exact z01 hQ
        | (refine z00 (wpAny_load ho ?_)
           rw[hc,hd];show wpAny M A (if (["enumerate","zip","dict_itemiterator","dict_reverseitemiterator","odict_iterator","itertools.zip_longest","itertools.pairwise"].contains n&&vs[0]?==some (rawInt _))=true then _ else _) Q E s;rw[if_neg (by intro h;rw[hn,Bool.false_and] at h;cases h)];exact z01 hQ))
def Itl (K:zFr) (a:Addr):It:=
 ⟨λ i H=>∃ xs x,SqL K H a xs/\xs[i]?=some x,λ i H x H'=>H'=H/\∀ xs,SqL K H a xs->xs[i]?=some x,λ i H=>∃ xs,SqL K H a xs/\xs.length<=i⟩
def Itt (K:zFr) (a:Addr):It:=
 ⟨λ i H=>∃ xs x,SqT K H a xs/\xs[i]?=some x,λ i H x H'=>H'=H/\∀ xs,SqT K H a xs->xs[i]?=some x,λ i H=>∃ xs,SqT K H a xs/\xs.length<=i⟩
def Itr (lo:Int) (n:Nat):It:=⟨λ i _=>i<n,λ i H x H'=>H'=H/\x=.int (lo+i),λ i _=>n<=i⟩
theorem dN {K:zFr}(a it:Addr):Turn P w K tg (Itl K a) [it] it (λ i h=>h.IsListIter it a i) where
 mem:=by simp
 obj:=λ i h st b hb=>by
  have e:b=it:=by simpa using hb
  subst e;obtain⟨o,e,c,d⟩:=st;exact⟨o,e,λ v z=>by rw[d] at z;cases z⟩
 keep:=λ i h h' st k=>st.at λ o e=>k it (by simp) o e
 item:=by
  intro X hP hw hK hc i π s σ H E I hf st hg;subst hP hw hK;obtain⟨xs,x,hq,hx⟩:=hg;obtain⟨its,rv,p,hz⟩:=I.list hq;obtain⟨u,hu,ru⟩:=rv.get hx;obtain⟨f0,f1,f2,f3,f4,f5⟩:=hf it (by simp);refine wpAny_pyNext_list_item st p.isList (x:=u) (by simpa using hu) λ h' st' sb=>?_;have I1:Inv X π σ H { s with heap:=h' }:=I.turned (t':=s.toks) (λ b o hb e=>(sb.2 b hb).trans e) f0 f1 f3 f4 f5;obtain⟨o,e,c,d⟩:=id st';exact⟨u,rfl,XM (s:={ s with heap:=h' }) e c d (by decide) ⟨x,H,I1,ru,⟨rfl,λ ys hy=>by rw[I.list_inj hy hq];exact hx⟩,st',λ b hb=>(hf b hb).1⟩⟩
 done:=by
  intro X hP hw hK hc i π s σ H E I hf st hg;subst hP hw hK;obtain⟨xs,hq,hx⟩:=hg;obtain⟨its,rv,p,hz⟩:=I.list hq;obtain⟨f0,f1,f2,f3,f4,f5⟩:=hf it (by simp);have hl:=rv.length;exact wpAny_pyNext_list_end (I.ok.hd hc) st p.isList (by simp;omega) λ h' eb=>⟨rfl,I.turned (t':=s.toks) (λ b o hb e=>eb b o hb e) f0 f1 f3 f4 f5⟩
 self:=λ _ _ _ _ _ st h=>wpAny_pyIter_listiter st h
theorem Yp {K:zFr}(a it:Addr):Turn P w K tg (Itt K a) [it] it (λ i h=>h.IsTupleIter it a i) where
 mem:=by simp
 obj:=λ i h st b hb=>by
  have e:b=it:=by simpa using hb
  subst e;obtain⟨o,e,c,d⟩:=st;exact⟨o,e,λ v z=>by rw[d] at z;cases z⟩
 keep:=λ i h h' st k=>st.at λ o e=>k it (by simp) o e
 item:=by
  intro X hP hw hK hc i π s σ H E I hf st hg;subst hP hw hK;obtain⟨xs,x,hq,hx⟩:=hg;obtain⟨its,rv,p,hz⟩:=I.tuple hq;obtain⟨u,hu,ru⟩:=rv.get hx;obtain⟨f0,f1,f2,f3,f4,f5⟩:=hf it (by simp);refine wpAny_pyNext_tuple_item st (show s.heap.IsTuple a its.toArray from p) (x:=u) (by simpa using hu) λ h' st' sb=>?_;have I1:Inv X π σ H { s with heap:=h' }:=I.turned (t':=s.toks) (λ b o hb e=>(sb.2 b hb).trans e) f0 f1 f3 f4 f5;obtain⟨o,e,c,d⟩:=id st';exact⟨u,rfl,XM (s:={ s with heap:=h' }) e c d (by decide) ⟨x,H,I1,ru,⟨rfl,λ ys hy=>by rw[I.tuple_inj hy hq];exact hx⟩,st',λ b hb=>(hf b hb).1⟩⟩
 done:=by
  intro X hP hw hK hc i π s σ H E I hf st hg;subst hP hw hK;obtain⟨xs,hq,hx⟩:=hg;obtain⟨its,rv,p,hz⟩:=I.tuple hq;obtain⟨f0,f1,f2,f3,f4,f5⟩:=hf it (by simp);have hl:=rv.length;exact wpAny_pyNext_tuple_end (I.ok.hd hc) st (show s.heap.IsTuple a its.toArray from p) (by simp;omega) λ h' eb=>⟨rfl,I.turned (t':=s.toks) (λ b o hb e=>eb b o hb e) f0 f1 f3 f4 f5⟩
 self:=λ _ _ _ _ _ st h=>wpAny_pyIter_tupleiter st h
theorem Yq {K:zFr}(it:Addr) (lo:Int) (n:Nat):Turn P w K tg (Itr lo n) [it] it (λ i h=>IsRangeIter h it (lo+(i:Nat)*1) ((n:Int)-(i:Nat)) 1) where
 mem:=by simp
 obj:=λ i h st b hb=>by
  have e:b=it:=by simpa using hb
  subst e;exact⟨_,st,λ v z=>by
   have z':Data.fields _=Data.cell v:=z;cases z'⟩
 keep:=λ i h h' st k=>k it (by simp) _ st
 item:=by
  intro X hP hw hK hc i π s σ H E I hf st hg;subst hP hw hK;obtain⟨f0,f1,f2,f3,f4,f5⟩:=hf it (by simp);have W:=Walks.range (prog:=X.prog) (w:=X.w) (I.ok.hd hc) it lo 1 n;refine W.item i s _ _ hg st λ v h' tk hv st' kk=>?_;obtain⟨t,rfl⟩:=hv;have I1:Inv X π σ H { s with heap:=h',toks:=tk }:=I.turned (λ b o hb e=>kk b o (by simpa using hb) e) f0 f1 f3 f4 f5;refine⟨_,rfl,XM (s:={ s with heap:=h',toks:=tk }) (n:="range_iterator") st' rfl rfl (by decide) ⟨.int (lo+i),H,I1,⟨t,?_⟩,⟨rfl,rfl⟩,st',λ b hb=>(hf b hb).1⟩⟩;rw[Int.mul_one]
 done:=by
  intro X hP hw hK hc i π s σ H E I hf st hg;subst hP hw hK;obtain⟨f0,f1,f2,f3,f4,f5⟩:=hf it (by simp);exact wpAny_pyNext_range_end (I.ok.hd hc) st (by have:n<=i:=hg;omega) λ h' eb=>⟨rfl,I.turned (t':=s.toks) (λ b o hb e=>eb b o hb e) f0 f1 f3 f4 f5⟩
 self:=λ _ _ _ _ _ st h=>wpAny_pyIter_rangeiter st h
section
variable {X:Cx}
def wC (K:zFr) (tl:TE):TI:=λ σ H R=>tl σ H λ x H1=>∃ a,x=.ref a/\(∃ xs,SqL K H1 a xs)/\R (Itl K a) H1
def iTup (K:zFr) (tl:TE):TI:=λ σ H R=>tl σ H λ x H1=>∃ a,x=.ref a/\(∃ xs,SqT K H1 a xs)/\R (Itt K a) H1
theorem Z6 {tl:TE}(hl:PE X l tl):PI X tg l (wC X.K tl):=by
 intro π s σ H R I h;refine thn (hl π s σ H _ I h) λ v s1 ⟨x,H1,I1,r1,q1⟩=>?_;obtain⟨a,e,⟨xs,hq⟩,q⟩:=q1;subst e;cases r1;obtain⟨its,rv,p,hz⟩:=I1.list hq;refine wpAny_pyIter_list p.isList ?_;refine⟨s1.heap.objs.size,[s1.heap.objs.size],_,_,H1,rfl,I1.kept (t':=s1.toks) λ b o e=>z05 _ e,dN a _,⟨_,z0f _ rfl,rfl,rfl⟩,λ b hb=>?_,q⟩;have e:b=s1.heap.objs.size:=by simpa using hb
 subst e;exact I1.fpOk (z04 _) (I1.hok.fresh (z04 _))
theorem gK {tl:TE}(hl:PE X l tl):PI X tg l (iTup X.K tl):=by
 intro π s σ H R I h;refine thn (hl π s σ H _ I h) λ v s1 ⟨x,H1,I1,r1,q1⟩=>?_;obtain⟨a,e,⟨xs,hq⟩,q⟩:=q1;subst e;cases r1;obtain⟨its,rv,p,hz⟩:=I1.tuple hq;refine wpAny_pyIter_tuple (show s1.heap.IsTuple a its.toArray from p) ?_;refine⟨s1.heap.objs.size,[s1.heap.objs.size],_,_,H1,rfl,I1.kept (t':=s1.toks) λ b o e=>z05 _ e,Yp a _,⟨_,z0f _ rfl,rfl,rfl⟩,λ b hb=>?_,q⟩;have e:b=s1.heap.objs.size:=by simpa using hb
 subst e;exact I1.fpOk (z04 _) (I1.hok.fresh (z04 _))
theorem gM {σ:St}{H:Hp}{R:It->Hp->Prop}{lo hi:Int}{t u v:Tok}{tk:Nat}(I:Inv X π σ H s) (h1 : -(2^62)<=lo) (h2:lo<2^62) (h3 : -(2^62)<=hi) (h4:hi<2^62)
  (q:R (Itr lo (hi-lo).toNat) H):wpAny (model X.prog X.w) X.A (pyIter (.ref s.heap.objs.size)) (PIE X π σ tg R) E { s with heap:=s.heap.push { cls:=.type "range",data:=.fields #[.int lo t,.int hi u,.int 1 v] },toks:=tk }:=by
 refine wpAny_pyIter_range (IsRange.new ..) (small_one h1 h2 h3 h4) ?_;have I1:Inv X π σ H { s with heap:=s.heap.push { cls:=.type "range",data:=.fields #[.int lo t,.int hi u,.int 1 v] },toks:=tk }:=I.kept λ b o e=>z05 _ e;refine⟨(s.heap.push { cls:=.type "range",data:=.fields #[.int lo t,.int hi u,.int 1 v] }).objs.size,[(s.heap.push { cls:=.type "range",data:=.fields #[.int lo t,.int hi u,.int 1 v] }).objs.size],_,_,H,rfl,
  I1.kept (t':=tk) λ b o e=>z05 _ e,Yq _ lo (hi-lo).toNat,?_,λ b hb=>?_,q⟩
 ·have e1:lo+((0:Nat):Int)*1=lo:=by simp
  have e2:(((hi-lo).toNat:Nat):Int)-((0:Nat):Int)=Builtin.Range.rangeSize lo hi 1:=by rw[rangeSize_one];split<;>omega
  show IsRangeIter _ _ (lo+((0:Nat):Int)*1) ((((hi-lo).toNat:Nat):Int)-((0:Nat):Int)) 1;rw[e1,e2];exact z0f _ rfl
 ·have e:b=(s.heap.push { cls:=.type "range",data:=.fields #[.int lo t,.int hi u,.int 1 v] }).objs.size:=by simpa using hb
  subst e;exact I1.fpOk (z04 _) (I1.hok.fresh (z04 _))
def wD (ta:TA):TI:=λ σ H R=>ta σ H λ vs H1=>∃ j:Int,vs=[.int j]/\-(2^62)<=j/\j<2^62/\R (Itr 0 j.toNat) H1
theorem dO {a:Expr}{ta:TA}{p:Pos}(hg:Gl X "range") (hm:X.mg "range"=none) (ha:PA X [a] ta) (hs:starEach [a] X.env=[(false,eval a X.env)]:=by rfl):PI X tg (.Call (.Name "range" p) [a] [] pos) (wD ta):=by
 intro π s σ H R I h;refine Call_ (Vd I hg hm boot_range (PyProof.Rows.callWith_type1 (thn (ha pos π s σ H _ I h) λ us s1 ⟨vs,H1,I1,r1,q1⟩=>?_) hs rfl));obtain⟨j,e,q1,q2,q⟩:=q1;subst e;cases r1 with
 | cons r rr=>
  cases rr;obtain⟨t,rfl⟩:=r;exact call_range_1 (gM I1 (by omega) (by omega) q1 q2 (by simpa using q))
def tFor (wi:TI) (g:TG) (tb:TS):TS:=λ D σ H=>wi σ H λ J H1=>∃ W:Nat->Nat->St->Hp->Prop,(∃ m,W 0 m σ H1)/\∀ i m σ H,W i m σ H ->
 (J.stop i H/\D.nx σ H)∨(J.go i H/\∃ N:St->Hp->Prop,(∀ σ' H',N σ' H'->∃ m',m'<m/\W (i+1) m' σ' H')/\∀ x H',J.yld i H x H'->g x σ H' λ σ2 H2=>tb { D with nx:=N,ct:=N,bk:=D.nx } σ2 H2)
def Rm (fp:List Addr) (h:Heap):List (Addr×Obj):=fp.filterMap λ b=>(h.get? b).map λ o=>(b,o)
theorem Jy {o:Obj}(hb:b∈fp) (e:h.get? b=some o):(b,o)∈Rm fp h:=List.mem_filterMap.mpr ⟨b,hb,by rw[e];rfl⟩
theorem dR {p:Addr×Obj}(hp:p∈Rm fp h):p.1∈fp/\h.get? p.1=some p.2:=by
 obtain⟨b,hb,e⟩:=List.mem_filterMap.mp hp;cases q:h.get? b with
 | none=>rw[q] at e;cases e
 | some o=>
  rw[q] at e;have e':(b,o)=p:=z0h e;subst e';exact⟨hb,q⟩
theorem Inv.pinned {σ:St}{H:Hp}(I:Inv X π σ H s) (hf:∀ b∈fp,FpOk X π H b) (ho:∀ b∈fp,∃ o,s.heap.get? b=some o/\∀ v,o.data≠.cell v):Inv X (π++Rm fp s.heap) σ H s:=
 I.pins_of λ p hp=>(z0p.mp hp).elim (λ z=>I.pin p (z0U _ z)) λ z=>by
  obtain⟨hb,e⟩:=dR z;obtain⟨f0,f1,f2,_⟩:=hf p.1 hb;obtain⟨o,e',d⟩:=ho p.1 hb;rw[e] at e';cases e';exact⟨e,f0,f1,f2,d⟩
theorem Inv.unpinned {pl:zP}{σ:St}{H:Hp}(I:Inv X (π++pl) σ H s):Inv X π σ H s:=I.pins_of λ p hp=>I.pin p (z0U _ (List.mem_append_left _ hp))
theorem Yr {iter:Expr}{wi:TI}{g:TG}{tb:TS}(hp:PassesOwn (model X.prog X.w) X.A X.env X.xe) (hc:X.calm=true) (hi:PI X tg iter wi) (hg:PG X tg g) (hb:PSs X body tb)
  (hs:∀ x,foldedSetIterable iter X.env x=pure x:=by intro _;rfl):PS X (.For tg iter body [] pos) (tFor wi g tb):=by
 intro π s σ H D I h;refine wpAny_For (thn (hi π s σ H _ I h) λ v s1 h1=>thn h1 λ itv s2 h2=>?_) hs;obtain⟨it,fp,tn,J,H2,e,I2,T,st2,f2,W,⟨m0,w0⟩,turn⟩:=h2;subst e;have stat:∀ {H':Hp},(∀ b∈fp,H' b=none)->∀ b∈fp,FpOk X π H' b:=λ hn b hb=>⟨hn b hb,(f2 b hb).2⟩;refine codeAny_forLoop_any (λ n s'=>∃ i σ' H',Inv X π σ' H' s'/\tn i s'.heap/\(∀ b∈fp,H' b=none)/\W i n σ' H') ?_ m0 ⟨0,σ,H2,I2,st2,λ b hb=>(f2 b hb).1,w0⟩;rintro n s3 ⟨i,σ3,H3,I3,st3,fr3,w3⟩
 rcases turn i n σ3 H3 w3 with ⟨stop,qn⟩ | ⟨go,N,hN,step⟩
 ·refine z1u hp (thn (T.done X rfl rfl rfl hc i π s3 σ3 H3 X.xe I3 (stat fr3) st3 stop) λ r s4 ⟨hr,I4⟩=>?_);subst hr;exact wpAny_execs_nil ⟨σ3,H3,I4,qn⟩
 ·refine z1u hp (thn (T.item X rfl rfl rfl hc i π s3 σ3 H3 X.xe I3 (stat fr3) st3 go) λ r s4 ⟨u,hr,h4⟩=>?_);subst hr;refine z1u hp (thn h4 λ _ s5 ⟨x,H5,I5,r5,y5,st5,fr5⟩=>?_);have I5':=I5.pinned (stat fr5) (T.obj _ _ st5);refine z1u hp (thn (hg _ s5 σ3 H5 x u _ I5' r5 (step x H5 y5)) λ _ s6 ⟨σ6,H6,I6,q6⟩=>?_);refine z1u hp (thn (hb _ s6 σ6 H6 _ I6 q6) λ f s7 q7=>?_);have again:∀ {σ7:St}{H7:Hp},Inv X (π++Rm fp s5.heap) σ7 H7 s7->N σ7 H7->∃ m,m<n/\∃ i σ' H',Inv X π σ' H' s7/\tn i s7.heap/\(∀ b∈fp,H' b=none)/\W i m σ' H':=λ {σ7 H7} I7 n7=>by
   obtain⟨m',hm,w7⟩:=hN σ7 H7 n7;refine⟨m',hm,i+1,σ7,H7,I7.unpinned,T.keep _ _ _ st5 λ b hb o e=>(I7.pin (b,o) (z0U _ (z0U _ (Jy hb e)))).1,λ b hb=>?_,w7⟩;obtain⟨o,e,d⟩:=T.obj _ _ st5 b hb;exact (I7.pin (b,o) (z0U _ (z0U _ (Jy hb e)))).2.1
  cases f with
  | next=>obtain⟨σ7,H7,I7,n7⟩:=q7;exact again I7 n7
  | cont=>obtain⟨σ7,H7,I7,n7⟩:=q7;exact again I7 n7
  | brk=>obtain⟨σ7,H7,I7,q7⟩:=q7;exact⟨σ7,H7,I7.unpinned,q7⟩
  | ret v=>obtain⟨x7,σ7,H7,I7,r7,q7⟩:=q7;exact⟨x7,σ7,H7,I7.unpinned,r7,q7⟩
end
abbrev R2:=V->V->Hp->VK->Prop
def OpR (X:Cx) (f:Value->Value->Sem Value) (r:R2):Prop:=
 ∀ (π:zP) (s:Shared) (σ:St) (H:Hp) (x y:V) (v u:Value) (Q:VK),Inv X π σ H s->RelV x v->RelV y u->r x y H Q ->
  wpAny (model X.prog X.w) X.A (f v u) (EP X π σ Q) X.xe s
def UnR (X:Cx) (f:Value->Sem Value) (r:V->Hp->VK->Prop):Prop:=
 ∀ (π:zP) (s:Shared) (σ:St) (H:Hp) (x:V) (v:Value) (Q:VK),Inv X π σ H s->RelV x v->r x H Q ->
  wpAny (model X.prog X.w) X.A (f v) (EP X π σ Q) X.xe s
def Eb (X:Cx) (f:Value) (r:List V->Hp->VK->Prop):Prop:=
 ∀ (π:zP) (s:Shared) (σ:St) (H:Hp) (xs:List V) (us:List Value) (Q:VK),Inv X π σ H s->Vals xs us->r xs H Q ->
  wpAny (model X.prog X.w) X.A (call f us) (EP X π σ Q) X.xe s
def TruR (X:Cx) (r:V->Hp->(Bool->Hp->Prop)->Prop):Prop:=
 ∀ (π:zP) (s:Shared) (σ:St) (H:Hp) (x:V) (v:Value) (Q:Bool->Hp->Prop),Inv X π σ H s->RelV x v->r x H Q ->
  wpAny (model X.prog X.w) X.A (truthy v) (TP X π σ Q) X.xe s
def tOp (r:R2) (ta tb:TE):TE:=λ σ H Q=>ta σ H λ x H1=>tb σ H1 λ y H2=>r x y H2 Q
def tUn (r:V->Hp->VK->Prop) (ta:TE):TE:=λ σ H Q=>ta σ H λ x H1=>r x H1 Q
def rI (C:Int->Int->Prop) (g:Int->Int->V):R2:=λ x y H Q=>∃ i j,x=.int i/\y=.int j/\C i j/\Q (g i j) H
def rI0 (g:Int->Int->V):R2:=λ x y H Q=>∃ i j,x=.int i/\y=.int j/\Q (g i j) H
def rU (g:Int->V):V->Hp->VK->Prop:=λ x H Q=>∃ i,x=.int i/\Q (g i) H
section
variable {X:Cx}{a b c:Expr}{ta tb tc:TE}
theorem binT (ha:PE X a ta) (hb:PE X b tb) {π:zP}{s:Shared}{σ:St}{H:Hp}{R:V->V->Hp->Prop}(I:Inv X π σ H s)
  (h:ta σ H λ x H1=>tb σ H1 λ y H2=>R x y H2) {Q:zQ}{f:Value->Value->Sem Value}
  (hf:∀ v u s2 x y H2,Inv X π σ H2 s2->RelV x v->RelV y u->R x y H2->wpAny (model X.prog X.w) X.A (f v u) Q X.xe s2) :
  wpAny (model X.prog X.w) X.A (eval a X.env) (λ v s₁=>wpAny (model X.prog X.w) X.A (eval b X.env) (λ u s₂=>wpAny (model X.prog X.w) X.A (f v u) Q X.xe s₂) X.xe s₁) X.xe s:=by
 refine thn (ha π s σ H _ I h) λ v s1 ⟨x,H1,I1,r1,q1⟩=>?_;refine thn (hb π s1 σ H1 _ I1 q1) λ u s2 ⟨y,H2,I2,r2,q2⟩=>?_;exact hf v u s2 x y H2 I2 r1 r2 q2
theorem wF {op:Operator}{r:R2}(ho:OpR X (binaryOp op) r) (ha:PE X a ta) (hb:PE X b tb):PE X (.BinOp a op b pos) (tOp r ta tb):=by
 intro π s σ H Q I h;exact wpAny_BinOp (binT ha hb I h λ v u s2 x y H2 I2 rx ry q=>ho π s2 σ H2 x y v u Q I2 rx ry q)
theorem wG {op:UnaryOp}{r:V->Hp->VK->Prop}(ho:UnR X (unaryOp op) r) (ha:PE X a ta):PE X (.UnaryOp op a pos) (tUn r ta):=by
 intro π s σ H Q I h;exact UnaryOp_ (thn (ha π s σ H _ I h) λ v s1 ⟨x,H1,I1,r1,q1⟩=>ho π s1 σ H1 x v Q I1 r1 q1)
theorem opI {f:Value->Value->Sem Value}{C:Int->Int->Prop}{g:Int->Int->Int}(rule:∀ (i j:Int) (t u:Tok) (s:Shared) (Q:zQ) (E:zQ),C i j->Q (.int (g i j) s.toks) { s with toks:=s.toks+1 }->wpAny (model X.prog X.w) X.A (f (.int i t) (.int j u)) Q E s) :
  OpR X f (rI C λ i j=>.int (g i j)):=by
 intro π s σ H x y v u Q I rx ry h;obtain⟨i,j,rfl,rfl,hc,q⟩:=h;obtain⟨t,rfl⟩:=rx;obtain⟨t',rfl⟩:=ry;exact rule i j t t' s _ _ hc ⟨.int (g i j),H,I.tok _,⟨_,rfl⟩,q⟩
theorem opI0 {f:Value->Value->Sem Value}{g:Int->Int->Int}(rule:∀ (i j:Int) (t u:Tok) (s:Shared) (Q:zQ) (E:zQ),Q (.int (g i j) s.toks) { s with toks:=s.toks+1 }->wpAny (model X.prog X.w) X.A (f (.int i t) (.int j u)) Q E s) :
  OpR X f (rI0 λ i j=>.int (g i j)):=by
 intro π s σ H x y v u Q I rx ry h;obtain⟨i,j,rfl,rfl,q⟩:=h;obtain⟨t,rfl⟩:=rx;obtain⟨t',rfl⟩:=ry;exact rule i j t t' s _ _ ⟨.int (g i j),H,I.tok _,⟨_,rfl⟩,q⟩
theorem opB0 {f:Value->Value->Sem Value}{g:Int->Int->Bool}(rule:∀ (i j:Int) (t u:Tok) (s:Shared) (Q:zQ) (E:zQ),Q (.bool (g i j)) s->wpAny (model X.prog X.w) X.A (f (.int i t) (.int j u)) Q E s) :
  OpR X f (rI0 λ i j=>.bl (g i j)):=by
 intro π s σ H x y v u Q I rx ry h;obtain⟨i,j,rfl,rfl,q⟩:=h;obtain⟨t,rfl⟩:=rx;obtain⟨t',rfl⟩:=ry;exact rule i j t t' s _ _ ⟨.bl (g i j),H,I,rfl,q⟩
def CDiv (i j:Int):Prop:=0<j/\j<1073741824
def CPow (i j:Int):Prop:=0<=j/\j<=1000000/\i.natAbs<2^64
def CMul (i j:Int):Prop:=(-(2^64)<i/\i<2^64)∨(-(2^64)<j/\j<2^64)
theorem CMul.ok {i j:Int}(h:CMul i j):IntMulOk i j:=by
 rcases h with ⟨h1,h2⟩ | ⟨h1,h2⟩
 ·exact .of_left (intBits_le_64 h1 h2)
 ·exact .of_right (intBits_le_64 h1 h2)
theorem Ys (k:Nat):(0:Int)<=2^k:=by
 rw[two_pow_cast];exact Int.natCast_nonneg _
theorem uI:OpR X (binaryOp .Add) (rI0 λ i j=>.int (i+j)):=opI0 λ _ _ _ _ _ _ _ q=>add_int q
theorem uJ:OpR X (binaryOp .Sub) (rI0 λ i j=>.int (i-j)):=opI0 λ _ _ _ _ _ _ _ q=>sub_int q
theorem nM:OpR X (binaryOp .FloorDiv) (rI CDiv λ i j=>.int (i/j)):=opI λ i j _ _ _ _ _ hc q=>by
 have h1:(0:Int)<j:=hc.1;have h2:j<1073741824:=hc.2;exact floordiv_int (by omega) (by rw[Int.fdiv_eq_ediv_of_nonneg i (by omega)];exact q) (.inl (PyProof.noPylong_small (by omega)))
theorem uK:OpR X (binaryOp .Mod) (rI (λ _ j=>0<j) λ i j=>.int (i%j)):=opI λ i j _ _ _ _ _ hc q=>by
 have h1:(0:Int)<j:=hc;exact mod_int' (by omega) (by rw[Int.fmod_eq_emod_of_nonneg i (by omega)];exact q)
theorem O5:OpR X (binaryOp .Pow) (rI CPow λ i j=>.int (i^j.toNat)):=opI λ _ _ _ _ _ _ _ hc q=>pow_int_small hc.1 hc.2.1 hc.2.2 q
theorem Yt:OpR X (binaryOp .RShift) (rI (λ _ j=>0<=j) λ i j=>.int (i/2^j.toNat)):=opI λ i j _ _ _ _ _ hc q=>
 rshift_int hc (by rw[Int.fdiv_eq_ediv_of_nonneg i (Ys _)];exact q)
theorem O6:OpR X (binaryOp .BitAnd) (rI0 λ i j=>.int (Builtin.bitAnd i j)):=opI0 λ _ _ _ _ _ _ _ q=>and_int q
theorem Z7:OpR X (binaryOp .BitOr) (rI0 λ i j=>.int (Builtin.bitOr i j)):=opI0 λ _ _ _ _ _ _ _ q=>or_int q
theorem uL:OpR X (binaryOp .BitXor) (rI0 λ i j=>.int (Builtin.bitXor i j)):=opI0 λ _ _ _ _ _ _ _ q=>xor_int q
theorem unI {f:Value->Sem Value}{g:Int->Int}(rule:∀ (i:Int) (t:Tok) (s:Shared) (Q:zQ) (E:zQ),Q (.int (g i) s.toks) { s with toks:=s.toks+1 }->wpAny (model X.prog X.w) X.A (f (.int i t)) Q E s) :
  UnR X f (rU λ i=>.int (g i)):=by
 intro π s σ H x v Q I rx h;obtain⟨i,rfl,q⟩:=h;obtain⟨t,rfl⟩:=rx;exact rule i t s _ _ ⟨.int (g i),H,I.tok _,⟨_,rfl⟩,q⟩
theorem uM:UnR X (unaryOp .USub) (rU λ i=>.int (-i)):=unI λ _ _ _ _ _ q=>neg_int q
end
def scal:V->V->Bool
 | .non,.non=>true | .non,.int _=>true | .int _,.non=>true | .non,.bl _=>true | .bl _,.non=>true | .non,.str _=>true | .str _,.non=>true
 | .int _,.int _=>true | .bl _,.bl _=>true | .str _,.str _=>true | .byt _,.byt _=>true
 | .int _,.str _=>true | .str _,.int _=>true | .bl _,.str _=>true | .str _,.bl _=>true
 | _,_=>false
def rEq:R2:=λ x y H Q=>scal x y=true/\Q (.bl (decide (x=y))) H
def rNe:R2:=λ x y H Q=>scal x y=true/\Q (.bl (!decide (x=y))) H
theorem Z8 {i j:Int}:decide (V.int i=V.int j)=(i==j):=by
 rw[z1L];simp
theorem gP {i j:Bool}:decide (V.bl i=V.bl j)=(i==j):=by
 rw[z1L];simp
theorem Z9 {i j:Str}:decide (V.str i=V.str j)=(i==j):=by
 rw[z1L];simp
theorem Z_ {i j:Array UInt8}:decide (V.byt i=V.byt j)=(i.toList==j.toList):=by
 rw[z1L];cases i;cases j;simp
section
variable {X:Cx}{a b c:Expr}{ta tb tc:TE}
theorem Bm {σ:St}{H:Hp}{Q:VK}{k k':Bool}(I:Inv X π σ H s) (q:Q (.bl k) H) (e:k=k'):EP X π σ Q (.bool k') s:=by
 subst e;exact⟨.bl k,H,I,rfl,q⟩
theorem wH:OpR X (compareOp .Eq) rEq:=by
 intro π s σ H x y v u Q I rx ry h;obtain⟨hs,q⟩:=h;cases x with
 | non=>
  cases rx;cases y with
  | non=>cases ry;exact PySem.EqNone.eq_none_none (Bm I q (by simp))
  | bl j=>cases ry;exact PySem.EqNone.eq_none_bool (Bm I q (by simp))
  | int j=>obtain⟨t',rfl⟩:=ry;exact PySem.EqNone.eq_none_int (Bm I q (by simp))
  | str j=>obtain⟨t',rfl⟩:=ry;exact PySem.EqNone.eq_none_str (Bm I q (by simp))
  | _=>exact absurd (show false=true from hs) z0j
 | bl i=>
  cases rx;cases y with
  | non=>cases ry;exact PySem.EqNone.eq_bool_none (Bm I q (by simp))
  | bl j=>cases ry;exact eq_bool (Bm I q gP)
  | str j=>obtain⟨t',rfl⟩:=ry;exact PySem.EqMixed.eq_bool_str (Bm I q (by simp))
  | _=>exact absurd (show false=true from hs) z0j
 | int i=>
  obtain⟨t,rfl⟩:=rx;cases y with
  | non=>cases ry;exact PySem.EqNone.eq_int_none (Bm I q (by simp))
  | int j=>obtain⟨t',rfl⟩:=ry;exact eq_int (Bm I q Z8)
  | str j=>obtain⟨t',rfl⟩:=ry;exact PySem.EqMixed.eq_int_str (Bm I q (by simp))
  | _=>exact absurd (show false=true from hs) z0j
 | str i=>
  obtain⟨t,rfl⟩:=rx;cases y with
  | non=>cases ry;exact PySem.EqNone.eq_str_none (Bm I q (by simp))
  | bl j=>cases ry;exact PySem.EqMixed.eq_str_bool (Bm I q (by simp))
  | int j=>obtain⟨t',rfl⟩:=ry;exact PySem.EqMixed.eq_str_int (Bm I q (by simp))
  | str j=>obtain⟨t',rfl⟩:=ry;exact eq_str (Bm I q Z9)
  | _=>exact absurd (show false=true from hs) z0j
 | byt i=>
  obtain⟨t,rfl⟩:=rx;cases y with
  | byt j=>obtain⟨t',rfl⟩:=ry;exact PySem.W.eq_bytes (Bm I q Z_)
  | _=>exact absurd (show false=true from hs) z0j
 | _=>cases y<;>exact absurd (show false=true from hs) z0j
theorem wI:OpR X (compareOp .NotEq) rNe:=by
 intro π s σ H x y v u Q I rx ry h;obtain⟨hs,q⟩:=h;cases x with
 | non=>
  cases rx;cases y with
  | non=>cases ry;exact PySem.EqNone.ne_none_none (Bm I q (by simp))
  | bl j=>cases ry;exact PySem.EqNone.ne_none_bool (Bm I q (by simp))
  | int j=>obtain⟨t',rfl⟩:=ry;exact PySem.EqNone.ne_none_int (Bm I q (by simp))
  | str j=>obtain⟨t',rfl⟩:=ry;exact PySem.EqNone.ne_none_str (Bm I q (by simp))
  | _=>exact absurd (show false=true from hs) z0j
 | bl i=>
  cases rx;cases y with
  | non=>cases ry;exact PySem.EqNone.ne_bool_none (Bm I q (by simp))
  | bl j=>cases ry;exact ne_bool (Bm I q (congrArg not gP))
  | str j=>obtain⟨t',rfl⟩:=ry;exact PySem.EqMixed.ne_bool_str (Bm I q (by simp))
  | _=>exact absurd (show false=true from hs) z0j
 | int i=>
  obtain⟨t,rfl⟩:=rx;cases y with
  | non=>cases ry;exact PySem.EqNone.ne_int_none (Bm I q (by simp))
  | int j=>obtain⟨t',rfl⟩:=ry;exact ne_int (Bm I q (congrArg not Z8))
  | str j=>obtain⟨t',rfl⟩:=ry;exact PySem.EqMixed.ne_int_str (Bm I q (by simp))
  | _=>exact absurd (show false=true from hs) z0j
 | str i=>
  obtain⟨t,rfl⟩:=rx;cases y with
  | non=>cases ry;exact PySem.EqNone.ne_str_none (Bm I q (by simp))
  | bl j=>cases ry;exact PySem.EqMixed.ne_str_bool (Bm I q (by simp))
  | int j=>obtain⟨t',rfl⟩:=ry;exact PySem.EqMixed.ne_str_int (Bm I q (by simp))
  | str j=>obtain⟨t',rfl⟩:=ry;exact ne_str (Bm I q (congrArg not Z9))
  | _=>exact absurd (show false=true from hs) z0j
 | byt i=>
  obtain⟨t,rfl⟩:=rx;cases y with
  | byt j=>obtain⟨t',rfl⟩:=ry;exact PySem.W.ne_bytes (Bm I q (congrArg not Z_))
  | _=>exact absurd (show false=true from hs) z0j
 | _=>cases y<;>exact absurd (show false=true from hs) z0j
theorem wJ:OpR X (compareOp .Lt) (rI0 λ i j=>.bl (decide (i<j))):=opB0 λ _ _ _ _ _ _ _ q=>lt_int q
theorem wK:OpR X (compareOp .Gt) (rI0 λ i j=>.bl (decide (j<i))):=opB0 λ _ _ _ _ _ _ _ q=>gt_int q
theorem wL:OpR X (compareOp .GtE) (rI0 λ i j=>.bl (decide (j<=i))):=opB0 λ _ _ _ _ _ _ _ q=>ge_int q
theorem dU:OpR X (compareOp .In) (λ x y H Q=>∃ i j,x=.str i/\y=.str j/\Q (.bl (!(Builtin.Str.occurrences j i 0 j.length 1).isEmpty)) H):=by
 intro π s σ H x y v u Q I rx ry h;obtain⟨i,j,rfl,rfl,q⟩:=h;obtain⟨t,rfl⟩:=rx;obtain⟨t',rfl⟩:=ry;exact in_str (Bm I q rfl)
theorem Vf:OpR X (compareOp .NotIn) (λ x y H Q=>∃ i j,x=.str i/\y=.str j/\Q (.bl (!(!(Builtin.Str.occurrences j i 0 j.length 1).isEmpty))) H):=by
 intro π s σ H x y v u Q I rx ry h;obtain⟨i,j,rfl,rfl,q⟩:=h;obtain⟨t,rfl⟩:=rx;obtain⟨t',rfl⟩:=ry;exact notIn_str (Bm I q rfl)
theorem OpR.or {f:Value->Value->Sem Value}{r r':R2}(h:OpR X f r) (h':OpR X f r'):OpR X f (λ x y H Q=>r x y H Q∨r' x y H Q):=by
 intro π s σ H x y v u Q I rx ry q
 rcases q with q | q
 ·exact h π s σ H x y v u Q I rx ry q
 ·exact h' π s σ H x y v u Q I rx ry q
theorem Kh (b:Expr) {op:CmpOp}(h:op≠.In:=by decide) (h2:op≠.NotIn:=by decide):behindInMarks op b=false:=by
 have e1:(op==CmpOp.In)=false:=by cases op<;>first | rfl | exact absurd rfl h
 have e2:(op==CmpOp.NotIn)=false:=by cases op<;>first | rfl | exact absurd rfl h2
 cases b<;>simp[behindInMarks,e1,e2]
theorem nO {op:CmpOp}{r:R2}(ho:OpR X (compareOp op) r) (ha:PE X a ta) (hb:PE X b tb) (hm:behindInMarks op b=false):PE X (.Compare a [op] [b] pos) (tOp r ta tb):=by
 intro π s σ H Q I h;exact wpAny_Compare1 (binT ha hb I h λ v u s2 x y H2 I2 rx ry q=>ho π s2 σ H2 x y v u Q I2 rx ry q) hm
def wN (t:TE):TT:=λ σ H Q=>t σ H λ x H'=>∃ k,x=.bl k/\Q k H'
theorem aA {op:CmpOp}{r:R2}(ho:OpR X (compareOp op) r) (ha:PE X a ta) (hb:PE X b tb) (hm:behindInMarks op b=false):PT X (.Compare a [op] [b] pos) (wN (tOp r ta tb)):=by
 intro π s σ H Q I h;refine wpAny_isTrue_Compare1 (thn (ha π s σ H _ I h) λ v s1 ⟨x,H1,I1,r1,q1⟩=>thn (hb π s1 σ H1 _ I1 q1) λ u s2 ⟨y,H2,I2,r2,q2⟩=>
  thn (ho π s2 σ H2 x y v u _ I2 r1 r2 q2) λ c s3 ⟨z,H3,I3,r3,k,e,q3⟩=>?_) hm
 subst e;cases r3;exact z1K ⟨H3,I3,q3⟩
def TruV (K:zFr) (x:V) (H:Hp) (k:Bool):Prop:=
 match x with
 | .non=>k=false
 | .bl b=>k=b
 | .int i=>k=(i != 0)
 | .str y=>y.length<=sizeLine/\k=((y.length:Int) != 0)
 | .byt y=>y.size<=sizeLine/\k=((y.size:Int) != 0)
 | .ref p=>(∃ xs,SqL K H p xs/\k=!xs.isEmpty)∨(∃ xs,SqT K H p xs/\k=!xs.isEmpty)∨∃ kvs,H p=some (.dK kvs)/\k=!kvs.isEmpty
 | _=>False
theorem Yu {κ:Type}{kvs:List (κ×V)}{vs:List (κ×Value)}(r:KV kvs vs):(!vs.isEmpty)=!kvs.isEmpty:=by
 cases r<;>rfl
theorem Rn {xs:List V}(r:Vals xs its):(!its.toArray.isEmpty)=!xs.isEmpty:=by
 cases r<;>simp
theorem O7:(sizeLine:Nat)<2^63:=by rw[sizeLine_eq];decide
theorem uN:TruR X (λ x H Q=>∃ k,TruV X.K x H k/\Q k H):=by
 intro π s σ H x v Q I rx h;obtain⟨k,e,q⟩:=h;have hl:=O7;have hs:sizeLine=16777216:=sizeLine_eq;cases x with
 | non=>
  cases rx;have e':k=false:=e;subst e';exact truthy_none ⟨H,I,q⟩
 | bl b=>
  cases rx;have e':k=b:=e;subst e';exact z1K ⟨H,I,q⟩
 | int i=>
  obtain⟨t,rfl⟩:=rx;have e':k=(i != 0):=e;subst e';exact PySem.P.truthy_int ⟨H,I,q⟩
 | str y=>
  obtain⟨t,rfl⟩:=rx;obtain⟨hy,e'⟩:y.length<=sizeLine/\k=((y.length:Int) != 0):=e;subst e';exact PySem.P.truthy_str (by omega) ⟨H,I.tok _,q⟩
 | byt y=>
  obtain⟨t,rfl⟩:=rx;obtain⟨hy,e'⟩:y.size<=sizeLine/\k=((y.size:Int) != 0):=e;subst e';exact PySem.W.truthy_bytes (by omega) ⟨H,I.tok _,q⟩
 | ref p=>
  cases rx;have e':(∃ xs,SqL X.K H p xs/\k=!xs.isEmpty)∨(∃ xs,SqT X.K H p xs/\k=!xs.isEmpty)∨∃ kvs,H p=some (.dK kvs)/\k=!kvs.isEmpty:=e
  rcases e' with ⟨xs,hx,e'⟩ | ⟨xs,hx,e'⟩ | ⟨kvs,hx,e'⟩
  ·subst e';obtain⟨its,r,pl,hz⟩:=I.list hx;have hlen:=r.length;exact wpAny_truthy_list pl.isList (by simp only[z0e];omega) ⟨H,I.tok _,by rw[Rn r];exact q⟩
  ·subst e';obtain⟨its,r,pl,hz⟩:=I.tuple hx;have hlen:=r.length;exact truthy_tuple pl (by simp only[z0e];omega) ⟨H,I.tok _,by rw[Rn r];exact q⟩
  ·subst e';obtain⟨hz,hS,vs,r,m⟩:kvs.length<=sizeLine/\(p==sysModules)=false/\∃ vs,KV kvs vs/\s.heap.DictOf (Bj X.prog X.w) p vs:=I.hok p _ hx;have hlen:kvs.length=vs.length:=Paired.length r;exact wpAny_truthy_dict hS m (by omega) ⟨H,I.tok _,by rw[Yu r];exact q⟩
 | _=>exact (show False from e).elim
theorem gQ (ha:PE X a ta) (he:∀ whole,isTrue a X.env whole=(do let v <-whole;standAt a.pos;holding [v] (truthy v))) :
  PT X a (λ σ H Q=>ta σ H λ x H'=>∃ k,TruV X.K x H' k/\Q k H'):=by
 intro π s σ H Q I h;exact isTrue_plain (thn (ha π s σ H _ I h) λ v s1 ⟨x,H1,I1,r1,q1⟩=>uN π s1 σ H1 x v Q I1 r1 q1) (he _)
theorem Yv:OpR X (binaryOp .Add) (λ x y H Q=>∃ i j,x=.str i/\y=.str j/\i.length+j.length<=sizeLine/\Q (.str (i++j)) H):=by
 intro π s σ H x y v u Q I rx ry h;obtain⟨i,j,rfl,rfl,hz,q⟩:=h;obtain⟨t,rfl⟩:=rx;obtain⟨t',rfl⟩:=ry;exact add_str (λ t' tk=>⟨.str (i++j),H,I.tok _,⟨_,rfl⟩,q⟩) hz
theorem vals1 {x:V}(r:Vals [x] us):∃ u,us=[u]/\RelV x u:=by
 cases r with
 | cons r1 r2=>cases r2;exact⟨_,rfl,r1⟩
theorem vals2 {x y:V}(r:Vals [x,y] us):∃ u w',us=[u,w']/\RelV x u/\RelV y w':=by
 cases r with
 | cons r1 r2=>
  cases r2 with
  | cons r3 r4=>cases r4;exact⟨_,_,rfl,r1,r3⟩
theorem O8 (hc:X.calm=true):Eb X (.builtin "max") (λ xs H Q=>∃ i j,xs=[.int i,.int j]/\Q (.int (if j > i then j else i)) H):=by
 intro π s σ H xs us Q I r h;obtain⟨i,j,rfl,q⟩:=h;obtain⟨u,w',rfl,⟨t,rfl⟩,⟨t',rfl⟩⟩:=vals2 r;refine max_two_ints (I.ok.hd hc) λ h' tk k=>⟨_,H,I.kept k,?_,q⟩
 by_cases hj:j > i
 ·rw[if_pos hj,if_pos hj];exact⟨_,rfl⟩
 ·rw[if_neg hj,if_neg hj];exact⟨_,rfl⟩
theorem dW (hc:X.calm=true):Eb X (.builtin "min") (λ xs H Q=>∃ i j,xs=[.int i,.int j]/\Q (.int (if j<i then j else i)) H):=by
 intro π s σ H xs us Q I r h;obtain⟨i,j,rfl,q⟩:=h;obtain⟨u,w',rfl,⟨t,rfl⟩,⟨t',rfl⟩⟩:=vals2 r;refine min_two_ints (I.ok.hd hc) λ h' tk k=>⟨_,H,I.kept k,?_,q⟩
 by_cases hj:j<i
 ·rw[if_pos hj,if_pos hj];exact⟨_,rfl⟩
 ·rw[if_neg hj,if_neg hj];exact⟨_,rfl⟩
def LenV (K:zFr) (x:V) (H:Hp) (n:Nat):Prop:=
 match x with
 | .str y=>y.length<=sizeLine/\n=y.length
 | .byt y=>y.size<=sizeLine/\n=y.size
 | .ref p=>(∃ xs,SqL K H p xs/\n=xs.length)∨∃ xs,SqT K H p xs/\n=xs.length
 | _=>False
theorem gR:Eb X (.builtin "len") (λ xs H Q=>∃ x n,xs=[x]/\LenV X.K x H n/\Q (.int n) H):=by
 intro π s σ H xs us Q I r h;obtain⟨x,n,rfl,e,q⟩:=h;obtain⟨u,rfl,rx⟩:=vals1 r;have hl:=O7;have hs:sizeLine=16777216:=sizeLine_eq;cases x with
 | str y=>
  obtain⟨t,rfl⟩:=rx;obtain⟨hy,e'⟩:y.length<=sizeLine/\n=y.length:=e;subst e';exact len_str (by omega) ⟨.int _,H,I.tok _,⟨_,rfl⟩,q⟩
 | byt y=>
  obtain⟨t,rfl⟩:=rx;obtain⟨hy,e'⟩:y.size<=sizeLine/\n=y.size:=e;subst e';exact PySem.W.len_bytes (by omega) ⟨.int _,H,I.tok _,⟨_,rfl⟩,q⟩
 | ref p=>
  cases rx;have e':(∃ xs,SqL X.K H p xs/\n=xs.length)∨∃ xs,SqT X.K H p xs/\n=xs.length:=e
  rcases e' with ⟨xs,hx,e'⟩ | ⟨xs,hx,e'⟩
  ·subst e';obtain⟨its,r',pl,hz⟩:=I.list hx;have hlen:=r'.length;exact Calls.call_len_list pl.isList (by simp only[z0e];omega) ⟨.int xs.length,H,I.tok _,⟨_,by simp only[z0e];rw[hlen]⟩,q⟩
  ·subst e';obtain⟨its,r',pl,hz⟩:=I.tuple hx;have hlen:=r'.length;exact len_tuple pl (by simp only[z0e];omega) ⟨.int xs.length,H,I.tok _,⟨_,by simp only[z0e];rw[hlen]⟩,q⟩
 | _=>exact (show False from e).elim
end
structure ObjM (h:Heap) (x dx C:Addr) (mA:Str->Option Value):Prop where
 obj:h.get? x=some (PySem.W.instObj C dx)
 ns:h.Ns1 dx mA
 ne:dx≠x
theorem Lb {dx:Addr}{mA:Str->Option Value}(n:h.Ns1 dx mA):∃ od,h.get? dx=some od/\∀ name,PySem.W.lookIn name od=some (mA name):=by
 obtain⟨o,es,ep,ho,hd,hk,_,hm⟩:=n;refine⟨o,ho,λ name=>?_⟩;have e:=hm name;unfold nsFind findBy at e;rw[<-Array.find?_toList] at e;unfold PySem.W.lookIn;rw[hd];dsimp only;split
 ·rename_i y q;rw[q] at e;exact congrArg some e
 ·rename_i q;rw[q] at e;have a:es.toList.any (·.refKey)=false:=by
   rw[List.any_eq_false];intro y hy;obtain⟨z,t,hkey⟩:=hk y (Array.mem_toList_iff.mp hy);simp[DictEntry.refKey,hkey]
  have a':¬ es.toList.any (·.refKey)=true:=by rw[a];exact z0j
  rw[if_neg a'];exact congrArg some e
theorem ObjM.look {x dx:Addr}{mA:Str->Option Value}(I:ObjM h x dx C mA):∃ od,PySem.W.InstAt h x (PySem.W.instObj C dx) C (some od)/\∀ name,PySem.W.lookIn name od=some (mA name):=
 let ⟨od,ho,hl⟩:=Lb I.ns
 ⟨od,⟨I.obj,rfl,rfl,ho⟩,hl⟩
section
variable {A:Around}{K:zFr}{x dx f:Addr}{mA:Str->Option Value}{name:Str}{v:Value}
theorem nP {expr:Bool}(X:K.In s.heap) (I:ObjM s.heap x dx C mA) (hg:PySem.W.plainGet K C name=true) (hh:PySem.W.hasDictIn K C=true)
  (ha:PySem.W.findIn K (.ref C) name=some none) (hv:mA name=some v) (hv':PySem.W.handedIn v=true) (h:Q v { s with toks:=s.toks+1 }) :
  wpAny (model prog w) A (getAttr (.ref x) name expr) Q E s:=by
 obtain⟨od,J,hl⟩:=I.look;exact PySem.W.get_value X J (PySem.W.plainGet_of hg).1 (PySem.W.findObj_own hh ha rfl (by rw[hl,hv])) hv' h
theorem nQ {Q:Unit->Shared->Prop}(X:K.In s.heap) (I:ObjM s.heap x dx C mA)
  (hs:PySem.W.findIn K (.ref C) "__setattr__"=some (some (.builtin "object.__setattr__"))) (hp:PySem.W.plainOver K C=true) (ht:PySem.W.takerIn K C name=some none) (hh:PySem.W.hasDictIn K C=true)
  (hw:PySem.Within mA ns) (hsz:ns.length<=sizeLine)
  (h:∀ h',ObjM h' x dx C (λ y=>if y=name then some v else mA y)->Heap.SameBut dx s.heap h'->Q () { s with heap:=h',toks:=s.toks+2 }) :
  wpAny (model prog w) A (setAttr (.ref x) name v) Q E s:=by
 obtain⟨od,J,hl⟩:=I.look;refine PySem.W.set_plain X J hs (PySem.W.osa_open (s:={ s with toks:=s.toks+1 }) (r:=none) X J hp ht λ b=>?_);obtain⟨cd,hc,hd'⟩:=PySem.W.any_some hh;have hx:s.heap.get? x=some ⟨.ref C,some dx,.plain,#[]⟩:=I.obj;refine z00 (z01 (z00 (z00 (wpAny_loadPart hx (z00 (PySem.W.Looks.here (s:={ s with toks:=s.toks+1 }) (PySem.W.looks_clsIn X hc) ?_))))));rw[hd'];refine z01 (a:=some dx) (z00 (z01 (z00 ?_)));refine wpAny_nsSet1 (s:={ s with toks:=s.toks+1 }) I.ns λ h' hn2 hs2=>?_;obtain⟨oD,esD,epD,hoD,hdD,hcD⟩:=hn2.count (PySem.Within.cons name v hw);refine z00 (wpAny_lookBehind hoD (by rw[hdD];exact pastItsLine_dict (z0a hcD (by rw[z0s];omega))) ?_);exact z01 (h _ ⟨(hs2.2 _ (Ne.symm I.ne)).trans I.obj,hn2,I.ne⟩ hs2)
theorem gU {R:Result->Shared->Prop}{vs:List Value}(X:K.In s.heap) (hm:PySem.W.makesIn K C=true)
  (hi:PySem.W.findIn K (.ref C) "__init__"=some (some (.ref f))) (hf:PySem.W.typeIn K (.ref f)=some (.type "function"))
  (h:codeAny (model prog w) (A.under (.builtin "type.__call__" ⟨.ref C::vs,kw⟩)) (.call (.ref f) ⟨.ref (s.heap.objs.size+1)::vs,kw⟩) (PySem.W.InitBack (s.heap.objs.size+1) R)
   { s with heap:=(s.heap.push PySem.W.emptyDict).push (PySem.W.instObj C s.heap.objs.size) }) :
  codeAny (model prog w) A (.call (.ref C) ⟨vs,kw⟩) R s:=by
 obtain⟨hh,g,d,t,os⟩:=s;exact PySem.W.make_core (PySem.W.makes_of X hm) (PySem.W.looks_findIn X hi) (λ self=>PySem.W.bind_fn X self hf) (.inl rfl) h
end
def putF (f:Str) (v:V):List (Str×V)->List (Str×V)
 | []=>[(f,v)]
 | (g,x)::r=>if g=f then (g,v)::r else (g,x)::putF f v r
theorem QW (f g:Str) (v:V):∀ fs:List (Str×V),(putF f v fs).lookup g=if g=f then some v else fs.lookup g
 | []=>by
  show List.lookup g [(f,v)]=_
  by_cases h:g=f
  ·have hb:(g==f)=true:=z0N.mpr h;simp only[List.lookup,hb,if_pos h]
  ·have hb:(g==f)=false:=z0y.mpr h;simp only[List.lookup,hb,if_neg h]
 | (k,x)::r=>by
  have ih:=QW f g v r;rw[show putF f v ((k,x)::r)=(if k=f then (k,v)::r else (k,x)::putF f v r) from rfl]
  by_cases hk:k=f
  ·rw[if_pos hk]
   by_cases h:g=k
   ·have hb:(g==k)=true:=z0N.mpr h;simp only[List.lookup,hb,if_pos (h.trans hk)]
   ·have hb:(g==k)=false:=z0y.mpr h;simp only[List.lookup,hb,if_neg (λ e:g=f=>h (e.trans hk.symm))]
  ·rw[if_neg hk]
   by_cases h:g=k
   ·have hb:(g==k)=true:=z0N.mpr h;simp only[List.lookup,hb,if_neg (λ e:g=f=>hk (h.symm.trans e))]
   ·have hb:(g==k)=false:=z0y.mpr h;simp only[List.lookup,hb];exact ih
theorem O9 (f:Str) (v:V):∀ fs:List (Str×V),f∈(putF f v fs).map (·.1)/\∀ g,g∈fs.map (·.1)->g∈(putF f v fs).map (·.1)
 | []=>⟨by simp[putF],λ g h=>by simp at h⟩
 | (k,x)::r=>by
  obtain⟨i1,i2⟩:=O9 f v r;rw[show putF f v ((k,x)::r)=(if k=f then (k,v)::r else (k,x)::putF f v r) from rfl]
  by_cases hk:k=f
  ·rw[if_pos hk];subst hk;exact⟨by simp,λ g h=>by simpa using h⟩
  ·rw[if_neg hk];refine⟨?_,λ g h=>?_⟩
   ·rw[z03];exact z0b _ i1
   ·rw[z03] at h ⊢
    rcases z0d.mp h with e | e
    ·exact z0d.mpr (.inl e)
    ·exact z0b _ (i2 g e)
theorem QX (f:Str) (v:V):∀ fs:List (Str×V),(putF f v fs).length<=fs.length+1
 | []=>by simp[putF]
 | (k,x)::r=>by
  have ih:=QX f v r;rw[show putF f v ((k,x)::r)=(if k=f then (k,v)::r else (k,x)::putF f v r) from rfl]
  by_cases hk:k=f
  ·rw[if_pos hk,z0s,z0s];omega
  ·rw[if_neg hk,z0s,z0s];omega
theorem RelO.some_of {v:V}{o:Option Value}(r:RelO (some v) o):∃ u,o=some u/\RelV v u:=by
 cases o with
 | none=>exact (show False from r).elim
 | some u=>exact⟨u,rfl,r⟩
theorem Ui {v:V}(r:RelV v u):PySem.W.handedIn u=true:=by
 cases v with
 | non=>cases (show u=Value.none from r);rfl
 | bl b=>cases (show u=Value.bool b from r);rfl
 | int i=>obtain⟨t,e⟩:=(show ∃ t,u=Value.int i t from r);cases e;rfl
 | str x=>obtain⟨t,e⟩:=(show ∃ t,u=Value.str x t from r);cases e;rfl
 | byt b=>obtain⟨t,e⟩:=(show ∃ t,u=Value.bytes b t from r);cases e;rfl
 | flt b=>obtain⟨t,e⟩:=(show ∃ t,u=Value.float b t from r);cases e;rfl
 | ref a=>cases (show u=Value.ref a from r);rfl
 | ty n=>cases (show u=Value.type n from r);rfl
section
variable {H H':Hp}{dx:Addr}{fs fs':List (Str×V)}
theorem Vg (hok:HOk P w H h) (e:H a=some (.ins C dx fs)):∃ mA,ObjM h a dx C mA/\(∀ f,RelO (fs.lookup f) (mA f))/\PySem.Within mA (fs.map (·.1))/\fs.length<=1000/\H dx=some (.own a):=by
 obtain⟨d,z,ne,ob,mA,n,r,q⟩:=(show Bt P w H h a (.ins C dx fs) from hok a _ e);exact⟨mA,⟨ob,n,ne⟩,r,q,z,d⟩
end
structure Cls (K:zFr) (C:Addr):Prop where
 pg:PySem.W.plainGet K C Str.empty=true
 hd:PySem.W.hasDictIn K C=true
 po:PySem.W.plainOver K C=true
 sa:PySem.W.findIn K (.ref C) "__setattr__"=some (some (.builtin "object.__setattr__"))
theorem Cls.get {K:zFr}(c:Cls K C) (f:Str):PySem.W.plainGet K C f=true:=c.pg
def BX (K:zFr) (C:Addr) (f:Str):Prop:=PySem.W.findIn K (.ref C) f=some none
theorem BX.taker {K:zFr}(n:BX K C f):PySem.W.takerIn K C f=some none:=by
 unfold PySem.W.takerIn;rw[show PySem.W.findIn K (.ref C) f=some none from n];rfl
structure Meth (K:zFr) (C:Addr) (m:Str) (f:Addr):Prop where
 at_:PySem.W.findIn K (.ref C) m=some (some (.ref f))
 fn:PySem.W.isFn K (.ref f)=true
 kp:PySem.W.keepIn K (.ref f)=true
section
variable {X:Cx}{σ:St}{H:Hp}{dx:Addr}{fs:List (Str×V)}{v:V}{A:Around}
theorem Yw {b:Bool}(I:Inv X π σ H s) (e:H a=some (.ins C dx fs)) (c:Cls X.K C) (n:BX X.K C f) (l:fs.lookup f=some v)
  (h:∀ u s',Inv X π σ H s'->RelV v u->Q u s'):wpAny (model X.prog X.w) A (getAttr (.ref a) f b) Q E s:=by
 obtain⟨mA,O,r,_,_,_⟩:=Vg I.hok e;obtain⟨u,hu,ru⟩:=RelO.some_of (v:=v) (o:=mA f) (by rw[<-l];exact r f);exact nP I.kIn O (c.get f) c.hd n hu (Ui ru) (h u _ (I.tok _) ru)
theorem Yx {y:V}{Q:Unit->Shared->Prop}(I:Inv X π σ H s) (e:H a=some (.ins C dx fs)) (c:Cls X.K C) (n:BX X.K C f) (hl:fs.length<1000) (ry:RelV y u)
  (h:∀ s',Inv X π σ (upd H a (.ins C dx (putF f y fs))) s'->Q () s'):wpAny (model X.prog X.w) A (setAttr (.ref a) f u) Q E s:=by
 obtain⟨mA,O,r,wi,_,ho⟩:=Vg I.hok e;have hz:(fs.map (·.1)).length<=sizeLine:=by rw[z02,sizeLine_eq];omega
 refine nQ I.kIn O c.sa c.po n.taker c.hd wi hz λ h' O' sb=>h _ ?_;have hd:∃ o,h'.get? dx=some o:=let ⟨o,_,_,e',_⟩:=O'.ns;⟨o,e'⟩;refine I.write (x:=a) (e:=dx) (by rw[e];exact True.intro) (.inr ho) (λ b q hb z=>(sb.2 b hb).trans z) hd ?_;refine⟨by rw[Al O.ne];exact ho,?_,O.ne,O'.obj,_,O'.ns,λ g=>?_,λ g hg=>?_⟩
 ·have:=QX f y fs;omega
 ·show RelO ((putF f y fs).lookup g) (if g=f then some u else mA g);rw[QW]
  by_cases q:g=f
  ·rw[if_pos q,if_pos q];exact ry
  ·rw[if_neg q,if_neg q];exact r g
 ·by_cases q:g=f
  ·rw[q];exact (O9 f y fs).1
  ·refine (O9 f y fs).2 g (wi g λ z=>hg ?_);show (if g=f then some u else mA g)=none;rw[if_neg q];exact z
theorem Inv.made (I:Inv X π σ H s):Inv X π σ (upd (upd H s.heap.objs.size (.own (s.heap.objs.size+1))) (s.heap.objs.size+1) (.ins C s.heap.objs.size []))
  { s with heap:=(s.heap.push PySem.W.emptyDict).push (PySem.W.instObj C s.heap.objs.size) }:=by
 have e1:(s.heap.push PySem.W.emptyDict).get? s.heap.objs.size=some PySem.W.emptyDict:=z0f s.heap rfl;have e2:((s.heap.push PySem.W.emptyDict).push (PySem.W.instObj C s.heap.objs.size)).get? (s.heap.objs.size+1)=some (PySem.W.instObj C s.heap.objs.size):=by
  have:=z0f (s.heap.push PySem.W.emptyDict) (o:=PySem.W.instObj C s.heap.objs.size) rfl
  rwa [z13] at this
 have e3:(s.heap.push PySem.W.emptyDict).Ns s.heap.objs.size (λ _=>none):=⟨PySem.W.emptyDict,#[],_,e1,rfl,(λ e he=>absurd he (by simp)),λ _=>rfl⟩;have I1:=I.laid (a:=s.heap.objs.size) (o:=.own (s.heap.objs.size+1)) (h':=s.heap.push PySem.W.emptyDict) (t':=s.toks) (λ b u q=>z05 _ q) (z04 _) ⟨_,e1⟩;refine I1.laid (a:=s.heap.objs.size+1) (o:=.ins C s.heap.objs.size []) (t':=s.toks) (λ b u q=>z05 _ q) (Nat.le_of_eq (z13 _ _)) ?_;have ne:s.heap.objs.size≠s.heap.objs.size+1:=z08 (z1M _);refine⟨by rw[Al ne,Ai],z0P _,ne,e2,λ _=>none,(Heap.Ns1.of_empty e3).at λ o q=>z05 _ q,λ _=>True.intro,λ y hy=>absurd rfl hy⟩
theorem aB (hb:attributeBase e f env (eval e env)=eval e env)
  (h:wpAny (model prog w) A (eval e env) (λ o s₁=>wpAny (model prog w) A (getAttr o f true) Q E s₁) E s):wpAny (model prog w) A (eval (.Attribute e f pos) env) Q E s:=
 Attribute_any_ h (by rw[arm_eval_Attribute,hb])
end
def tFld (K:zFr) (ta:TE) (f:Str):TE:=λ σ H Q=>ta σ H λ x H1=>∃ a C dx fs v,x=.ref a/\H1 a=some (.ins C dx fs)/\Cls K C/\BX K C f/\fs.lookup f=some v/\Q v H1
def sFld (K:zFr) (ta tv:TE) (f:Str):TS:=λ D σ H=>tv σ H λ y H1=>ta σ H1 λ x H2=>∃ a C dx fs,x=.ref a/\H2 a=some (.ins C dx fs)/\Cls K C/\BX K C f/\fs.length<1000 ∧
 D.nx σ (upd H2 a (.ins C dx (putF f y fs)))
section
variable {X:Cx}{o value:Expr}{tpos:Pos}{ta tv:TE}
theorem Yy (he:PE X e ta) (hb:attributeBase e f X.env (eval e X.env)=eval e X.env):PE X (.Attribute e f pos) (tFld X.K ta f):=by
 intro π s σ H Q I h;refine aB hb (thn (he π s σ H _ I h) λ u s1 ⟨x,H1,I1,rx,a,C,dx,fs,v,ex,ea,c,n,l,q⟩=>?_);subst ex;obtain rfl:u=Value.ref a:=rx;exact Yw I1 ea c n l λ u' s2 I2 ru=>⟨v,H1,I2,ru,q⟩
theorem gW (ha:PE X o ta) (hv:PE X value tv) (hs:swapsWith value (some (.Attribute o f pos')) pos.line X.env=pure false):PS X (.Assign [.Attribute o f pos'] value pos) (sFld X.K ta tv f):=by
 intro π s σ H D I h;refine plainObj_wpAny_Assign_Attribute (thn (hv π s σ H _ I h) λ u s1 ⟨y,H1,I1,ry,q⟩=>thn (ha π s1 σ H1 _ I1 q) λ ov s2 ⟨x,H2,I2,rx,a,C,dx,fs,ex,ea,c,n,l,q2⟩=>?_) hs;subst ex;obtain rfl:ov=Value.ref a:=rx;exact Yx I2 ea c n l ry λ s3 I3=>⟨σ,_,I3,q2⟩
def rAdd:V->V->Hp->VK->Prop:=λ x y H Q=>∃ i j,x=.int i/\y=.int j/\Q (.int (i+j)) H
end
section
variable {X:Cx}{σ:St}{H:Hp}{A:Around}{c:Value}{b:Bool}
inductive TyOf (K:zFr) (H:Hp):V->Value->Prop where
  | non:TyOf K H .non (.type "NoneType")
  | bl (x:Bool):TyOf K H (.bl x) (.type "bool")
  | int (i:Int):TyOf K H (.int i) (.type "int")
  | str (x:Str):TyOf K H (.str x) (.type "str")
  | flt (x:UInt64):TyOf K H (.flt x) (.type "float")
  | lst {a:Addr}{xs:List V}(e:H a=some (.lst xs)):TyOf K H (.ref a) (.type "list")
  | frz {a:Addr}{o:Obj}{xs:List V}(e:H a=some (.frz o (.lst xs))):TyOf K H (.ref a) (.type "list")
  | tup {a:Addr}{xs:List V}(e:H a=some (.tup xs)):TyOf K H (.ref a) (.type "tuple")
  | dK {a:Addr}{kvs:List (Key×V)}(e:H a=some (.dK kvs)):TyOf K H (.ref a) (.type "dict")
  | dT {a:Addr}{kvs:List (List Key×V)}(e:H a=some (.dT kvs)):TyOf K H (.ref a) (.type "dict")
  | ins {a C dx:Addr}{fs:List (Str×V)}(e:H a=some (.ins C dx fs)) (cl:Cls K C) (ha:PySem.W.findIn K (.ref C) "__class__"=some (some (.builtin "object.__class__")))
      (hn:PySem.W.specialIn K (.builtin "object.__class__") "__get__"=some (some (.builtin "getset_descriptor.__get__"))) (htk:PySem.W.takesIn K (.builtin "object.__class__")=some true)
      (hm:PySem.W.mroIn K C (.type "object")=some true):TyOf K H (.ref a) (.ref C)
theorem dX {x:V}{t:Value}(I:Inv X π σ H s) (rx:RelV x u) (ty:TyOf X.K H x t) (e:PySem.W.kitOne X.K t c=some b) (h:∀ tk,Q (.bool b) { s with toks:=tk }) :
  wpAny (model X.prog X.w) A (call (.builtin "isinstance") [u,c]) Q E s:=by
 cases ty with
 | non=>cases (show u=Value.none from rx);exact z0G PySem.W.kitx_none I.kIn True.intro e (λ z=>nomatch z) h
 | bl y=>cases (show u=Value.bool y from rx);exact z0G PySem.W.kitx_bool I.kIn True.intro e (λ z=>nomatch z) h
 | int i=>obtain⟨t,q⟩:=(show ∃ t,u=Value.int i t from rx);cases q;exact z0G PySem.W.kitx_int I.kIn True.intro e (λ z=>nomatch z) h
 | str y=>obtain⟨t,q⟩:=(show ∃ t,u=Value.str y t from rx);cases q;exact z0G PySem.W.kitx_str I.kIn True.intro e (λ z=>nomatch z) h
 | flt y=>obtain⟨t,q⟩:=(show ∃ t,u=Value.float y t from rx);cases q;exact z0G PySem.W.kitx_float I.kIn True.intro e (λ z=>nomatch z) h
 | @lst a xs ea=>
  cases (show u=Value.ref a from rx);obtain⟨_,_,n,_,h1⟩:=(show Bt X.prog X.w H s.heap a (.lst xs) from I.hok a _ ea);exact z0G PySem.W.kitx_list I.kIn ⟨_,h1,rfl⟩ e (λ z=>nomatch z) h
 | @frz a ob xs ea=>
  cases (show u=Value.ref a from rx);obtain⟨_,_,_,n,_,h1⟩:=(show Bt X.prog X.w H s.heap a (.frz ob (.lst xs)) from I.hok a _ ea);exact z0G PySem.W.kitx_list I.kIn ⟨_,h1,rfl⟩ e (λ z=>nomatch z) h
 | @tup a xs ea=>
  cases (show u=Value.ref a from rx);obtain⟨_,_,_,p⟩:=(show Bt X.prog X.w H s.heap a (.tup xs) from I.hok a _ ea);obtain⟨o,h1,h2,_⟩:=p;exact z0G PySem.W.kitx_tuple I.kIn ⟨o,h1,h2⟩ e (λ z=>nomatch z) h
 | @dK a kvs ea=>
  cases (show u=Value.ref a from rx);obtain⟨_,_,vs,_,p⟩:=(show Bt X.prog X.w H s.heap a (.dK kvs) from I.hok a _ ea);obtain⟨o,es,ep,h1,h2,_⟩:=p;exact z0G PySem.W.kitx_dict I.kIn ⟨o,h1,h2.1⟩ e (λ z=>nomatch z) h
 | @dT a kvs ea=>
  cases (show u=Value.ref a from rx);obtain⟨_,_,xs,_,o,es,ep,h1,h2,_⟩:=(show Bt X.prog X.w H s.heap a (.dT kvs) from I.hok a _ ea);exact z0G PySem.W.kitx_dict I.kIn ⟨o,h1,h2.1⟩ e (λ z=>nomatch z) h
 | @ins a C dx fs ea cl ha hn htk hm=>
  cases (show u=Value.ref a from rx);obtain⟨mA,O,_⟩:=Vg I.hok ea;obtain⟨od,J,_⟩:=O.look;exact z0G (PySem.W.kitx_own (cl.get _) cl.hd ha hn htk hm) I.kIn J e (λ z=>nomatch z) h
end
structure Room (k:Nat) (A:Around):Prop where
 hd:A.handled=none
 dp:A.depth+3*k+5<recursionLimit
 un:A.units+16*k+200<cLine
theorem Room.mono {k:Nat}{A:Around}(r:Room k A) (h:j<=k):Room j A:=⟨r.hd,by have:=r.dp;omega,by have:=r.un;omega⟩
theorem Room.deeper {k:Nat}{A:Around}(r:Room (k+1) A) (env:Env):Room k (A.deeper env):=
 ⟨r.hd,by have:=r.dp;show A.depth+1+3*k+5<_;omega,by have:=r.un;show A.units+3+16*k+200<_;omega⟩
theorem Yz {A:Around}:(A.under (.builtin "type.__call__" ⟨.ref C::us,kw⟩)).depth=A.depth+1:=by
 first | rfl | simp[Around.under,Code.weight,Code.isCreation,Code.isGuard,Code.isCaller,Code.frames,Code.isFrame,guardIds]
theorem Y0 {A:Around}:(A.under (.builtin "type.__call__" ⟨.ref C::us,kw⟩)).units=A.units+1:=by
 first | rfl | simp[Around.under,Code.cUnits,Code.frames,Code.isFrame]
theorem Room.make {k:Nat}{A:Around}(r:Room (k+1) A) (C:Addr) (us:List Value) (kw:List (Str×Value)):Room k (A.under (.builtin "type.__call__" ⟨.ref C::us,kw⟩)):=
 ⟨r.hd,by have:=r.dp;rw[Yz];omega,by have:=r.un;rw[Y0];omega⟩
theorem Room.depth {k:Nat}{A:Around}(r:Room k A):A.depth<recursionLimit:=by have:=r.dp;omega
theorem Room.units {k:Nat}{A:Around}(r:Room k A):A.units+64<cLine:=by have:=r.un;omega
def tNil:TA:=λ _ H Q=>Q [] H
def QZ (ta:TE) (tr:TA):TA:=λ σ H Q=>ta σ H λ x H1=>tr σ H1 λ xs H2=>Q (x::xs) H2
section
variable {X:Cx}{es:List Expr}{te:TE}{t:TA}
theorem Cz:PA X [] tNil:=λ _ _ _ _ H Q I h=>Calls.spliced_nil ⟨[],H,I,.nil,h⟩
theorem BZ (ha:PE X e te) (hr:PA X es t) (hs:starEach (e::es) X.env=(false,eval e X.env)::starEach es X.env:=by rfl):PA X (e::es) (QZ te t):=by
 intro pos π s σ H Q I h;rw[hs];show wpAny _ _ (spliced ((false,eval e X.env)::backTo pos (starEach es X.env))) _ _ s;refine Calls.spliced_cons (thn (ha π s σ H _ I h) λ u s1 ⟨x,H1,I1,r1,q1⟩=>?_);exact thn (hr pos π s1 σ H1 _ I1 q1) λ us s2 ⟨xs,H2,I2,r2,q2⟩=>⟨x::xs,H2,I2,.cons r1 r2,q2⟩
def tTup (t:TA):TE:=λ σ H Q=>t σ H λ xs H1=>xs.length<=sizeLine/\∀ p,H1 p=none->Q (.ref p) (upd H1 p (.tup xs))
def tLst (t:TA):TE:=λ σ H Q=>t σ H λ xs H1=>xs.length<=sizeLine/\∀ p,H1 p=none->Q (.ref p) (upd H1 p (.lst xs))
theorem Y4 {x1} (h:PA X es t):PE X (.Tuple es x1 pos) (tTup t):=by
 intro π s σ H Q I hq;refine wpAny_Tuple_spliced (thn (h pos π s σ H _ I hq) λ us s1 ⟨xs,H1,I1,r,z,q⟩=>⟨by rw[<-r.length];exact z,?_⟩);have hf:H1 s1.heap.objs.size=none:=I1.hok.fresh (z04 _);refine⟨.ref s1.heap.objs.size,upd H1 s1.heap.objs.size (.tup xs),I1.laid (t':=s1.toks) (λ b u e=>z05 _ e) (z04 _) ?_,rfl,q _ hf⟩;exact⟨z,us,r,⟨_,z0f _ rfl,rfl,_,rfl⟩⟩
theorem gY (h:PA X es t):PE X (.List es pos) (tLst t):=by
 intro π s σ H Q I hq;refine wpAny_List_spliced (thn (h pos π s σ H _ I hq) λ us s1 ⟨xs,H1,I1,r,z,q⟩=>⟨by rw[<-r.length];exact z,?_⟩);have hf:H1 s1.heap.objs.size=none:=I1.hok.fresh (z04 _);refine⟨.ref s1.heap.objs.size,upd H1 s1.heap.objs.size (.lst xs),I1.laid (t':=s1.toks) (λ b u e=>z05 _ e) (z04 _) ?_,rfl,q _ hf⟩;exact⟨z,us,0,r,z0f _ rfl⟩
end
abbrev Sp:=List V->Hp->VK->XK->Prop
abbrev CXT:=List Env->Hp->Shared->XK->Value->Shared->Prop
structure Env0 (P:Program) (w:World) (K:zFr) (mg:Str->Option Value) (base:Heap) (A:Around) (outer:List Env) (s:Shared) (H:Hp):Prop where
 frames:A.frames=some outer
 mod:Mod K mg base
 bs:∀ b o,base.get? b=some o->s.heap.get? b=some o/\H b=none
 bsz:base.objs.size<=s.heap.objs.size
 funs:s.heap.FunFrames base outer
 frf:∀ b∈frs outer,H b=none
 hok:HOk P w H s.heap
 bare:AllBare s.gens
def CE (outer:List Env) (P:Program) (w:World) (H:Hp) (s:Shared) (Q:VK) (u:Value) (s':Shared):Prop:=
 ∃ v H',s'.os=s.os/\AllBare s'.gens/\Un (frs outer) [] H H' s.heap s'.heap/\HOk P w H' s'.heap/\RelV v u/\Q v H'
def CR (CX:CXT) (outer:List Env) (P:Program) (w:World) (H:Hp) (s:Shared) (Q:VK) (E:XK) (r:Result) (s':Shared):Prop:=
 match r with
 | .ok (.ret u)=>CE outer P w H s Q u s'
 | .ok _=>False
 | .error e=>CX outer H s E e s'
structure FnOk (P:Program) (w:World) (K:zFr) (mg:Str->Option Value) (base:Heap) (CX:CXT) (k:Nat) (f:Addr) (fd:FuncData) (ps:List Str) (sp:Sp):Prop where
 len:∀ vs H Q E,sp vs H Q E->vs.length=ps.length
 run:∀ (A:Around) (outer:List Env) (s:Shared) (H:Hp) (args:Args) (us:List Value) (vs:List V) (Q:VK) (E:XK),Room k A->Env0 P w K mg base A outer s H->BindsTo s fd args (ps.zip us)->Vals vs us->sp vs H Q E ->
  codeAny (model P w) A (.call (.ref f) args) (CR CX outer P w H s Q E) s
theorem FnOk.mono {P:Program}{w:World}{K:zFr}{mg:Str->Option Value}{base:Heap}{CX:CXT}{j k:Nat}{f:Addr}{fd:FuncData}{ps:List Str}{sp:Sp}(F:FnOk P w K mg base CX j f fd ps sp) (h:j<=k) :
  FnOk P w K mg base CX k f fd ps sp:=⟨F.len,λ A outer s H args us vs Q E hr=>F.run A outer s H args us vs Q E (hr.mono h)⟩
theorem FnOk.imp {K:zFr}{base:Heap}{CX:CXT}{k:Nat}{f:Addr}{sp sp':Sp}(F:FnOk P w K mg base CX k f fd ps sp)
  (h:∀ vs H Q E,sp' vs H Q E->sp vs H Q E):FnOk P w K mg base CX k f fd ps sp':=
 ⟨λ vs H Q E q=>F.len vs H Q E (h _ _ _ _ q),λ A outer s H args us vs Q E hr he hb hv hs=>F.run A outer s H args us vs Q E hr he hb hv (h _ _ _ _ hs)⟩
theorem Env0.make {K:zFr}{base:Heap}{A:Around}{H:Hp}(e:Env0 P w K mg base A outer s H) (C:Addr) (us:List Value) (kw:List (Str×Value)) :
  Env0 P w K mg base (A.under (.builtin "type.__call__" ⟨.ref C::us,kw⟩)) outer s H:=⟨by first | exact e.frames | (simpa [Around.under,Code.envs,Code.isFrame,pushEnvs] using e.frames),e.mod,e.bs,e.bsz,e.funs,e.frf,e.hok,e.bare⟩
section
variable {X:Cx}{σ:St}{H:Hp}
theorem Inv.env0 (I:Inv X π σ H s):Env0 X.prog X.w X.K X.mg X.base X.A X.stack s H:=
 ⟨I.ok.frames,I.ok.mod,I.bs,z0a I.ok.bsz I.sz,I.stack,I.stkFree,I.hok,I.bare⟩
theorem Inv.after {Q:VK}(I:Inv X π σ H s) (h:CE X.stack X.prog X.w H s Q u s'):EP X π σ Q u s':=by
 obtain⟨v,H',os,bare,un,hok,r,q⟩:=h;obtain⟨hh,g,d,t,os'⟩:=s';obtain rfl:os'=s.os:=os;exact⟨v,H',I.call (h':=hh) (g':=g) (d':=d) (t':=t) (ch:=[]) un hok bare (λ b z=>absurd z (by simp)),r,q⟩
end
def wO (sp:Sp) (dvs:List V) (E:XK) (t:TA):TE:=λ σ H Q=>t σ H λ vs H1=>sp (vs++dvs) H1 Q E
def wQ (C:Addr) (sp:Sp) (dvs:List V) (E:XK) (t:TA):TE:=λ σ H Q=>t σ H λ vs H1=>∀ x dx,H1 x=none->H1 dx=none->dx≠x ->
 sp (.ref x::(vs++dvs)) (upd (upd H1 dx (.own x)) x (.ins C dx [])) (λ v H2=>v=.non/\Q (.ref x) H2) E
def Binds (K:zFr) (fd:FuncData) (ps:List Str) (ds:List Value):Prop:=
 ∀ (s:Shared) (us:List Value),K.In s.heap->(us++ds).length=ps.length->BindsTo s fd ⟨us,[]⟩ (ps.zip (us++ds))
theorem Binds.all {K:zFr}(h:∀ us:List Value,us.length=ps.length->bindArgs fd ⟨us,[]⟩=pure (ps.zip us)):Binds K fd ps []:=λ s us _ hl=>by
 rw[z0t] at hl ⊢;exact .of_eq (h us hl)
def Ro (CX:CXT) (X:Cx) (E:XK):Prop:=∀ (π:zP) (σ:St) (H:Hp) (s:Shared) (e:Value) (s':Shared),Inv X π σ H s->CX X.stack H s E e s'->X.xe e s'
section
variable {X:Cx}{CX:CXT}{k:Nat}{f:Addr}{sp:Sp}{dvs:List V}{ds:List Value}{E:XK}{x m:Str}{p:Pos}{o:Expr}{es:List Expr}{ta:TE}{t:TA}
theorem uO {σ:St}{H:Hp}{Q:VK}{vs:List V}(F:FnOk X.prog X.w X.K X.mg X.base CX k f fd ps sp) (hr:Room k X.A) (hb:Binds X.K fd ps ds) (hd:Vals dvs ds) (hx:Ro CX X E)
  (I:Inv X π σ H s) (r:Vals vs us) (h:sp (vs++dvs) H Q E):wpAny (model X.prog X.w) X.A (call (.ref f) us) (EP X π σ Q) X.xe s:=by
 have r2:Vals (vs++dvs) (us++ds):=r.append hd;have hl:(us++ds).length=ps.length:=by rw[<-r2.length];exact F.len _ _ _ _ h
 refine z14 (z0O (F.run X.A X.stack s H ⟨us,[]⟩ (us++ds) (vs++dvs) Q E hr I.env0 (hb s us I.kIn hl) r2 h) λ r s' hq=>?_);cases r with
 | error e=>exact hx π σ H s e s' I hq
 | ok fl=>
  cases fl with
  | ret u=>exact I.after hq
  | next=>exact False.elim hq
  | brk=>exact False.elim hq
  | cont=>exact False.elim hq
theorem aC (F:FnOk X.prog X.w X.K X.mg X.base CX k f fd ps sp) (hr:Room k X.A) (hg:Gl X x) (hm:X.mg x=some (.ref f)) (hk:PySem.W.keepIn X.K (.ref f)=true) (hb:Binds X.K fd ps ds) (hd:Vals dvs ds) (hx:Ro CX X E)
  (ha:PA X (e::es) t) (hdb:(x==("__debug__":Str))=false:=by decide) (he:starEach (e::es) X.env=(false,eval e X.env)::starEach es X.env:=by rfl) (hpl:(backTo pos (starEach es X.env)).any (·.1)=false:=by rfl) :
  PE X (.Call (.Name x p) (e::es) [] pos) (wO sp dvs E t):=by
 intro π s σ H Q I h;refine z15 (GF I hg hm ?_ hdb);refine z1h (h₀:=X.base) I.ok.mod.kin hk (thn (ha pos π s σ H _ I h) λ us s1 ⟨vs,H1,I1,r,q⟩=>⟨I1.kIn,?_⟩) he hpl;exact uO F hr hb hd hx I1 r q
structure Mk (K:zFr) (C f:Addr):Prop where
 makes:PySem.W.makesIn K C=true
 init:PySem.W.findIn K (.ref C) "__init__"=some (some (.ref f))
 fn:PySem.W.isFn K (.ref f)=true
 kp:PySem.W.keepIn K (.ref C)=true
theorem gZ {σ:St}{H:Hp}{Q:VK}{vs:List V}(M:Mk X.K C f) (F:FnOk X.prog X.w X.K X.mg X.base CX k f fd ps sp) (hr:Room (k+1) X.A) (hb:Binds X.K fd ps ds) (hd:Vals dvs ds)
  (hx:Ro CX X E) (I:Inv X π σ H s) (r:Vals vs us)
  (h:∀ x dx,H x=none->H dx=none->dx≠x->sp (.ref x::(vs++dvs)) (upd (upd H dx (.own x)) x (.ins C dx [])) (λ v H2=>v=.non/\Q (.ref x) H2) E) :
  wpAny (model X.prog X.w) X.A (call (.ref C) us) (EP X π σ Q) X.xe s:=by
 have hq:=h (s.heap.objs.size+1) s.heap.objs.size (I.hok.fresh (z0Q _)) (I.hok.fresh (z04 _)) (z08 (z1M _));have I2:=Inv.made (C:=C) I;have r2:Vals (V.ref (s.heap.objs.size+1)::(vs++dvs)) (Value.ref (s.heap.objs.size+1)::(us++ds)):=.cons rfl (r.append hd);have hl:(Value.ref (s.heap.objs.size+1)::us++ds).length=ps.length:=by
  have e:=r2.length;rw[F.len _ _ _ _ hq] at e;exact e.symm
 refine z14 (gU (f:=f) I.kIn M.makes M.init (z0N.mp M.fn) (z0O (F.run _ X.stack _ _ ⟨Value.ref (s.heap.objs.size+1)::us,[]⟩ (Value.ref (s.heap.objs.size+1)::(us++ds)) _ _ E (hr.make C us [])
  (I2.env0.make C us []) (hb _ (Value.ref (s.heap.objs.size+1)::us) I2.kIn hl) r2 hq) λ r s' hq'=>?_))
 cases r with
 | error e=>exact hx π σ _ _ e s' I2 hq'
 | ok fl=>
  cases fl with
  | ret u=>
   obtain⟨v,H',I3,rv,ev,q3⟩:=I2.after hq';subst ev;exact⟨rv,⟨V.ref (s.heap.objs.size+1),H',I3,rfl,q3⟩⟩
  | next=>exact False.elim hq'
  | brk=>exact False.elim hq'
  | cont=>exact False.elim hq'
theorem nR (M:Mk X.K C f) (F:FnOk X.prog X.w X.K X.mg X.base CX k f fd ps sp) (hr:Room (k+1) X.A) (hg:Gl X x) (hm:X.mg x=some (.ref C)) (hb:Binds X.K fd ps ds) (hd:Vals dvs ds) (hx:Ro CX X E)
  (ha:PA X (e::es) t) (hdb:(x==("__debug__":Str))=false:=by decide) (he:starEach (e::es) X.env=(false,eval e X.env)::starEach es X.env:=by rfl) (hpl:(backTo pos (starEach es X.env)).any (·.1)=false:=by rfl) :
  PE X (.Call (.Name x p) (e::es) [] pos) (wQ C sp dvs E t):=by
 intro π s σ H Q I h;refine z15 (GF I hg hm ?_ hdb);refine z1h (h₀:=X.base) I.ok.mod.kin M.kp (thn (ha pos π s σ H _ I h) λ us s1 ⟨vs,H1,I1,r,q⟩=>⟨I1.kIn,?_⟩) he hpl;exact gZ M F hr hb hd hx I1 r q
end
section
variable {X:Cx}{CX:CXT}{k:Nat}{f:Addr}{sp:Sp}{E:XK}{x m:Str}{p kpos:Pos}{o:Expr}{es:List Expr}{kws:List Keyword}{te ta:TE}{t tk:TA}{nm:Option Str}
variable {g:List Value->List Value->List Value}{gV:List V->List V->List V}
end
structure FnScope (N P:List Str) (sc:Scope):Prop where
 kind:sc.kind=.function
 co:sc.isCoroutine=false
 gen:sc.isGenerator=false
 nd:N.Nodup
 pre:N.take P.length=P
 par:∀ x∈P,sc.names.lookup x=some .local ∨sc.names.lookup x=some .cell
 nofree:∀ y∈sc.names,y.2≠.free
theorem Uj {kindOf:Str->Option NameKind}{x:Str}:∀ {binds:List (Str×Value)}{m:Str->Option Value},(∀ v,(x,v)∉binds)->bindL kindOf binds m x=m x
 | [],_,_=>rfl
 | (n,v)::r,m,h=>by
  unfold bindL;rw[Uj λ w hw=>h w (z0b _ hw)];split
  ·have:x≠n:=by rintro rfl;exact h v z0i
   simp[this]
  ·rfl
theorem Uk {kindOf:Str->Option NameKind}{x:Str}:∀ {binds:List (Str×Value)}{m:Str->Option Value},(∀ v,(x,v)∉binds)->bindC kindOf binds m x=m x
 | [],_,_=>rfl
 | (n,v)::r,m,h=>by
  unfold bindC;rw[Uk λ w hw=>h w (z0b _ hw)];split
  ·rfl
  ·have:x≠n:=by rintro rfl;exact h v z0i
   simp[this]
theorem Ul {kindOf:Str->Option NameKind}{x:Str}{v:Value}:∀ {P:List Str}{vs:List Value}{i:Nat}{m:Str->Option Value},P.Nodup->P[i]?=some x->vs[i]?=some v->kindOf x=some .local ->
  bindL kindOf (P.zip vs) m x=some v
 | [],_,_,_,_,h,_,_=>by simp at h
 | _::_,[],_,_,_,_,h,_=>by simp at h
 | p::P,w::vs,0,m,nd,h1,h2,hk=>by
  simp at h1 h2;subst h1;subst h2;show bindL kindOf ((p,w)::P.zip vs) m p=_;unfold bindL;rw[Uj λ v hv=>(z1i.mp nd).1 (List.of_mem_zip hv).1,if_pos hk];simp
 | p::P,w::vs,i+1,m,nd,h1,h2,hk=>by
  show bindL kindOf ((p,w)::P.zip vs) m x=_;unfold bindL;exact Ul (i:=i) (z1i.mp nd).2 (by simpa using h1) (by simpa using h2) hk
theorem Um {kindOf:Str->Option NameKind}{x:Str}{v:Value}:∀ {P:List Str}{vs:List Value}{i:Nat}{m:Str->Option Value},P.Nodup->P[i]?=some x->vs[i]?=some v->kindOf x≠some .local ->
  bindC kindOf (P.zip vs) m x=some v
 | [],_,_,_,_,h,_,_=>by simp at h
 | _::_,[],_,_,_,_,h,_=>by simp at h
 | p::P,w::vs,0,m,nd,h1,h2,hk=>by
  simp at h1 h2;subst h1;subst h2;show bindC kindOf ((p,w)::P.zip vs) m p=_;unfold bindC;rw[Uk λ v hv=>(z1i.mp nd).1 (List.of_mem_zip hv).1,if_neg hk];simp
 | p::P,w::vs,i+1,m,nd,h1,h2,hk=>by
  show bindC kindOf ((p,w)::P.zip vs) m x=_;unfold bindC;exact Um (i:=i) (z1i.mp nd).2 (by simpa using h1) (by simpa using h2) hk
def start (N:List Str) (vs:List V):St:=vs.map some++List.replicate (N.length-vs.length) none
def cxOf (CX:CXT) (P:Program) (w:World) (K:zFr) (mg:Str->Option Value) (base:Heap) (N:List Str) (qual:Str) (scope:Scope) (f:Addr) (cd:Value) (A:Around) (outer:List Env) (s:Shared) (H:Hp) (E:XK):Cx where
 prog:=P
 w:=w
 K:=K
 mg:=mg
 base:=base
 A:=A.deeper (envOfC qual scope s.heap.objs.size f cd)
 N:=N
 s₀:=s
 H₀:=H
 env:=envOfC qual scope s.heap.objs.size f cd
 outer:=outer
 stack:=envOfC qual scope s.heap.objs.size f cd::outer
 ex:=[]
 calm:=true
 fn:=λ _=>true
 pn:=[]
 xe:=λ e s'=>wpAny (model P w) (A.deeper (envOfC qual scope s.heap.objs.size f cd)) (leaving (envOfC qual scope s.heap.objs.size f cd) e) (λ _ s''=>CX outer H s E e s'') (λ e' s''=>CX outer H s E e' s'') s'
theorem XN {x:Str}(h:sc.names.lookup x=some .cell):∃ c,(cellsFrom n sc.names []).lookup x=some c:=by
 have q:=PySem.W.cellsFrom_some sc.names n [] (.inl h);exact Option.isSome_iff_exists.mp q
theorem dY {CX:CXT}{K:zFr}{base:Heap}{f:Addr}{cd:Value}{A:Around}{s1:Shared}{H:Hp}{E:XK}{vs:List V}(S:FnScope N ps scope) (hd:A.handled=none) (e0:Env0 P w K mg base A outer s H) (hl:vs.length=ps.length) (r:Vals vs us)
  (x:InCallC s s.heap.objs.size (bindL (envOfC qual scope s.heap.objs.size f cd).kindOf (ps.zip us) λ _=>none) (cellsFrom (s.heap.objs.size+1) scope.names []) (bindC (envOfC qual scope s.heap.objs.size f cd).kindOf (ps.zip us) λ _=>none) s1) :
  Inv (cxOf CX P w K mg base N qual scope f cd A outer s H E) [] (start N vs) H s1:=by
 have hpl:ps.length<=N.length:=by have:=congrArg List.length S.pre;rw[z0V] at this;omega
 obtain⟨h1,tk,rfl,hk⟩:=x.done;have noA:∀ b:Addr,b∉(cxOf CX P w K mg base N qual scope f cd A outer s H E).ex:=λ b z=>absurd (show b∈([]:List Addr) from z) (by simp);refine⟨⟨e0.mod,S.kind,rfl,rfl,z04 _,λ y z c h1 h2=>?_,λ y hy=>?_,λ y c _ h=>?_,λ _=>hd,Around.frames_deeper e0.frames,.inr ⟨rfl,rfl⟩,λ b z=>absurd z (noA b),e0.bs,e0.bsz,λ b _ _=>noA b,λ b z=>absurd z (noA b),e0.funs,e0.frf⟩,
  rfl,e0.bare,Un.kept hk,⟨_,x.toInCall.ns,λ i y v h1 h2 h3=>?_⟩,λ y c h=>⟨_,x.cell y c h⟩,e0.hok.fresh (z04 _),λ y c h=>?_,λ p hp=>absurd (show p∈([]:zP) from hp) (by simp),e0.hok.kept hk,?_⟩
 ·exact name_of_addr x.apart (z1W h1) (z1W h2)
 ·have hy:scope.names.lookup y=some .cell ∨scope.names.lookup y=some .free :=hy
  rcases hy with hy | hy
  ·exact XN hy
  ·exact absurd rfl (S.nofree _ (z1W hy))
 ·exact Nat.le_of_lt (x.above y c (z1W h))
 ·have hi:i<vs.length:=by
   unfold start at h2
   by_cases hi:i<vs.length
   ·exact hi
   ·rw[z1j (by simpa using hi)] at h2;rw[List.getElem?_replicate] at h2;split at h2<;>cases h2
  have ha:vs[i]?=some v:=by
   unfold start at h2;rw[z1b (by simpa using hi),z0g] at h2;cases e:vs[i]? with
   | none=>rw[e] at h2;cases h2
   | some a=>rw[e] at h2;cases h2;rfl
  obtain⟨u,hu,rv⟩:=r.get ha;have hp:ps[i]?=some y:=by
   rw[<-S.pre,List.getElem?_take_of_lt (by omega)];exact h1
  have ndP:ps.Nodup:=by rw[<-S.pre];exact S.nd.sublist (List.take_sublist _ _)
  refine⟨u,rv,?_⟩
  rcases S.par y (z1v hp) with k | k
  ·exact .inl ⟨k,Ul ndP hp hu k⟩
  ·obtain⟨c,e⟩:=XN (n:=s.heap.objs.size+1) k;refine .inr ⟨.inl k,c,e,?_⟩;have q:=x.cell y c e;rw[Um ndP hp hu (by show scope.names.lookup y≠_;rw[k];decide)] at q;exact q
 ·exact e0.hok.fresh (Nat.le_of_lt (x.above y c (z1W h)))
 ·delta start;show _=N.length;rw[z0u,z02,List.length_replicate];omega
theorem gf {CX:CXT}{K:zFr}{base:Heap}{k:Nat}{f:Addr}{name:Str}{params:Arguments}{dV kV:Value}{sp:Sp}(lk:K.lookup f=some ⟨oc,od,.func (PySem.W.fnOf name qual params body scope dV kV doc pm an cdv ct),osl⟩) (hcd:PySem.W.codeIn K cdv qual=true) (S:FnScope N ps scope)
  (len:∀ vs H Q E,sp vs H Q E->vs.length=ps.length)
  (hbody:∀ (A:Around) (outer:List Env) (s:Shared) (H:Hp) (vs:List V) (Q:VK) (E:XK),Room k (A.deeper (envOfC qual scope s.heap.objs.size f cdv))->sp vs H Q E ->
   ∃ t,PSs (cxOf CX P w K mg base N qual scope f cdv A outer s H E) body t/\t { nx:=λ _ H'=>Q .non H',rt:=Q } (start N vs) H) :
  FnOk P w K mg base CX (k+1) f (PySem.W.fnOf name qual params body scope dV kV doc pm an cdv ct) ps sp:=by
 refine⟨len,λ A outer s H args us vs Q E hr e0 hb r hsp=>?_⟩;have hl:=len _ _ _ _ hsp;have KX:K.In s.heap:=e0.mod.kin.keeps λ b o e=>(e0.bs b o e).1;have lim:s.heap.NoLimit:=e0.mod.nolimit.keeps λ b o e=>(e0.bs b o e).1;have hkind:∀ y∈ps.zip us,scope.names.lookup y.1=some .local ∨(scope.names.lookup y.1=some .cell /\((cellsFrom (s.heap.objs.size+1) scope.names []).lookup y.1).isSome=true):=by
  rintro ⟨n,v⟩ hy
  rcases S.par n (List.of_mem_zip hy).1 with q | q
  ·exact .inl q
  ·exact .inr ⟨q,PySem.W.cellsFrom_some _ _ _ (.inl q)⟩
 refine codeAny_call_function hr.depth (KX _ _ lk) rfl S.co S.gen rfl (PySem.W.codeRec_of KX hcd) (hb _ _ _ _ ?_);refine wpAny_newFunctionEnv_cells S.kind hkind λ env he s1 x=>?_;subst he;refine⟨lim.keeps x.toInCall.keep,codeAny_func ?_⟩;obtain⟨t,ht,hq⟩:=hbody A outer s H vs Q E (hr.deeper _) hsp;have I:Inv (cxOf CX P w K mg base N qual scope f cdv A outer s H E) [] (start N vs) H s1:=dY S hr.hd e0 hl r x;refine z0D (ht [] s1 (start N vs) H _ I hq) (λ fl s' hs=>?_) λ e s' hs=>hs;have fin:∀ {σ':St}{H':Hp}{v:V}{u:Value},Inv (cxOf CX P w K mg base N qual scope f cdv A outer s H E) [] σ' H' s'->RelV v u->Q v H'->CE outer P w H s Q u s':=
  λ {σ' H' v u} J rv q=>⟨v,H',J.os,J.bare,J.base,J.hok,rv,q⟩
 cases fl with
 | ret u=>
  obtain⟨v,σ',H',J,rv,q⟩:=hs;exact fin J rv q
 | next=>
  obtain⟨σ',H',J,q⟩:=hs;exact fin (v:=V.non) (u:=Value.none) J rfl q
 | brk=>
  obtain⟨_,_,_,q⟩:=hs;exact False.elim q
 | cont=>
  obtain⟨_,_,_,q⟩:=hs;exact False.elim q
end L2
variable {xs vs ys:List L2.V}{H H' H1 F2 F1 He Hf:L2.Hp}{o:L2.HO}{v y:L2.V}{X:L2.Cx}{σ:L2.St}{tc:L2.TT}{CX:L2.CXT}{sp:L2.Sp}{r:List L2.V->L2.Hp->L2.VK->Prop}{kvs:List (List L2.Key×L2.V)}
namespace L2
open PySem PySem.Spec PyProof.Rows
section
variable {x:Str}{p:Pos}{es:List Expr}{t:TA}{id T:String}
def tCB (r:List V->Hp->VK->Prop) (t:TA):TE:=λ σ H Q=>t σ H λ vs H1=>r vs H1 Q
theorem Kl (hc:Eb X (.builtin id) r) (hg:Gl X x) (hm:X.mg x=none) (hv:bootBuiltins x=some (.builtin id)) (ha:PA X (e::es) t) (hn:x≠"__name__":=by decide) (hdb:(x==("__debug__":Str))=false:=by decide)
  (he:starEach (e::es) X.env=(false,eval e X.env)::starEach es X.env:=by rfl) (hpl:(backTo pos (starEach es X.env)).any (·.1)=false:=by rfl):PE X (.Call (.Name x p) (e::es) [] pos) (tCB r t):=by
 intro π s σ H Q I h;refine z15 (Vd I hg hm hv ?_ hn hdb);exact PyProof.Rows.callWith_builtin1 (thn (ha pos π s σ H _ I h) λ us s1 ⟨vs,H1,I1,r1,q1⟩=>hc π s1 σ H1 vs us Q I1 r1 q1) he hpl
theorem O_ (hc:Eb X (.type T) r) (hg:Gl X x) (hm:X.mg x=none) (hv:bootBuiltins x=some (.type T)) (ha:PA X (e::es) t) (hn:x≠"__name__":=by decide) (hdb:(x==("__debug__":Str))=false:=by decide)
  (he:starEach (e::es) X.env=(false,eval e X.env)::starEach es X.env:=by rfl) (hpl:(backTo pos (starEach es X.env)).any (·.1)=false:=by rfl):PE X (.Call (.Name x p) (e::es) [] pos) (tCB r t):=by
 intro π s σ H Q I h;refine z15 (Vd I hg hm hv ?_ hn hdb);exact PyProof.Rows.callWith_type1 (thn (ha pos π s σ H _ I h) λ us s1 ⟨vs,H1,I1,r1,q1⟩=>hc π s1 σ H1 vs us Q I1 r1 q1) he hpl
end
end L2
namespace HT
open PySem PyProof.Rows
section
open PySem.SeqAt
open PySem.AutoSeq1 (wpAny_loadPart')
open PySem.MeetsSeq PySem.MeetsSeq2 PySem.MeetsSeq3
end
section
variable {A:Around}
def sIx (n d:Nat):Option Int->Nat
 | none=>d
 | some v=>if v<0 then (v+(n:Int)).toNat else min v.toNat n
theorem uP (n d:Nat) (hd:d<=n) (o:Option Int):sIx n d o<=n:=by
 cases o with
 | none=>exact hd
 | some v=>
  show (if v<0 then (v+(n:Int)).toNat else min v.toNat n)<=n
  by_cases hv:v<0
  ·rw[if_pos hv];omega
  ·rw[if_neg hv];exact Nat.min_le_right _ _
theorem aD (v:Int) (n d:Nat):(if v<0 then max (v+(n:Int)) 0 else min v (n:Int))=((sIx n d (some v):Nat):Int):=by
 show (if v<0 then max (v+(n:Int)) 0 else min v (n:Int))=(((if v<0 then (v+(n:Int)).toNat else min v.toNat n):Nat):Int)
 by_cases hv:v<0
 ·simp only[if_pos hv];omega
 ·simp only[if_neg hv];omega
theorem Y5 (lo hi:Option Int) (n:Nat):Builtin.Slice.sliceAdjust lo hi 1 (n:Int)=(((sIx n 0 lo:Nat):Int),((sIx n n hi:Nat):Int)):=by
 have h1:¬ ((1:Int)<0):=by omega
 unfold Builtin.Slice.sliceAdjust;simp only[h1,if_false];refine Prod.ext ?_ ?_
 ·cases lo with
  | none=>rfl
  | some v=>exact aD v n 0
 ·cases hi with
  | none=>rfl
  | some v=>exact aD v n n
theorem Y6 (i j:Nat):Builtin.Slice.slicePlaces (i:Int) (j:Int) 1=j-i:=by
 unfold Builtin.Slice.slicePlaces;have h1:(1:Int) > 0:=by omega
 simp only[h1,if_true,Int.ediv_one];split<;>omega
theorem Rp {v:Value}{o:Option Int}{Q:Option Int->Shared->Prop}(p:IsPart v o) (h:Q o s):wpAny (model prog w) A (Builtin.Slice.slicePartIndex v) Q E s:=by
 cases p with
 | none=>exact slicePart_none h
 | int i t=>exact slicePart_int h
theorem PB {sl:Addr}{vl vu:Value}{lo hi:Option Int}{Q:Int×Int×Nat->Shared->Prop}(hs:s.heap.IsSliceOf sl vl vu .none) (pl:IsPart vl lo) (pu:IsPart vu hi)
  (h:Q (((sIx n 0 lo:Nat):Int),1,sIx n n hi-sIx n 0 lo) s):wpAny (model prog w) A (Builtin.Slice.sliceApplied (.ref sl) (pure (n:Int))) Q E s:=by
 obtain⟨os,hos,hcs,hds⟩:=id hs;unfold Builtin.Slice.sliceApplied Builtin.Slice.sliceFields;refine z00 (z00 (z16 hos hds (x:=vl) rfl (z00 (z16 hos hds (x:=vu) rfl (z00 (z16 hos hds (x:=.none) rfl (z01 ?_)))))));refine z00 (slicePart_none ?_);show wpAny _ _ (if ((1:Int)==0)=true then _ else _) _ _ s;rw[if_neg (by decide)];refine z00 (Rp pl (z00 (Rp pu (z00 (z01 ?_)))));show wpAny _ _ (match Builtin.Slice.sliceAdjust lo hi 1 (n:Int) with | (lo,hi)=>pure (lo,(1:Int),Builtin.Slice.slicePlaces lo hi 1)) _ _ s;rw[Y5 lo hi n];show wpAny _ _ (pure (((sIx n 0 lo:Nat):Int),(1:Int),Builtin.Slice.slicePlaces ((sIx n 0 lo:Nat):Int) ((sIx n n hi:Nat):Int) 1)) _ _ s;rw[Y6];exact z01 h
theorem gj (xs:Array Value) (i k:Nat):((List.range k).filterMap λ (m:Nat)=>xs[((i:Int)+(m:Int)*1).toNat]?).toArray=((xs.toList.drop i).take k).toArray:=by
 have e:(λ (m:Nat)=>xs[((i:Int)+(m:Int)*1).toNat]?)=λ m=>xs[i+m]?:=by
  funext m;have:((i:Int)+(m:Int)*1).toNat=i+m:=by omega
  rw[this]
 rw[e];have:=pick_run xs i k;rw[List.filterMap_map] at this;have e2:((λ x=>xs[x]?) ∘ λ x=>i+x)=λ m=>xs[i+m]?:=rfl;rw[e2] at this;rw[this]
theorem M8 {t sl:Addr}{items:Array Value}{vl vu:Value}{lo hi:Option Int}(ht:IsTup s.heap t items) (hs:s.heap.IsSliceOf sl vl vu .none) (pl:IsPart vl lo) (pu:IsPart vu hi)
  (hw:¬ (sIx items.size 0 lo=0/\sIx items.size items.size hi=items.size))
  (h:Q (.ref s.heap.objs.size) { s with heap:=s.heap.push { cls:=.type "tuple",data:=.seq ((items.toList.drop (sIx items.size 0 lo)).take (sIx items.size items.size hi-sIx items.size 0 lo)).toArray } })
  (hsz:items.size<=sizeLine):wpAny (model prog w) A (getItem (.ref t) (.ref sl)) Q E s:=by
 have htake:sizeOk (.seq ((items.toList.drop (sIx items.size 0 lo)).take (sIx items.size items.size hi-sIx items.size 0 lo)).toArray):=by
  show ((items.toList.drop (sIx items.size 0 lo)).take (sIx items.size items.size hi-sIx items.size 0 lo)).toArray.size<=sizeLine;rw[z0e,z0V,z1c,z1t];omega
 have hj:sIx items.size items.size hi<=items.size:=uP _ _ (z04 _) hi;obtain⟨os,hos,hcs,hds⟩:=id hs;have hTs:s.TypeIs (.ref sl) "slice":=⟨os,hos,hcs⟩;unfold getItem
 try with_reducible refine z0z ?_
 first | refine z00 (z01 ?_) | skip
 refine z00 (wpAny_sequenceKey ht.typeIs (by decide) ?_);refine z00 (z1w (name:=Str.ofString "__getitem__") ht.typeIs PyProof.Rows.slot_tuple_getitem
  (z17 PyProof.Rows.slot_tuple_getitem ht.typeIs entry_tuple_getitem ?_ (args_tuple_getitem _ _)))
 show wpAny _ _ (Builtin.Tuple.tupleItemsOf (.ref t) >>= _) _ _ s;refine z00 (tupleItemsOf_ ht ?_);refine z00 (wpAny_typeOf hTs ?_);rw[if_pos (by decide)];refine z00 (PB hs pl pu ?_);have hno:¬ ((((sIx items.size 0 lo:Nat):Int)==0&&(1:Int)==1&&(sIx items.size items.size hi-sIx items.size 0 lo)==items.size)=true):=by
  intro q;rw[z0x,z0x] at q;have q1:((sIx items.size 0 lo:Nat):Int)=0:=eq_of_beq q.1.1;have q2:sIx items.size items.size hi-sIx items.size 0 lo=items.size:=eq_of_beq q.2;exact hw ⟨by omega,by omega⟩
 show wpAny _ _ (if (((sIx items.size 0 lo:Nat):Int)==0&&(1:Int)==1&&(sIx items.size items.size hi-sIx items.size 0 lo)==items.size)=true then _ else _) _ _ s;rw[if_neg hno,gj]
 first
  | exact z00 (m:=Builtin.Tuple.tupleExact _) (z0R (z01 ⟨_,rfl,z01 h⟩) htake)
  | exact z00 (m:=Builtin.Tuple.tupleExact _) (z0R (z00 (z01 (z01 ⟨_,rfl,z01 h⟩))) htake)
  | exact z00 (z00 (m:=Builtin.Tuple.tupleExact _) (z0R (z01 (z01 ⟨_,rfl,z01 h⟩)) htake))
  | exact z00 (z00 (m:=Builtin.Tuple.tupleExact _) (z0R (z01 ⟨_,rfl,z01 h⟩) htake))
end
end HT
namespace L2
open PySem PySem.Spec PyProof.Rows
abbrev TO:=St->Hp->(Option Int->Hp->Prop)->Prop
def PO (X:Cx) (e:Option Expr) (t:TO):Prop:=
 ∀ (π:zP) (s:Shared) (σ:St) (H:Hp) (Q:Option Int->Hp->Prop),Inv X π σ H s->t σ H Q ->
  wpAny (model X.prog X.w) X.A (evalPart e X.env) (λ u s'=>∃ o H',Inv X π σ H' s'/\IsPart u o/\Q o H') X.xe s
def nU:TO:=λ _ H Q=>Q none H
def wR (t:TE):TO:=λ σ H Q=>t σ H λ x H1=>∃ i,x=.int i/\Q (some i) H1
section
variable {te:TE}{lo hi:Option Expr}{tl th:TO}{p2:Pos}
theorem nZ:PO X none nU:=by
 intro π s σ H Q I h;rw[evalPart_none];exact z01 ⟨none,H,I,.none,h⟩
theorem nj (h:PE X e te):PO X (some e) (wR te):=by
 intro π s σ H Q I hw;rw[evalPart_some];refine thn (h π s σ H _ I hw) λ u s1 ⟨x,H1,I1,r1,q1⟩=>?_;obtain⟨i,rfl,q⟩:=q1;obtain⟨t,rfl⟩:=r1;exact⟨some i,H1,I1,.int i t,q⟩
def SlR (X:Cx) (r:V->Option Int->Option Int->Hp->VK->Prop):Prop:=
 ∀ (π:zP) (s:Shared) (σ:St) (H:Hp) (x:V) (v vl vu:Value) (lo hi:Option Int) (sl:Addr) (Q:VK),Inv X π σ H s->RelV x v->s.heap.IsSliceOf sl vl vu .none->IsPart vl lo->IsPart vu hi->r x lo hi H Q ->
  ∃ T id,typeLookup (.type T) "__getitem__"=pure (some (.builtin id))/\s.TypeIs v T/\wpAny (model X.prog X.w) X.A (getItem v (.ref sl)) (EP X π σ Q) X.xe s
theorem SlR.or {r r':V->Option Int->Option Int->Hp->VK->Prop}(h:SlR X r) (h':SlR X r'):SlR X (λ x lo hi H Q=>r x lo hi H Q∨r' x lo hi H Q):=by
 intro π s σ H x v vl vu lo hi sl Q I rx hs pl pu q
 rcases q with q | q
 ·exact h π s σ H x v vl vu lo hi sl Q I rx hs pl pu q
 ·exact h' π s σ H x v vl vu lo hi sl Q I rx hs pl pu q
def tSl (r:V->Option Int->Option Int->Hp->VK->Prop) (te:TE) (tl th:TO):TE:=λ σ H Q=>te σ H λ x H1=>tl σ H1 λ l H2=>th σ H2 λ u H3=>r x l u H3 Q
theorem gk {r:V->Option Int->Option Int->Hp->VK->Prop}(hr:SlR X r) (he:PE X e te) (hl:PO X lo tl) (hu:PO X hi th):PE X (.Subscript e (.Slice lo hi none p2) pos) (tSl r te tl th):=by
 intro π s σ H Q I h;refine Subscript_ (thn (he π s σ H _ I h) λ v s1 ⟨x,H1,I1,r1,q1⟩=>?_);refine wpAny_Slice (thn (hl π s1 σ H1 _ I1 q1) λ vl s2 ⟨l,H2,I2,pl,q2⟩=>thn (hu π s2 σ H2 _ I2 q2) λ vu s3 ⟨u,H3,I3,pu,q3⟩=>?_);rw[evalPart_none];refine z01 ?_;have I4:Inv X π σ H3 { s3 with heap:=s3.heap.push { cls:=.type "slice",data:=.fields #[vl,vu,.none] } }:=I3.kept (t':=s3.toks) λ b ob q=>z05 _ q;obtain⟨T,id,hT,ht,hg⟩:=hr π { s3 with heap:=s3.heap.push { cls:=.type "slice",data:=.fields #[vl,vu,.none] } } σ H3 x v vl vu l u s3.heap.objs.size Q I4 r1 (Heap.IsSliceOf.new ..) pl pu q3;show wpAny (model X.prog X.w) X.A (subscriptTail e (.Slice lo hi none p2) v (.ref s3.heap.objs.size)) (EP X π σ Q) X.xe { s3 with heap:=s3.heap.push { cls:=.type "slice",data:=.fields #[vl,vu,.none] } };exact tail_any (ops:=[.ref s3.heap.objs.size,v]) ht hT hg (by with_unfolding_all rfl)
def cutV (xs:List V) (lo hi:Option Int):List V:=(xs.drop (HT.sIx xs.length 0 lo)).take (HT.sIx xs.length xs.length hi-HT.sIx xs.length 0 lo)
theorem Qa (xs:List V) (lo hi:Option Int):(cutV xs lo hi).length<=xs.length:=by
 delta cutV;rw[z0V,z1c];omega
def rSlT (K:zFr):V->Option Int->Option Int->Hp->VK->Prop:=λ x lo hi H Q=>∃ a xs,x=.ref a/\SqT K H a xs ∧
 ¬ (HT.sIx xs.length 0 lo=0/\HT.sIx xs.length xs.length hi=xs.length)/\∀ p,H p=none->Q (.ref p) (upd H p (.tup (cutV xs lo hi)))
theorem uQ:SlR X (rSlT X.K):=by
 intro π s σ H x v vl vu lo hi sl Q I rx hs pl pu h;obtain⟨a,xs,rfl,hx,hw,q⟩:=h;cases rx;obtain⟨its,r,ht,hz⟩:=I.tuple hx;have hlen:its.toArray.size=xs.length:=by rw[z0e];exact r.length.symm
 refine⟨"tuple",_,PyProof.Rows.slot_tuple_getitem.lookup,ht.typeIs,?_⟩;refine HT.M8 ht hs pl pu (by rw[hlen];exact hw) ?_ (by rw[hlen];exact hz);rw[hlen];refine⟨.ref s.heap.objs.size,_,I.laid (t':=s.toks) (o:=.tup (cutV xs lo hi)) (λ b ob q=>z05 _ q) (z04 _) ?_,rfl,q _ (I.hok.fresh (z04 _))⟩;exact⟨z0a (Qa xs lo hi) hz,_,(r.drop (HT.sIx xs.length 0 lo)).take (HT.sIx xs.length xs.length hi-HT.sIx xs.length 0 lo),IsTup.new _ _⟩
end
def ixN (n:Nat) (i:Int):Option Nat:=if 0<=i then (if i<n then some i.toNat else none) else if -(n:Int)<=i then some (i+n).toNat else none
def atI {α:Type}(xs:List α) (i:Int):Option α:=(ixN xs.length i).bind λ j=>xs[j]?
theorem aF {i:Int}(h:ixN n i=some j):seqIndex? i n=some j/\j<n/\-(n:Int)<=i/\i<n:=by
 unfold ixN at h
 by_cases h0:0<=i
 ·rw[if_pos h0] at h
  by_cases h1:i<n
  ·rw[if_pos h1] at h;have e:i.toNat=j:=z0h h;exact⟨by rw[seqIndex_of h0 h1,e],by omega,by omega,h1⟩
  ·rw[if_neg h1] at h;cases h
 ·rw[if_neg h0] at h
  by_cases h1 : -(n:Int)<=i
  ·rw[if_pos h1] at h;have e:(i+n).toNat=j:=z0h h;exact⟨by rw[seqIndex_neg (by omega) h1,e],by omega,h1,by omega⟩
  ·rw[if_neg h1] at h;cases h
theorem Vh {α:Type}{xs:List α}{i:Int}{v:α}(h:atI xs i=some v):∃ j,seqIndex? i xs.length=some j/\xs[j]?=some v/\j<xs.length/\-(xs.length:Int)<=i/\i<xs.length:=by
 unfold atI at h;cases e:ixN xs.length i with
 | none=>rw[e] at h;cases h
 | some j=>
  rw[e] at h;obtain⟨h1,h2,h3,h4⟩:=aF e;exact⟨j,h1,h,h2,h3,h4⟩
def M9 (b:Expr):Prop:=∀ o i,subscripted b false o i=operate [o,i] (getItem o i)
def IxR (X:Cx) (r:R2):Prop:=
 ∀ (value slice:Expr) (π:zP) (s:Shared) (σ:St) (H:Hp) (x y:V) (v u:Value) (Q:VK),Inv X π σ H s->RelV x v->RelV y u->r x y H Q ->
  subscripted slice false v u=operate [v,u] (getItem v u)->wpAny (model X.prog X.w) X.A (subscriptTail value slice v u) (EP X π σ Q) X.xe s
def MtR (X:Cx) (id:String) (r:V->List V->Hp->VK->Prop):Prop:=
 ∀ (π:zP) (s:Shared) (σ:St) (H:Hp) (x:V) (xs:List V) (v:Value) (us:List Value) (Q:VK),Inv X π σ H s->RelV x v->Vals xs us->r x xs H Q ->
  wpAny (model X.prog X.w) X.A (call (.builtin id) (v::us)) (EP X π σ Q) X.xe s
section
variable {a b:Expr}{ta tb:TE}
theorem IxR.or {r r':R2}(h:IxR X r) (h':IxR X r'):IxR X (λ x y H Q=>r x y H Q∨r' x y H Q):=by
 intro value slice π s σ H x y v u Q I rx ry q hs
 rcases q with q | q
 ·exact h value slice π s σ H x y v u Q I rx ry q hs
 ·exact h' value slice π s σ H x y v u Q I rx ry q hs
theorem rF {r:R2}(hr:IxR X r) (ha:PE X a ta) (hb:PE X b tb) (hs:M9 b):PE X (.Subscript a b pos) (tOp r ta tb):=by
 intro π s σ H Q I h;exact Subscript_ (binT ha hb I h λ v u s2 x y H2 I2 rx ry q=>hr a b π s2 σ H2 x y v u Q I2 rx ry q (hs _ _))
def rIxL (K:zFr):R2:=λ x y H Q=>∃ p xs i v,x=.ref p/\y=.int i/\SqL K H p xs/\atI xs i=some v/\Q v H
def rIxT (K:zFr):R2:=λ x y H Q=>∃ p xs i v,x=.ref p/\y=.int i/\SqT K H p xs/\atI xs i=some v/\Q v H
def rIxS:R2:=λ x y H Q=>∃ z i c,x=.str z/\y=.int i/\z.length<=sizeLine/\atI z.cps.toList i=some c/\Q (.str ⟨#[c]⟩) H
theorem nu:IxR X (rIxL X.K):=by
 intro value slice π s σ H x y v u Q I rx ry h hs;obtain⟨p,xs,i,z,rfl,rfl,hq,he,q⟩:=h;cases rx;obtain⟨t,rfl⟩:=ry;obtain⟨its,r,pl,hz⟩:=I.list hq;obtain⟨j,h1,h2,h3,h4,h5⟩:=Vh he;obtain⟨w,ew,rw'⟩:=r.get h2;have hl:=r.length;have hn:=O7;have fin:EP X π σ Q w s:=⟨z,H,I,rw',q⟩
 by_cases h0:0<=i
 ·have hj:i.toNat=j:=by
   rw[seqIndex_of h0 h5] at h1;exact z0h h1
  exact item_listR pl.isList h0 (by omega) (by rw[hj];simpa using ew) fin hs
 ·have hj:(i+(its.toArray.size:Int)).toNat=j:=by
   rw[seqIndex_neg (by omega) h4] at h1;rw[z0e,<-hl];exact z0h h1
  exact subscriptTail_builtinR (x:=w) pl.isList.typeIs slot_list_getitem.lookup
   (wpAny_getItem_list_neg (Q:=λ r s'=>r=w/\EP X π σ Q r s') pl.isList (by omega) (by rw[z0e]<;>omega) (by omega) (by rw[hj];simpa using ew) ⟨rfl,fin⟩) hs
theorem uR:IxR X (rIxT X.K):=by
 intro value slice π s σ H x y v u Q I rx ry h hs;obtain⟨p,xs,i,z,rfl,rfl,hq,he,q⟩:=h;cases rx;obtain⟨t,rfl⟩:=ry;obtain⟨its,r,pl,hz⟩:=I.tuple hq;obtain⟨j,h1,h2,h3,h4,h5⟩:=Vh he;obtain⟨w,ew,rw'⟩:=r.get h2;have hl:=r.length;have hn:=O7;have fin:EP X π σ Q w s:=⟨z,H,I,rw',q⟩;exact subscriptTail_builtinR (x:=w) pl.typeIs slot_tuple_getitem.lookup
  (getItem_tuple (j:=j) (Q:=λ r s'=>r=w/\EP X π σ Q r s') pl (by omega) (by omega) (by rw[z0e,<-hl];exact h1) (by simpa using ew) ⟨rfl,fin⟩) hs
theorem uT:IxR X rIxS:=by
 intro value slice π s σ H x y v u Q I rx ry h hs;obtain⟨z,i,c,rfl,rfl,hz,he,q⟩:=h;obtain⟨t,rfl⟩:=rx;obtain⟨t',rfl⟩:=ry;obtain⟨j,h1,h2,h3,h4,h5⟩:=Vh he;have hl:z.cps.toList.length=z.length:=by simp[Str.length]
 rw[hl] at h1 h4 h5;have hn:=O7;exact tail_any (typeIs_str s z t) slot_str_getitem.lookup (getItem_str (c:=c) (by
  have e1:decide (i < -(2^63:Int))=false:=z0J (by omega);have e2:decide (i≥2^63)=false:=z0J (by omega);rw[e1,e2,Bool.or_false]) (by rw[h1];simpa using h2) ⟨.str ⟨#[c]⟩,H,I.tok _,⟨_,rfl⟩,q⟩) hs
def rIx (K:zFr):R2:=λ x y H Q=>rIxL K x y H Q∨rIxT K x y H Q∨rIxS x y H Q
theorem gm:IxR X (rIx X.K):=nu.or (uR.or uT)
theorem Y7 (its:List Value) (n j:Nat) (u:Value):Obj.mapSeq (·.setIfInBounds j u) { cls:=.type "list",data:=.seq its.toArray n }={ cls:=.type "list",data:=.seq (its.set j u).toArray n }:=by
 simp[Obj.mapSeq]
theorem Inv.lst {π:zP}{σ:St}{H:Hp}{s:Shared}{p:Addr}{xs:List V}(I:Inv X π σ H s) (h:H p=some (.lst xs)) :
  ∃ (its:List Value) (n:Nat),Vals xs its/\s.heap.get? p=some { cls:=.type "list",data:=.seq its.toArray n }/\xs.length<=sizeLine:=by
 obtain⟨z,its,n,r,e⟩:=I.hok p _ h;exact⟨its,n,r,e,z⟩
theorem Inv.lstUpd {its':List Value}{n':Nat}{f:Obj->Obj}(I:Inv X π σ H s) (h:H p=some (.lst xs))
  (ho:s.heap.get? p=some { cls:=.type "list",data:=.seq its.toArray n }) (hf:f { cls:=.type "list",data:=.seq its.toArray n }={ cls:=.type "list",data:=.seq its'.toArray n' }) (r:Vals ys its') (hz:ys.length<=sizeLine) (t:Nat) :
  Inv X π σ (upd H p (.lst ys)) { s with heap:=s.heap.update p f,toks:=t }:=by
 have e:(s.heap.update p f).get? p=some { cls:=.type "list",data:=.seq its'.toArray n' }:=by
  rw[z18 f ho (by rw[hf]<;>rfl),hf]
 refine I.write (x:=p) (e:=p) (by rw[h];trivial) (.inl rfl) (λ b u hb q=>(z0S _ _ (Ne.symm hb)).trans q) ⟨_,e⟩ ?_;exact⟨hz,its',n',r,e⟩
def wU:V->V->V->Hp->(Hp->Prop)->Prop:=λ o i v H Q=>∃ p xs k j,o=.ref p/\i=.int k/\H p=some (.lst xs)/\ixN xs.length k=some j/\Q (upd H p (.lst (xs.set j v)))
theorem set_list:PSet X wU:=by
 intro π s σ H o i v ov iv u Q I ro ri rv h;obtain⟨p,xs,k,j,rfl,rfl,hp,hj,q⟩:=h;cases ro;obtain⟨t,rfl⟩:=ri;obtain⟨its,n,r,ho,hz⟩:=I.lst hp;obtain⟨h1,h2,h3,h4⟩:=aF hj;have hl:=r.length;have hn:=O7;have I':Inv X π σ (upd H p (.lst (xs.set j v))) { s with heap:=s.heap.update p (Obj.mapSeq (·.setIfInBounds j u)) }:=
  I.lstUpd hp ho (Y7 its n j u) (r.set rv j) (by rw[z0W];exact hz) s.toks
 by_cases h0:0<=k
 ·have hk:k.toNat=j:=by
   rw[seqIndex_of h0 h4] at h1;exact z0h h1
  exact PySem.W.ki_setAt ho h0 (by omega) (by rw[z0e,<-hl];exact h4) (by rw[hk];exact⟨_,I',q⟩)
 ·have hk:(k+(its.toArray.size:Int)).toNat=j:=by
   rw[seqIndex_neg (by omega) h3] at h1;rw[z0e,<-hl];exact z0h h1
  exact PySem.W.ki_setBack ho (by omega) (by rw[z0e,<-hl];exact h3) (by omega) (by rw[hk];exact⟨_,I',q⟩)
theorem Vi (lo hi:Option Int) (n:Nat):(sliceBounds lo hi none n).1=((HT.sIx n 0 lo:Nat):Int)/\(sliceBounds lo hi none n).2.1=((HT.sIx n n hi:Nat):Int)/\(sliceBounds lo hi none n).2.2=1:=by
 refine⟨?_,?_,rfl⟩
 ·cases lo with
  | none=>simp[sliceBounds,HT.sIx]
  | some i=>
   simp only[sliceBounds,HT.sIx,Option.getD_none,show (1:Int) > 0 by decide,if_true]
   by_cases h:i<0
   ·simp only[h,if_true]<;>omega
   ·simp only[h,if_false]<;>omega
 ·cases hi with
  | none=>simp[sliceBounds,HT.sIx]
  | some i=>
   simp only[sliceBounds,HT.sIx,Option.getD_none,show (1:Int) > 0 by decide,if_true]
   by_cases h:i<0
   ·simp only[h,if_true]<;>omega
   ·simp only[h,if_false]<;>omega
theorem T9 (its:List Value) (lo hi:Option Int):slicePick its.toArray lo hi none=((its.drop (HT.sIx its.length 0 lo)).take (HT.sIx its.length its.length hi-HT.sIx its.length 0 lo)).toArray:=by
 obtain⟨h1,h2,h3⟩:=Vi lo hi its.toArray.size;unfold slicePick;rw[h1,h2,h3];simp only[sliceRange_one,pick_run,z0e]<;>rfl
def rSlL (K:zFr):V->Option Int->Option Int->Hp->VK->Prop:=λ x lo hi H Q=>∃ a xs,x=.ref a/\SqL K H a xs/\∀ p,H p=none->Q (.ref p) (upd H p (.lst (cutV xs lo hi)))
theorem n6:SlR X (rSlL X.K):=by
 intro π s σ H x v vl vu lo hi sl Q I rx hs pl pu h;obtain⟨a,xs,rfl,hx,q⟩:=h;cases rx;obtain⟨its,r,ht,hz⟩:=I.list hx;have hlen:=r.length;refine⟨"list",_,slot_list_getitem.lookup,ht.isList.typeIs,?_⟩;refine wpAny_getItem_list_slice ht.isList hs pl pu .none (by simp) ?_ (by rw[z0e]<;>omega);rw[T9,<-hlen];refine⟨.ref s.heap.objs.size,_,I.laid (t':=s.toks) (o:=.lst (cutV xs lo hi)) (λ b ob q=>z05 _ q) (z04 _) ?_,rfl,q _ (I.hok.fresh (z04 _))⟩;exact⟨z0a (Qa xs lo hi) hz,_,0,(r.drop (HT.sIx xs.length 0 lo)).take (HT.sIx xs.length xs.length hi-HT.sIx xs.length 0 lo),z0f _ rfl⟩
def Ke:V->Bool
 | .non=>true
 | .bl _=>true
 | .int _=>true
 | .str _=>true
 | _=>false
def eqV:V->V->Bool
 | .non,.non=>true
 | .bl a,.bl b=>a==b
 | .bl a,.int b=>(if a then 1 else 0)==b
 | .int a,.bl b=>a==(if b then 1 else 0)
 | .int a,.int b=>a==b
 | .str a,.str b=>a==b
 | _,_=>false
theorem gr {A:Around}{x:V}{v:Value}(ry:RelV y u) (rx:RelV x v) (fy:Ke y=true) (fx:Ke x=true):SeqAt.EqAt A s u v (eqV y x):=by
 cases y with
 | non=>
  cases ry;cases x with
  | non=>cases rx;exact SeqAt.EqAt.same _
  | bl b=>cases rx;exact SeqAt.EqAt.none_bool b
  | int b=>obtain⟨t,rfl⟩:=rx;exact SeqAt.EqAt.none_int b t
  | str b=>obtain⟨t,rfl⟩:=rx;exact SeqAt.EqAt.none_str b t
  | _=>exact absurd (show false=true from fx) z0j
 | bl a=>
  cases ry;cases x with
  | non=>cases rx;exact SeqAt.EqAt.bool_none a
  | bl b=>cases rx;exact SeqAt.EqAt.bool_bool a b
  | int b=>obtain⟨t,rfl⟩:=rx;exact SeqAt.EqAt.bool_int a b t
  | str b=>obtain⟨t,rfl⟩:=rx;exact SeqAt.EqAt.bool_str a b t
  | _=>exact absurd (show false=true from fx) z0j
 | int a=>
  obtain⟨t',rfl⟩:=ry;cases x with
  | non=>cases rx;exact SeqAt.EqAt.int_none a t'
  | bl b=>cases rx;exact SeqAt.EqAt.int_bool a t' b
  | int b=>obtain⟨t,rfl⟩:=rx;exact SeqAt.EqAt.int_int a t' b t
  | str b=>obtain⟨t,rfl⟩:=rx;exact SeqAt.EqAt.int_str a t' b t
  | _=>exact absurd (show false=true from fx) z0j
 | str a=>
  obtain⟨t',rfl⟩:=ry;cases x with
  | non=>cases rx;exact SeqAt.EqAt.str_none a t'
  | bl b=>cases rx;exact SeqAt.EqAt.str_bool a t' b
  | int b=>obtain⟨t,rfl⟩:=rx;exact SeqAt.EqAt.str_int a t' b t
  | str b=>obtain⟨t,rfl⟩:=rx;exact SeqAt.EqAt.str_str a t' b t
  | _=>exact absurd (show false=true from fx) z0j
 | _=>exact absurd (show false=true from fy) z0j
def eqU (x:V) (u:Value):Bool:=match u with
 | .none=>eqV .non x
 | .bool b=>eqV (.bl b) x
 | .int i _=>eqV (.int i) x
 | .str z _=>eqV (.str z) x
 | _=>false
theorem gw {x:V}(r:RelV y u) (f:Ke y=true):eqU x u=eqV y x:=by
 cases y with
 | non=>cases r;rfl
 | bl b=>cases r;rfl
 | int i=>obtain⟨t,rfl⟩:=r;rfl
 | str z=>obtain⟨t,rfl⟩:=r;rfl
 | _=>exact absurd (show false=true from f) z0j
theorem M_ {x:V}:∀ {xs:List V}{us:List Value},Vals xs us->xs.all Ke=true->us.any (eqU x)=xs.any λ y=>eqV y x
 | _,_,.nil,_=>rfl
 | y::xs,u::us,.cons r t,f=>by
  rw[z1k,z0x] at f;rw[z0X,z0X,gw r f.1,M_ t f.2]
theorem Km {A:Around}{s:Shared}{x:V}{v:Value}(rx:RelV x v) (fx:Ke x=true):∀ {xs:List V}{us:List Value},Vals xs us->xs.all Ke=true->∀ u∈us,SeqAt.EqAt A s u v (eqU x u)
 | _,_,.nil,_=>λ u hu=>by cases hu
 | y::xs,u::us,.cons r t,f=>λ u' hu=>by
  rw[z1k,z0x] at f
  rcases z0d.mp hu with rfl | hu
  ·rw[gw r f.1];exact gr r rx f.1 fx
  ·exact Km rx fx t f.2 u' hu
def inV (x:V) (xs:List V):Bool:=xs.any λ y=>eqV y x
def rIn (K:zFr) (neg:Bool):R2:=λ x y H Q=>∃ p xs,y=.ref p/\(SqL K H p xs∨SqT K H p xs)/\Ke x=true/\xs.all Ke=true/\Q (.bl (if neg then !inV x xs else inV x xs)) H
theorem dZ:OpR X (compareOp .In) (rIn X.K false):=by
 intro π s σ H x y v u Q I rx ry h;obtain⟨p,xs,rfl,hq,fx,fs,q⟩:=h;cases ry
 rcases hq with hq | hq
 ·obtain⟨its,r,pl,hz⟩:=I.list hq;refine SeqAt.in_listAt (eqU x) pl.isList (λ w hw=>Km rx fx r fs w (by simpa using hw)) ⟨.bl _,H,I,rfl,?_⟩;rw[show its.toArray.any (eqU x)=its.any (eqU x) by simp,M_ r fs];exact q
 ·obtain⟨its,r,pl,hz⟩:=I.tuple hq;refine SeqAt.in_tupleAt (eqU x) pl (λ w hw=>Km rx fx r fs w (by simpa using hw)) ⟨.bl _,H,I,rfl,?_⟩;rw[show its.toArray.any (eqU x)=its.any (eqU x) by simp,M_ r fs];exact q
theorem Vj:OpR X (compareOp .NotIn) (rIn X.K true):=by
 intro π s σ H x y v u Q I rx ry h;obtain⟨p,xs,rfl,hq,fx,fs,q⟩:=h;cases ry
 rcases hq with hq | hq
 ·obtain⟨its,r,pl,hz⟩:=I.list hq;refine SeqAt.notIn_listAt (eqU x) pl.isList (λ w hw=>Km rx fx r fs w (by simpa using hw)) ⟨.bl _,H,I,rfl,?_⟩;rw[show its.toArray.any (eqU x)=its.any (eqU x) by simp,M_ r fs];exact q
 ·obtain⟨its,r,pl,hz⟩:=I.tuple hq;refine SeqAt.notIn_tupleAt (eqU x) pl (λ w hw=>Km rx fx r fs w (by simpa using hw)) ⟨.bl _,H,I,rfl,?_⟩;rw[show its.toArray.any (eqU x)=its.any (eqU x) by simp,M_ r fs];exact q
theorem Eb.or {f:Value}{r':List V->Hp->VK->Prop}(h:Eb X f r) (h':Eb X f r'):Eb X f (λ xs H Q=>r xs H Q∨r' xs H Q):=by
 intro π s σ H xs us Q I rs q
 rcases q with q | q
 ·exact h π s σ H xs us Q I rs q
 ·exact h' π s σ H xs us Q I rs q
theorem GJ:Eb X (.type "list") (λ xs H Q=>∃ p ys,xs=[.ref p]/\(SqL X.K H p ys∨SqT X.K H p ys)/\∀ l,H l=none->Q (.ref l) (upd H l (.lst ys))):=by
  intro π s σ H xs us Q I r h;obtain⟨p,ys,rfl,hq,q⟩:=h;obtain⟨u,rfl,rx⟩:=vals1 r;cases rx;have fin:∀ (its:List Value),Vals ys its->ys.length<=sizeLine->∀ (h':Heap) (c':Nat),(∀ b o',s.heap.get? b=some o'->h'.get? b=some o') ->
      h'.get? s.heap.objs.size=some { cls:=.type "list",dict:=none,data:=.seq its.toArray c',slots:=#[] }->EP X π σ Q (.ref s.heap.objs.size) { s with heap:=h' }:=λ its r' hz h' c' kp e=>
    ⟨.ref s.heap.objs.size,_,I.laid (t':=s.toks) kp (z04 _) (show Bt X.prog X.w _ h' _ (.lst ys) from⟨hz,its,c',r',e⟩),rfl,q _ (I.hok.fresh (z04 _))⟩
  rcases hq with hq | hq
  · obtain⟨its,r',pl,hz⟩:=I.list hq
    have hlen:=r'.length;obtain⟨o,ho,hc,n,hd⟩:=pl.isList;exact call_list_seq p (.inl rfl) ho hc hd (λ h' c' kp e=>fin its r' hz h' c' kp e) (by simp only[z0e]<;>omega)
  · obtain⟨its,r',pl,hz⟩:=I.tuple hq
    have hlen:=r'.length;obtain⟨o,ho,hc,n,hd⟩:=pl;exact call_list_seq p (.inr rfl) ho hc hd (λ h' c' kp e=>fin its r' hz h' c' kp e) (by simp only[z0e]<;>omega)
def tyV (K:zFr) (T:String) (x:V) (H:Hp):Prop:=match x with
  | .str _=>T="str"
  | .int _=>T="int"
  | .ref p=>(T="list"/\∃ xs,SqL K H p xs)∨(T="tuple"/\∃ o,K.lookup p=some o/\o.cls=.type "tuple"/\o.dict=none) ∨
      (T="dict"/\((∃ kvs,H p=some (.dK kvs))∨∃ kvs,H p=some (.dT kvs)))∨(T="set"/\∃ S n,H p=some (.set S n))
  | _=>False
theorem g_ {T:String}{x:V}{v:Value}(I:Inv X π σ H s) (r:RelV x v) (ty:tyV X.K T x H) :
  s.TypeIs v T/\∀ a,v=.ref a->∃ ob,s.heap.get? a=some ob/\ob.dict=none:=by
 cases x with
 | str z=>
  obtain⟨t,rfl⟩:=r;cases (show T="str" from ty);exact⟨typeIs_str s z t,λ _ e=>nomatch e⟩
 | int i=>
  obtain⟨t,rfl⟩:=r;cases (show T="int" from ty);exact⟨typeIs_int s i t,λ _ e=>nomatch e⟩
 | ref p=>
  cases r
  rcases ty with ⟨rfl,xs,hq⟩ | ⟨rfl,o,hk,hc,hd⟩ | ⟨rfl,hk⟩ | ⟨rfl,S,n,hk⟩
  ·obtain⟨its,_,pl,_⟩:=I.list hq;refine⟨pl.isList.typeIs,λ a e=>?_⟩;cases e;obtain⟨o,n,e,c,hd,_⟩:=pl;exact⟨o,e,hd⟩
  ·refine⟨⟨o,I.kIn p o hk,hc⟩,λ a e=>?_⟩;cases e;exact⟨o,I.kIn _ o hk,hd⟩
  ·have z:∃ o,s.heap.get? p=some o/\o.ExactDict:=by
    rcases hk with ⟨kvs,hk⟩ | ⟨kvs,hk⟩
    ·obtain⟨_,_,_,_,o,_,_,e,ex,_⟩:=I.hok p _ hk;exact⟨o,e,ex⟩
    ·obtain⟨_,_,_,_,o,_,_,e,ex,_⟩:=I.hok p _ hk;exact⟨o,e,ex⟩
   obtain⟨o,e,ex⟩:=z;refine⟨⟨o,e,ex.1⟩,λ a e2=>?_⟩;cases e2;exact⟨o,e,ex.2.1⟩
  ·obtain⟨o,_,_,_,e,ex,_⟩:=I.hok p _ hk;refine⟨⟨o,e,ex.1⟩,λ a e2=>?_⟩;cases e2;exact⟨o,e,ex.2.1⟩
 | _=>exact False.elim ty
def tBM0 (K:zFr) (T:String) (r:V->List V->Hp->VK->Prop) (to:TE):TE:=λ σ H Q=>to σ H λ x H1=>tyV K T x H1/\r x [] H1 Q
def tBM (K:zFr) (T:String) (r:V->List V->Hp->VK->Prop) (to:TE) (t:TA):TE:=λ σ H Q=>to σ H λ x H1=>tyV K T x H1/\t σ H1 λ xs H2=>r x xs H2 Q
variable {o:Expr}{es:List Expr}{to:TE}{t:TA}{name:Str}{cpos:Pos}{T id:String}{r:V->List V->Hp->VK->Prop}
theorem h_ (pa:PlainAttrs T) (slot:Slot T name id) (hty:typeOf (.builtin id)=pure (.type "method_descriptor")) (hm:MtR X id r) (ho:PE X o to)
  (hbase:attributeBase o name X.env (eval o X.env)=eval o X.env:=by rfl) (hline:(apos.endLine==cpos.line)=true:=by rfl):PE X (.Call (.Attribute o name apos) [] [] cpos) (tBM0 X.K T r to):=by
 intro π s σ H Q I h;refine wpAny_Call_method0_late hbase hline (thn (ho π s σ H _ I h) λ v s1 ⟨x,H1,I1,r1,ty,q1⟩=>?_);obtain⟨h1,h2⟩:=g_ I1 r1 ty;exact⟨T,id,pa,slot,hty,h1,h2,Calls.callWith_builtin rfl (PySem.evalArgs_none (hm π s1 σ H1 x [] v [] Q I1 r1 .nil q1))⟩
theorem iB (pa:PlainAttrs T) (slot:Slot T name id) (hty:typeOf (.builtin id)=pure (.type "method_descriptor")) (hm:MtR X id r) (ho:PE X o to) (ha:PA X (e::es) t)
  (hbase:attributeBase o name X.env (eval o X.env)=eval o X.env:=by rfl)
  (hfew:((backTo cpos (starEach (e::es) X.env)).all (λ x=>!x.1)&&(backToKw cpos (keywordEach [] X.env)).all (λ x=>x.1.isSome)
   && decide ((e::es).length+([]:List Keyword).length+(if ([]:List Keyword).isEmpty then 0 else 1)<30))=true:=by rfl)
  (hline:(apos.endLine==cpos.line)=true:=by rfl) (hs:starEach (e::es) X.env=(false,eval e X.env)::starEach es X.env:=by rfl) (hplain:(backTo cpos (starEach es X.env)).any (·.1)=false:=by rfl) :
  PE X (.Call (.Attribute o name apos) (e::es) [] cpos) (tBM X.K T r to t):=by
 intro π s σ H Q I h;refine wpAny_Call_method_late hbase hfew hline rfl (thn (ho π s σ H _ I h) λ v s1 ⟨x,H1,I1,r1,ty,q1⟩=>?_);obtain⟨h1,h2⟩:=g_ I1 r1 ty;refine⟨T,id,pa,slot,hty,h1,h2,?_⟩;have hA:=ha cpos π s1 σ H1 _ I1 q1;rw[hs] at hA ⊢;refine Calls.callWith_builtin (by show (false||(backTo cpos (starEach es X.env)).any (·.1))=false;rw[hplain]<;>rfl) (Calls.evalArgs_plain ?_);exact thn hA λ us s2 ⟨vs,H2,I2,r2,q2⟩=>hm π s2 σ H2 x vs v us Q I2 r1 r2 q2
end
def MtM (X:Cx) (id:String) (r:V->List V->Hp->VK->Prop):Prop:=
 ∀ (π:zP) (s:Shared) (σ:St) (H:Hp) (x:V) (xs:List V) (v:Value) (us:List Value) (Q:VK),Inv X π σ H s->RelV x v->Vals xs us->r x xs H Q ->
  wpAny (model X.prog X.w) X.A (call (.builtin id) (v::us)) (EP X π σ Q) X.xe s
theorem Vals.one:∀ {x:V}{us:List Value},Vals [x] us->∃ u,us=[u]/\RelV x u
 | _,_,.cons r .nil=>⟨_,rfl,r⟩
theorem Vals.zero:∀ {us:List Value},Vals [] us->us=[]
 | _,.nil=>rfl
theorem Vals.dropLast (h:Vals xs us):Vals xs.dropLast us.dropLast:=by
 induction h with
 | nil=>exact .nil
 | cons r t ih=>
  cases t with
  | nil=>exact .nil
  | cons q t'=>exact .cons r ih
theorem Y8 {α:Type}(l:List α):l.eraseIdx (l.length-1)=l.dropLast:=by
 induction l with
 | nil=>rfl
 | cons a r ih=>
  cases r with
  | nil=>rfl
  | cons b r=>
   have e:(a::b::r).length-1=((b::r).length-1)+1:=by
    have h1:(a::b::r).length=r.length+2:=rfl;have h2:(b::r).length=r.length+1:=rfl;omega
   rw[e,List.eraseIdx_cons_succ,ih]
   all_goals rfl
section
variable {l:Addr}{zs:List V}
theorem Inv.lset {its':List Value}{f:Array Value->Array Value}(I:Inv X π σ H s) (hH:H l=some (.lst xs))
  (e:s.heap.get? l=some { cls:=.type "list",data:=.seq its.toArray n }) (hf:f its.toArray=its'.toArray) (hv:Vals ys its') (hz:ys.length<=sizeLine) :
  Inv X π σ (upd H l (.lst ys)) { s with heap:=s.heap.update l (Obj.mapSeq f),toks:=t' }:=by
 have q:=PySem.IsL.update e f;rw[hf] at q;refine I.write (x:=l) (e:=l) (by rw[hH];exact trivial) (.inl rfl) (λ b' u hb hu=>(z0S s.heap (Obj.mapSeq f) (Ne.symm hb)).trans hu) ⟨_,q⟩ ?_;exact⟨hz,its',_,hv,q⟩
theorem Inv.lnew (I:Inv X π σ H s) (hv:Vals ys its) (hz:ys.length<=sizeLine) :
  Inv X π σ (upd H s.heap.objs.size (.lst ys)) { s with heap:=s.heap.push { cls:=.type "list",data:=.seq its.toArray },toks:=t' }:=
 I.laid (λ _ _ q=>z05 _ q) (z04 _) ⟨hz,its,0,hv,z0f _ rfl⟩
theorem Inv.fresh (I:Inv X π σ H s):H s.heap.objs.size=none:=I.hok.fresh (z04 _)
theorem Inv.lstM (I:Inv X π σ H s) (hH:H l=some (.lst xs)):xs.length<=sizeLine/\∃ (its:List Value) (n:Nat),Vals xs its/\xs.length=its.length/\s.heap.get? l=some { cls:=.type "list",data:=.seq its.toArray n }:=by
 obtain⟨z,its,n,r,e⟩:=I.hok l _ hH;exact⟨z,its,n,r,r.length,e⟩
theorem iC (h:n<=sizeLine):Builtin.List.listTooLong n=false:=by
 unfold Builtin.List.listTooLong;exact z0J (by omega)
end
section
def n8:V->List V->Hp->VK->Prop:=λ x vs H Q=>∃ l xs y,x=.ref l/\vs=[y]/\H l=some (.lst xs)/\xs.length<sizeLine/\Q .non (upd H l (.lst (xs++[y])))
theorem Uo:MtM X "list.append" n8:=by
 intro π s σ H x vs v us Q I rx rv h;obtain⟨l,xs,y,rfl,rfl,hH,hz,q⟩:=h;cases rx;obtain⟨u,rfl,ru⟩:=rv.one;obtain⟨z,its,n,r,hl,e⟩:=I.lstM hH;refine call_meets F.slot_list_append ⟨_,e,rfl⟩ F.entry_list_append (F.args_list_append_2 _ _) (PySem.list_append l its.toArray n u (by rw[z0e];omega)) ⟨e,?_⟩;refine⟨.non,_,I.lset (its':=its++[u]) hH e (by simp) (r.append (.cons ru .nil)) ?_,rfl,q⟩;rw[z0u,List.length_singleton];omega
def rPop:V->List V->Hp->VK->Prop:=λ x vs H Q=>∃ l xs y,x=.ref l/\vs=[]/\H l=some (.lst xs)/\xs[xs.length-1]?=some y/\Q y (upd H l (.lst xs.dropLast))
theorem iG:MtM X "list.pop" rPop:=by
 intro π s σ H x vs v us Q I rx rv h;obtain⟨l,xs,y,rfl,rfl,hH,hy,q⟩:=h;cases rx;have hus:=rv.zero;subst hus;obtain⟨z,its,n,r,hl,e⟩:=I.lstM hH;obtain⟨u,hu,ru⟩:=r.get hy;have hy':its.toArray[its.toArray.size-1]?=some u:=by
  show its.toArray[its.length-1]?=some u;rw[<-Array.getElem?_toList,<-hl];exact hu
 refine call_meets F.slot_list_pop ⟨_,e,rfl⟩ F.entry_list_pop (F.args_list_pop_1 _) (MeetsSeq.list_pop_last l its.toArray n u hy' (by rw[z0e];omega)) ⟨e,?_⟩;refine⟨y,_,I.lset (its':=its.dropLast) hH e ?_ r.dropLast ?_,ru,q⟩
 ·show its.toArray.eraseIdxIfInBounds (its.toArray.size-1)=its.dropLast.toArray;rw[z0e,List.eraseIdxIfInBounds_toArray,Y8]
 ·rw[List.length_dropLast];omega
end
section
variable {A:Around}
end
section
end
section
variable {κ:Type} [DecidableEq κ]
def valV (kvs:List (κ×V)) (k:κ):Option V:=(kvs.find? λ kv=>decide (kv.1=k)).map (·.2)
def putK (kvs:List (κ×V)) (k:κ) (v:V):List (κ×V):=
 if (kvs.any λ kv=>decide (kv.1=k))=true then kvs.map (λ kv=>if kv.1=k then (kv.1,v) else kv) else kvs++[(k,v)]
def rG (kvs:List (κ×V)) (k:κ):List (κ×V):=kvs.filter λ kv=>decide (kv.1≠k)
theorem NB {p:κ×V}{r:List (κ×V)}{k:κ}(e:p.1=k):valV (p::r) k=some p.2:=by simp[valV,z1N,e]
theorem NK {p:κ×V}{r:List (κ×V)}{k:κ}(e:¬ p.1=k):valV (p::r) k=valV r k:=by simp[valV,z1N,e]
theorem Rq (k:κ):∀ kvs:List (κ×V),(kvs.any λ kv=>decide (kv.1=k))=(valV kvs k).isSome
 | []=>rfl
 | p::r=>by
  rw[z0X]
  by_cases e:p.1=k
  ·simp only[NB e,z1m e,Bool.true_or,z1d]
  ·rw[NK e,z0J e,Bool.false_or];exact Rq k r
theorem Qc (kvs:List (κ×V)) (k:κ) (v:V):(putK kvs k v).length<=kvs.length+1:=by
 delta putK;split
 ·rw[z02];omega
 ·rw[z0u,z0s,z1e];omega
theorem RelO.isSome_eq {o:Option V}{u:Option Value}(r:RelO o u):o.isSome=u.isSome:=by
 cases o with
 | none=>cases u with
  | none=>rfl
  | some _=>exact (show False from r).elim
 | some _=>cases u with
  | none=>exact (show False from r).elim
  | some _=>rfl
theorem KV.val {kvs:List (κ×V)}{vs:List (κ×Value)}(r:KV kvs vs) (k:κ):RelO (valV kvs k) (valueAt vs k):=by
 unfold KV at r
 induction r with
 | nil=>exact True.intro
 | @cons p q ps qs h t ih=>
  obtain⟨h1,h2⟩:=h
  by_cases e:p.1=k
  ·have e':q.1=k:=h1.symm.trans e;have b:valueAt (q::qs) k=some q.2:=by simp[valueAt,z1N,e']
   rw[NB e,b];exact h2
  ·have e':¬ q.1=k:=λ z=>e (h1.trans z);have b:valueAt (q::qs) k=valueAt qs k:=by simp[valueAt,z1N,e']
   rw[NK e,b];exact ih
theorem KV.any {kvs:List (κ×V)}{vs:List (κ×Value)}(r:KV kvs vs) (k:κ):(kvs.any λ kv=>decide (kv.1=k))=vs.any λ kv=>decide (kv.1=k):=by
 unfold KV at r
 induction r with
 | nil=>rfl
 | cons h t ih=>rw[z0X,z0X,ih,h.1]
theorem KV.repl {kvs:List (κ×V)}{vs:List (κ×Value)}(r:KV kvs vs) (k:κ) {y:V}{u:Value}(ry:RelV y u) :
  KV (kvs.map λ kv=>if kv.1=k then (kv.1,y) else kv) (vs.map λ kv=>if kv.1=k then (kv.1,u) else kv):=by
 unfold KV at r ⊢
 induction r with
 | nil=>exact .nil
 | @cons p q ps qs h t ih=>
  rw[z03,z03];refine .cons ?_ ih;obtain⟨h1,h2⟩:=h
  by_cases e:p.1=k
  ·rw[if_pos e,if_pos (h1.symm.trans e)];exact⟨h1,ry⟩
  ·rw[if_neg e,if_neg (λ z=>e (h1.trans z))];exact⟨h1,h2⟩
theorem KV.put {kvs:List (κ×V)}{vs:List (κ×Value)}(r:KV kvs vs) (k:κ) {y:V}{u:Value}(ry:RelV y u):KV (putK kvs k y) (stored vs k u):=by
 unfold putK stored;rw[r.any k]
 by_cases e:(vs.any λ kv=>decide (kv.1=k))=true
 ·rw[if_pos e,if_pos e];exact r.repl k ry
 ·rw[if_neg e,if_neg e];exact Paired.snoc r ⟨rfl,ry⟩
theorem KV.length {kvs:List (κ×V)}{vs:List (κ×Value)}(r:KV kvs vs):kvs.length=vs.length:=Paired.length r
end
theorem XQ {k:Key}(r:RelV (kV k) u):(Bj P w).is k u=true:=by
 cases k with
 | inl i=>obtain⟨t,e⟩:=(show ∃ t,u=Value.int i t from r);subst e;exact XF P w i t
 | inr x=>obtain⟨t,e⟩:=(show ∃ t,u=Value.str x t from r);subst e;exact XH P w x t
theorem Uq {P:Program}{w:World}:∀ {ks:List Key}{us:List Value},Vals (ks.map kV) us->ItemsAre (Bj P w) ks us
 | [],_,r=>by rw[z0q] at r;cases r;exact .nil
 | k::ks,_,r=>by
  rw[z03] at r;cases r with
  | cons h t=>exact .cons (XQ h) (Uq t)
abbrev KT (H:Hp):List (List Key×V)->List (List Key×Addr×Value)->Prop:=Paired λ p q=>p.1=q.1/\H q.2.1=some (.tup (p.1.map kV))/\RelV p.2 q.2.2
theorem KT.val {xs:List (List Key×Addr×Value)}(r:KT H kvs xs) (k:List Key):RelO (valV kvs k) ((atKey xs k).map (·.2)):=by
 induction r with
 | nil=>exact True.intro
 | @cons p q ps qs h t ih=>
  obtain⟨h1,_,h2⟩:=h
  by_cases e:p.1=k
  ·have e':q.1=k:=h1.symm.trans e;have b:atKey (q::qs) k=some q.2:=by simp[atKey,z1N,e']
   rw[NB e,b];exact h2
  ·have e':¬ q.1=k:=λ z=>e (h1.trans z);have b:atKey (q::qs) k=atKey qs k:=by simp[atKey,z1N,e']
   rw[NK e,b];exact ih
theorem KT.repl {xs:List (List Key×Addr×Value)}(r:KT H kvs xs) (k:List Key) {y:V}{u:Value}(ry:RelV y u) :
  KT H (kvs.map λ kv=>if kv.1=k then (kv.1,y) else kv) (xs.map (putAt k u)):=by
 induction r with
 | nil=>exact .nil
 | @cons p q ps qs h t ih=>
  rw[z03,z03];refine .cons ?_ ih;obtain⟨h1,h2,h3⟩:=h;unfold putAt
  by_cases e:p.1=k
  ·rw[if_pos e,if_pos (h1.symm.trans e)];exact⟨h1,h2,ry⟩
  ·rw[if_neg e,if_neg (λ z=>e (h1.trans z))];exact⟨h1,h2,h3⟩
theorem KT.put {xs:List (List Key×Addr×Value)}(r:KT H kvs xs) (k:List Key) {b:Addr}{y:V}{u:Value}(hb:H b=some (.tup (k.map kV))) (ry:RelV y u) :
  KT H (putK kvs k y) (storedH xs k b u):=by
 have e:(kvs.any λ kv=>decide (kv.1=k))=(atKey xs k).isSome:=by
  rw[Rq,(r.val k).isSome_eq,Option.isSome_map]
 unfold putK storedH;rw[e]
 by_cases q:(atKey xs k).isSome=true
 ·rw[if_pos q,if_pos q];exact r.repl k ry
 ·rw[if_neg q,if_neg q];exact Paired.snoc r ⟨rfl,hb,ry⟩
theorem KT.keeps {xs:List (List Key×Addr×Value)}(r:KT H kvs xs) (ht:∀ b ys,H b=some (.tup ys)->H' b=some (.tup ys)):KT H' kvs xs:=
 Paired.mapP r λ _ _ z=>⟨z.1,ht _ _ z.2.1,z.2.2⟩
section
theorem iH {u:HO}(ok:HOk P w H h) (e:Rd H a u):Bt P w H h a u:=e.ok ok
theorem MJ {kvs:List (Key×V)}(ok:HOk P w H h) (e:Rd H a (.dK kvs)):kvs.length<=sizeLine/\(a==sysModules)=false/\∃ vs,KV kvs vs/\h.DictOf (Bj P w) a vs:=
 show Bt P w H h a (.dK kvs) from iH ok e
theorem rH {kvs:List (Key×V)}(ok:HOk P w H h) (e:H a=some (.dK kvs)):kvs.length<=sizeLine/\(a==sysModules)=false/\∃ vs,KV kvs vs/\h.DictOf (Bj P w) a vs:=MJ ok (.inl e)
theorem Rr {ks:List Key}(ok:HOk P w H h) (e:H a=some (.tup (ks.map kV))):(tupleKind (Bj P w)).is h ks a:=by
 obtain⟨_,its,r,o,h1,h2,n,h3⟩:=(show Bt P w H h a (.tup (ks.map kV)) from ok a _ e);exact⟨o,its.toArray,n,h1,h2,h3,by simpa using Uq r⟩
theorem XR (ok:HOk P w H h) (e:Rd H a (.dT kvs)):kvs.length<=sizeLine/\(a==sysModules)=false ∧
  ∃ xs,KT H kvs xs/\h.DictOfH (tupleKind (Bj P w)) a xs:=by
 obtain⟨z,y,xs,r,o,es,ep,h1,h2,h3,h4,h5⟩:=(show Bt P w H h a (.dT kvs) from iH ok e);refine⟨z,y,xs,r,o,es,ep,h1,h2,h3,h4,λ x hx=>?_,h5⟩;have all:∀ {l:List (List Key×V)}{m:List (List Key×Addr×Value)},KT H l m->∀ x∈m,(tupleKind (Bj P w)).is h x.1 x.2.1:=by
  intro l m q
  induction q with
  | nil=>intro x hx;exact nomatch hx
  | @cons p q ps qs hq t ih=>
   intro x hx
   rcases z0d.mp hx with e | hx
   ·subst e;exact Rr ok (by rw[<-hq.1];exact hq.2.1)
   ·exact ih x hx
 exact all r x hx
theorem wV (ok:HOk P w H h) (e:H a=some (.dT kvs)):kvs.length<=sizeLine/\(a==sysModules)=false ∧
  ∃ xs,KT H kvs xs/\h.DictOfH (tupleKind (Bj P w)) a xs:=XR ok (.inl e)
end
def DGet (H:Hp) (a:Addr) (y:V) (r:Option V):Prop:=
 (∃ kvs k,Rd H a (.dK kvs)/\y=kV k/\r=valV kvs k)∨∃ kvs k b,Rd H a (.dT kvs)/\y=.ref b/\H b=some (.tup (k.map kV))/\r=valV kvs k
def DPut (H:Hp) (a:Addr) (y v:V) (H':Hp):Prop:=
 (∃ kvs k,H a=some (.dK kvs)/\y=kV k/\kvs.length<sizeLine/\H'=upd H a (.dK (putK kvs k v))) ∨
 ∃ kvs k b,H a=some (.dT kvs)/\y=.ref b/\H b=some (.tup (k.map kV))/\kvs.length<sizeLine/\H'=upd H a (.dT (putK kvs k v))
theorem DPut.k {H:Hp}{a:Addr}{kvs:List (Key×V)}{k:Key}{v:V}(e:H a=some (.dK kvs)) (hl:kvs.length<sizeLine):DPut H a (kV k) v (upd H a (.dK (putK kvs k v))):=.inl ⟨kvs,k,e,rfl,hl,rfl⟩
theorem DPut.t {k:List Key}(e:H a=some (.dT kvs)) (eb:H b=some (.tup (k.map kV))) (hl:kvs.length<sizeLine) :
  DPut H a (.ref b) v (upd H a (.dT (putK kvs k v))):=.inr ⟨kvs,k,b,e,rfl,eb,hl,rfl⟩
section
variable {r:Value}{o:Option V}{A:Around}
theorem Inv.big (I:Inv X π σ H s):sysModules<s.heap.objs.size:=by
 have h:mainGlobals<s.heap.objs.size:=(I.mod.glob.keeps I.bk).lt;exact Nat.lt_trans (by decide) h
theorem dg (hu:A.units+1<cLine) (I:Inv X π σ H s) (g:DGet H a y (some v)) (ry:RelV y u) (h:∀ w' s',Inv X π σ H s'->RelV v w'->Q w' s') :
  wpAny (model X.prog X.w) A (getItem (.ref a) u) Q E s:=by
 rcases g with ⟨kvs,k,e,ey,l⟩ | ⟨kvs,k,b,e,ey,eb,l⟩
 ·subst ey;obtain⟨z,hd,vs,rel,dd⟩:=MJ I.hok e;obtain⟨w',hw,rw'⟩:=RelO.some_of (v:=v) (o:=valueAt vs k) (by rw[l];exact rel.val k);exact wpAny_getItem_of (XQ ry) dd.mapOf hw (h w' _ (I.tok _) rw')
 ·subst ey;cases (show u=Value.ref b from ry);obtain⟨z,hd,xs,rel,dd⟩:=XR I.hok e;obtain⟨w',hw,rw'⟩:=RelO.some_of (v:=v) (o:=(atKey xs k).map (·.2)) (by rw[l];exact rel.val k);obtain⟨p,hp,hp2⟩:=Option.map_eq_some_iff.mp hw;refine wpAny_getItem_heap (tupleKind_room_in1 hu) (Rr I.hok eb) dd hp ?_;rw[hp2];exact h w' _ (I.tok _) rw'
theorem d_in (hu:A.units+1<cLine) (I:Inv X π σ H s) (g:DGet H a y o) (ry:RelV y u) (h:∀ s',Inv X π σ H s'->Q (.bool o.isSome) s') :
  wpAny (model X.prog X.w) A (compareOp .In u (.ref a)) Q E s:=by
 rcases g with ⟨kvs,k,e,ey,l⟩ | ⟨kvs,k,b,e,ey,eb,l⟩
 ·subst ey;obtain⟨z,hd,vs,rel,dd⟩:=MJ I.hok e;refine wpAny_in_of (XQ ry) hd dd.mapOf ?_;rw[<-(rel.val k).isSome_eq,<-l];exact h _ (I.tok _)
 ·subst ey;cases (show u=Value.ref b from ry);obtain⟨z,hd,xs,rel,dd⟩:=XR I.hok e;refine wpAny_in_heap (tupleKind_room_in1 hu) (Rr I.hok eb) hd dd ?_;have q:=(rel.val k).isSome_eq;rw[Option.isSome_map] at q;rw[<-q,<-l];exact h _ (I.tok _)
theorem n_ (hu:A.units+1<cLine) (I:Inv X π σ H s) (g:DGet H a y o) (ry:RelV y u) (h:∀ s',Inv X π σ H s'->Q (.bool (!o.isSome)) s') :
  wpAny (model X.prog X.w) A (compareOp .NotIn u (.ref a)) Q E s:=by
 rcases g with ⟨kvs,k,e,ey,l⟩ | ⟨kvs,k,b,e,ey,eb,l⟩
 ·subst ey;obtain⟨z,hd,vs,rel,dd⟩:=MJ I.hok e;refine wpAny_notIn_of (XQ ry) hd dd.mapOf ?_;rw[<-(rel.val k).isSome_eq,<-l];exact h _ (I.tok _)
 ·subst ey;cases (show u=Value.ref b from ry);obtain⟨z,hd,xs,rel,dd⟩:=XR I.hok e;refine wpAny_notIn_heap (tupleKind_room_in1 hu) (Rr I.hok eb) hd dd ?_;have q:=(rel.val k).isSome_eq;rw[Option.isSome_map] at q;rw[<-q,<-l];exact h _ (I.tok _)
theorem Q0 {ob:HO}(I:Inv X π σ H s) (mu:Mut (H a)) (hs:Heap.SameBut a s.heap h') (he:∃ q,h'.get? a=some q) (new:Bt X.prog X.w (upd H a ob) h' a ob) :
  Inv X π σ (upd H a ob) { s with heap:=h',toks:=t' }:=
 I.write (x:=a) (e:=a) mu (.inl rfl) (λ b q hb z=>(hs.2 b hb).trans z) he new
theorem iJ {kvs:List (Key×V)}{vs:List (Key×Value)}(z:kvs.length<=sizeLine) (hd:(a==sysModules)=false) (rel:KV kvs vs) (dd:h'.DictOf (Bj P w) a vs) :
  Bt P w H' h' a (.dK kvs):=⟨z,hd,vs,rel,dd⟩
theorem dh {Q:Unit->Shared->Prop}(hu:A.units+1<cLine) (I:Inv X π σ H s) (g:DPut H a y v H') (ry:RelV y u) (rv:RelV v r) (h:∀ s',Inv X π σ H' s'->Q () s') :
  wpAny (model X.prog X.w) A (setItem (.ref a) u r) Q E s:=by
 rcases g with ⟨kvs,k,e,ey,l,eH⟩ | ⟨kvs,k,b,e,ey,eb,l,eH⟩
 ·subst ey eH;obtain⟨z,hd,vs,rel,dd⟩:=rH I.hok e;have hz:vs.length<=sizeLine:=by rw[<-rel.length];exact z
  have hl:(putK kvs k v).length<=sizeLine:=by have:=Qc kvs k v;omega
  refine wpAny_setItem_pairs (hsz:=hz) (XQ ry) dd λ h' dd' hs=>h _ ?_;have he:∃ q,h'.get? a=some q:=let ⟨q,_,_,hq,_⟩:=dd';⟨q,hq⟩;exact Q0 I (by rw[e];exact True.intro) hs he (iJ hl hd (rel.put k rv) dd')
 ·subst ey eH;cases (show u=Value.ref b from ry);obtain⟨z,hd,xs,rel,dd⟩:=wV I.hok e;have hz:xs.length<=sizeLine:=by rw[<-Paired.length rel];exact z
  have hl:(putK kvs k v).length<=sizeLine:=by have:=Qc kvs k v;omega
  refine wpAny_setItem_heap (hsz:=hz) (tupleKind_room_in1 hu) (Rr I.hok eb) dd λ h' dd' hs=>h _ ?_;obtain⟨q,es,ep,hq,h2,h3,h4,_,h5⟩:=dd';refine Q0 I (by rw[e];exact True.intro) hs ⟨q,hq⟩ ⟨hl,hd,_,(rel.put k eb rv).keeps λ c ys ec=>?_,q,es,ep,hq,h2,h3,h4,h5⟩;rw[Al (rC ec e (λ z=>nomatch z))];exact ec
end
section
variable {kvs:List (Key×V)}{k:Key}{A:Around}
theorem wW (I:Inv X π σ H s) (e:Rd H a (.dK kvs)) (h:∀ t s',Inv X π σ H s'->Q (.int kvs.length t) s'):wpAny (model X.prog X.w) A (call (.builtin "len") [.ref a]) Q E s:=by
 obtain⟨z,hd,vs,rel,dd⟩:=MJ I.hok e;refine call_len_dict hd dd (by rw[<-rel.length];rw[sizeLine_eq] at z;omega) ?_;rw[<-rel.length];exact h _ _ (I.tok _)
end
theorem XS {o:Option V}(I:Inv X π σ H s) (g:DGet H a y o):s.TypeIs (.ref a) "dict":=by
 rcases g with ⟨kvs,k,e,_,_⟩ | ⟨kvs,k,b,e,_,_,_⟩
 ·obtain⟨_,_,vs,_,dd⟩:=MJ I.hok e;exact dd.typeIs
 ·obtain⟨_,_,xs,_,dd⟩:=XR I.hok e;exact dd.typeIs
def wX (td ty tv:TE):TS:=λ D σ H=>tv σ H λ v H1=>td σ H1 λ x H2=>ty σ H2 λ y H3=>∃ a H4,x=.ref a/\DPut H3 a y v H4/\D.nx σ H4
section
variable {o i value:Expr}{tpos:Pos}{td ty tv:TE}
theorem Vk (hu:X.A.units+1<cLine) (ho:PE X o td) (hi:PE X i ty) (hv:PE X value tv) (hs:swapsWith value (some (.Subscript o i pos')) pos.line X.env=pure false) :
  PS X (.Assign [.Subscript o i pos'] value pos) (wX td ty tv):=by
 intro π s σ H D I h;refine wpAny_Assign_Subscript (thn (hv π s σ H _ I h) λ r s1 ⟨v,H1,I1,rv,q1⟩=>thn (ho π s1 σ H1 _ I1 q1) λ u s2 ⟨x,H2,I2,rx,q2⟩=>thn (hi π s2 σ H2 _ I2 q2) λ iv s3 ⟨y,H3,I3,ry,a,H4,ex,g,q3⟩=>?_) hs;subst ex;obtain rfl:u=Value.ref a:=rx;exact dh hu I3 g ry rv λ s4 I4=>⟨σ,H4,I4,q3⟩
end
theorem iK (h:Heap) (hb:sysModules<h.objs.size):Bt P w H (h.push { cls:=.type "dict",data:=.dict #[] }) h.objs.size (.dK []):=
 ⟨z0P _,z0y.mpr (Ne.symm (z08 hb)),[],.nil,Heap.DictOf.new h⟩
theorem iM (h:Heap) (hb:sysModules<h.objs.size):Bt P w H (h.push { cls:=.type "dict",data:=.dict #[] }) h.objs.size (.dT []):=
 ⟨z0P _,z0y.mpr (Ne.symm (z08 hb)),[],.nil,_,#[],0,z0f _ rfl,⟨rfl,rfl,rfl⟩,rfl,rfl,List.nodup_nil⟩
def uU:TE:=λ _ H Q=>∀ p,H p=none->Q (.ref p) (upd H p (.dK []))
def uV:TE:=λ _ H Q=>∀ p,H p=none->Q (.ref p) (upd H p (.dT []))
section
theorem iQ:PE X (.Dict [] [] pos) uU:=λ π s σ H Q I h=>
 wpAny_Dict_empty ⟨.ref s.heap.objs.size,_,I.laid (a:=s.heap.objs.size) (o:=.dK []) (t':=s.toks) (λ _ _ q=>z05 _ q) (z04 _) (iK s.heap I.big),rfl,h _ (I.hok.fresh (z04 _))⟩
theorem iR:PE X (.Dict [] [] pos) uV:=λ π s σ H Q I h=>
 wpAny_Dict_empty ⟨.ref s.heap.objs.size,_,I.laid (a:=s.heap.objs.size) (o:=.dT []) (t':=s.toks) (λ _ _ q=>z05 _ q) (z04 _) (iM s.heap I.big),rfl,h _ (I.hok.fresh (z04 _))⟩
end
section
variable {d:V}{r:Value}{o:Option V}{A:Around}
end
section
variable {o f:Expr}{cpos:Pos}{td ty tx:TE}
end
section
variable {kvs:List (Key×V)}{A:Around}
theorem iT (I:Inv X π σ H s) (e:Rd H a (.dK kvs)) (h:∀ p s',H p=none->Inv X π σ (upd H p (.dK kvs)) s'->Q (.ref p) s'):wpAny (model X.prog X.w) A (call (.type "dict") [.ref a]) Q E s:=by
 obtain⟨z,hd,vs,rel,dd⟩:=MJ I.hok e;refine kt_call_dict hd dd (by rw[<-rel.length];exact z) λ h' dd' hs=>?_;refine h _ _ (I.hok.fresh (z04 _)) (I.laid (a:=s.heap.objs.size) (o:=.dK kvs) (t':=s.toks) (λ b q hq=>?_) (z04 _) (iJ z (z0y.mpr (Ne.symm (z08 I.big))) rel dd'));exact (hs.2 b (z08 (z06 hq))).trans (z05 _ hq)
end
section
variable {A:Around}
end
end L2
namespace Att
open PySem PySem.W PySem.Calls PyProof.Rows
theorem Qy {P:Params}:∀ (ns:List Int) (vs:List Value),WellAll P h vs (ns.map WData.int)->IntsAre vs ns:=by
 intro ns
 induction ns with
 | nil=>
  intro vs w;rw[z0q] at w;cases w;exact .nil
 | cons n ns ih=>
  intro vs w;rw[z03] at w;cases w with
  | cons a b=>
   cases a;exact .cons _ _ (ih _ b)
theorem di {l:OpenLaw}(hn:l.most=some n) {P:Params}{h:Heap}{args:List WData}{vals:List Value}
  (hpre:l.row.toRowW.claim.pre args=true) (hwl:WellAll P h vals args) :
  ∃ a vs ns,vals=[Value.ref a]/\args=[WData.list (ns.map WData.int)]/\h.get? a=some { cls:=.type "list",data:=.seq vs.toArray }/\IntsAre vs ns/\ns.length<=n:=by
 have hsh:WShape.hasAll [] args [.list .int]=true:=(pre_splitW hpre).1;have hc:l.pre.holds [] { args:=args }=true:=(pre_splitW hpre).2;obtain⟨d,r,rfl,h1,h2⟩:=hasAllW_cons hsh;obtain rfl:=hasAllW_nil h2;obtain⟨xs,rfl,h3⟩:=hasW_list h1;obtain⟨ns,rfl⟩:=items_int h3;have hlen:ns.length<=n:=by
  unfold OpenLaw.pre at hc;have h4:(WTm.not (.lt (.lit (.int (n:Int))) (.len (.arg 0)))).holds [] { args:=[.list (ns.map .int)] }=true:=by
   have h4:=(holds_andW hc).1;rw[hn] at h4;exact h4
  have h5:=condW_of h4 (w_not (w_lt w_lit (w_len_list (w_arg rfl))));rw[z02] at h5;refine Nat.le_of_not_lt λ q=>?_;have q':(n:Int)<((ns.length:Nat):Int):=by omega
  first
   | (rw[z1m q'] at h5;exact absurd h5 (by decide))
   | (simp at h5;omega)
 cases hwl with
 | cons w1 w2=>
  cases w2;cases w1 with
  | list ho hall=>exact⟨_,_,ns,rfl,rfl,ho,Qy ns _ hall,hlen⟩
theorem dj (l:OpenLaw) (args:List WData):l.row.toRowW.claim.post args (.bool true) args=true:=
 postW_of (r:=l.row.toRowW) (X:=(true==true))
  (show WShape.has [] (.bool true) .bool=true by first | rfl | decide | simp[WShape.has,WShape.arms,WShape.armsAll])
  (show (WTm.eq .res (.lit (.bool true))).value [] { args:=args,res:=some (.bool true),after:=args }=some (.bool (true==true)) from w_eq_bool (w_res rfl) w_lit) rfl
section
variable {A:Around}{K:Frag}
end
end Att
namespace L2
open PySem PySem.Spec PyProof.Rows
theorem Ur:∀ {vs:List Value}{ns:List Int},IntsAre vs ns->Vals (ns.map V.int) vs
 | _,_,.nil=>.nil
 | _,_,.cons n t h=>.cons ⟨t,rfl⟩ (Ur h)
def Only (H:Hp):Prop:=∀ b,H b=none∨∃ o xs,H b=some (.frz o (.lst xs))
theorem iU {K:zFr}{mb:Str->Option Value}{k:Nat}{fa:Addr}{x:Str}{s₁:Shared}{vs:List Value}{ns:List Int}(KX:K.In s₁.heap) (hns:s₁.heap.Ns mainGlobals mg) (hb:s₁.heap.Ns builtinsNs mb) (hbb:∀ x:Str,x≠"__name__"->mb x=bootBuiltins x) (hlim:s₁.heap.NoLimit) (hg:s₁.gens=#[])
    (ha:s₁.heap.get? a=some { cls:=.type "list",data:=.seq vs.toArray }) (hi:IntsAre vs ns) (hl:ns.length<=sizeLine) (hr:Room k callerA)
    (F:∀ base:Heap,K.In base->base.Ns mainGlobals mg->FnOk P w K mg base CX k fa fd [x] sp) (hbind:∀ (s:Shared) (u:Value),BindsTo s fd ⟨[u],[]⟩ [(x,u)])
    (hsp:∀ H:Hp,Only H->SqL K H a (ns.map V.int)->sp [.ref a] H (λ v _=>v=.bl true) λ _ _ _=>False)
    (hCX:∀ H e s',CX [] H s₁ (λ _ _ _=>False) e s'->False) :
    codeAny (model P w) callerA (.call (.ref fa) ⟨[.ref a],[]⟩) (λ r s'=>r=.ok (.ret (.bool true))/\OldK s₁.heap s'.heap/\s'.os=s₁.os/\AllBare s'.gens) s₁:=by
  have rv:=Ur hi;have lenV:=hi.length;have core:∀ H:Hp,Only H->SqL K H a (ns.map V.int)->HOk P w H s₁.heap->(∀ b,H b≠none->b=a)->(H a≠none->K.lookup a=none) ->
      codeAny (model P w) callerA (.call (.ref fa) ⟨[.ref a],[]⟩) (λ r s'=>r=.ok (.ret (.bool true))/\OldK s₁.heap s'.heap/\s'.os=s₁.os/\AllBare s'.gens) s₁:=by
    intro H hO hS hok hA hK;have base_of:∀ {b:Addr}{o:Obj},s₁.heap.get? b=some o->H b=none->(hidT s₁.heap H).get? b=some o:=λ e n=>fu e n;have noA:∀ {b:Addr}{o:Obj}{es:Array DictEntry}{ep:Nat},s₁.heap.get? b=some o->o.data=.dict es ep->H b=none:=λ {b o es ep} e d=>by
      cases q:H b with
      | none=>rfl
      | some u=>
        have e':b=a:=hA b (by rw[q];simp);subst e';rw[ha] at e;cases e;have d':Data.seq vs.toArray _=Data.dict es ep:=d;cases d'
    have nsK:∀ {b:Addr}{m:Str->Option Value},s₁.heap.Ns b m->(hidT s₁.heap H).Ns b m:=λ {b m} ⟨o,es,ep,e,d,r⟩=>⟨o,es,ep,base_of e (noA e d),d,r⟩;have hKb:K.In (hidT s₁.heap H):=λ b o e=>base_of (KX b o e) (by
      cases q:H b with
      | none=>rfl
      | some u=>
        have e':b=a:=hA b (by rw[q];simp);subst e';rw[hK (by rw[q];simp)] at e;cases e)
    have hM:Mod K mg (hidT s₁.heap H):=⟨hKb,nsK hns,⟨mb,nsK hb,hbb⟩,let ⟨mc,h1,h2⟩:=hlim;⟨mc,nsK h1,h2⟩⟩;have e0:Env0 P w K mg (hidT s₁.heap H) callerA [] s₁ H:=⟨rfl,hM,λ b o e=>nC e,Nat.le_of_eq (dM _ _),trivial,λ b hb=>absurd (show b∈([]:List Addr) from hb) (by simp),hok,.of_eq hg⟩;refine z0O ((F _ hKb (nsK hns)).run callerA [] s₁ H ⟨[.ref a],[]⟩ [.ref a] [.ref a] _ _ hr e0 (hbind s₁ (.ref a)) (.cons rfl .nil) (hsp H hO hS)) λ r s' h=>?_;cases r with
    | error e=>exact (hCX H e s' h).elim
    | ok fl=>
      cases fl with
      | next=>exact False.elim h
      | brk=>exact False.elim h
      | cont=>exact False.elim h
      | ret u=>
        obtain⟨v,H',os,bare,un,hok',r',q⟩:=h;have q':v=.bl true:=q;subst q';obtain rfl:u=Value.bool true:=r';refine⟨rfl,OldK.of_keep λ b o e=>?_,os,bare⟩;cases q:H b with
        | none=>exact un.keep b o e q (by intro z;exact absurd (show b∈([]:List Addr) from z) (by simp)) (by simp)
        | some u=>
          rcases hO b with z | ⟨ob,xs,z⟩
          · rw[q] at z;cases z
          · have z2:=un.frzs b ob _ z
            obtain⟨e1,_⟩:=hok b _ z;obtain⟨e2,_⟩:=hok' b _ z2;rw[e] at e1;cases e1;exact e2
  cases hk:K.lookup a with
  | some o=>
    have e:=KX a o hk;rw[ha] at e;cases e;refine core (λ _=>none) (λ _=>.inl rfl) (.inr ⟨_,vs.toArray,_,hk,rfl,rfl,rfl,by rw[z0e,lenV];exact hl,by simpa using rv⟩) (λ b u z=>by have z':(none:Option HO)=some u:=z;cases z') (λ b z=>absurd rfl z) λ z=>absurd rfl z
  | none=>
    refine core (λ b=>if b=a then some (.frz { cls:=.type "list",data:=.seq vs.toArray } (.lst (ns.map V.int))) else none) (λ b=>?_) (.inl (.inr ⟨{ cls:=.type "list",data:=.seq vs.toArray },if_pos rfl⟩)) (λ b u z=>?_) (λ b z=>?_) λ _=>hk
    · by_cases hb:b=a
      · exact .inr ⟨_,_,if_pos hb⟩
      · exact .inl (if_neg hb)
    · by_cases hb:b=a
      · have z':=(if_pos hb).symm.trans z
        cases z';subst hb;exact⟨ha,by rw[z02];exact hl,vs,_,rv,ha⟩
      · have z':=(if_neg hb).symm.trans z
        cases z'
    · by_cases hb:b=a
      · exact hb
      · exact absurd (if_neg hb) z
abbrev KOf {K:zFr}{h:Heap}(_:K.In h):PySem.W.Frag:=K
def inClass (s:Stmt) (j:Nat):Stmt:=match s with
 | .ClassDef _ _ _ body _ _ _ _ _ _ _=>body.getD j (.Pass ⟨0,0,0,0⟩)
 | _=>.Pass ⟨0,0,0,0⟩
def Cd (s:Stmt):Arguments:=match s with
 | .FunctionDef _ a _ _ _ _ _ _ _ _=>a
 | _=>{ posonlyargs:=[],args:=[],vararg:=none,kwonlyargs:=[],kw_defaults:=[],kwarg:=none,defaults:=[] }
def Bk (s:Stmt):List Stmt:=match s with
 | .FunctionDef _ _ b _ _ _ _ _ _ _=>b
 | _=>[]
def Ad (s:Stmt):Scope:=match s with
 | .FunctionDef _ _ _ _ _ _ sc _ _ _=>sc
 | _=>{ kind:=.function,names:=[],isGenerator:=false,isCoroutine:=false }
abbrev CX0:CXT:=λ _ _ _ _ _ _=>False
abbrev E0:XK:=λ _ _ _=>False
theorem iV:Ro CX0 X E0:=λ _ _ _ _ _ _ _ h=>h.elim
structure Fun (K:zFr) (x qual:Str) (st:Stmt) (f:Addr) (fd:FuncData):Prop where
 ex:∃ (oc:Value) (od:Option Addr) (kV doc pm:Value) (an:Option Addr) (cdv ct:Value) (osl:Array (Option Value)),
  fd=PySem.W.fnOf x qual (Cd st) (Bk st) (Ad st) .none kV doc pm an cdv ct/\K.lookup f=some ⟨oc,od,.func fd,osl⟩/\PySem.W.codeIn K cdv qual=true
 kp:PySem.W.keepIn K (.ref f)=true
section
variable {K:zFr}{base:Heap}
theorem Fun.ok {x:Str}{st:Stmt}{f:Addr}{k:Nat}(F:Fun K x qual st f fd) (S:FnScope N ps (Ad st)) (len:∀ vs H Q E,sp vs H Q E->vs.length=ps.length)
  (hbody:∀ (cdv:Value) (A:Around) (outer:List Env) (s:Shared) (H:Hp) (vs:List V) (Q:VK) (E:XK),Room k (A.deeper (envOfC qual (Ad st) s.heap.objs.size f cdv))->sp vs H Q E ->
   ∃ t,PSs (cxOf CX0 P w K mg base N qual (Ad st) f cdv A outer s H E).nox (Bk st) t/\t { nx:=λ _ H'=>Q .non H',rt:=Q } (start N vs) H):FnOk P w K mg base CX0 (k+1) f fd ps sp:=by
 obtain⟨oc,od,kV,doc,pm,an,cdv,ct,osl,rfl,lk,hcd⟩:=F.ex;refine gf lk hcd S len λ A outer s H vs Q E hr hsp=>?_;obtain⟨t,h,q⟩:=hbody cdv A outer s H vs Q E hr hsp;exact⟨t,h.nox,q⟩
theorem Fun.binds {x:Str}{st:Stmt}{f:Addr}(F:Fun K x qual st f fd)
  (h:∀ (kV doc pm:Value) (an:Option Addr) (cdv ct:Value) (us:List Value),us.length=ps.length->bindArgs (PySem.W.fnOf x qual (Cd st) (Bk st) (Ad st) .none kV doc pm an cdv ct) ⟨us,[]⟩=pure (ps.zip us)):Binds K fd ps []:=by
 obtain⟨oc,od,kV,doc,pm,an,cdv,ct,osl,rfl,lk,hcd⟩:=F.ex;exact .all (h kV doc pm an cdv ct)
theorem Jz {x:Str}{st:Stmt}{f:Addr}{kV:Value}(l:K.lookup f=some ⟨oc,od,.func (PySem.W.fnOf x qual (Cd st) (Bk st) (Ad st) .none kV doc pm an cdv ct),osl⟩)
  (c:PySem.W.codeIn K cdv qual=true) (k:PySem.W.keepIn K (.ref f)=true):Fun K x qual st f (PySem.W.fnOf x qual (Cd st) (Bk st) (Ad st) .none kV doc pm an cdv ct):=⟨⟨oc,od,kV,doc,pm,an,cdv,ct,osl,rfl,l,c⟩,k⟩
end
theorem Hz {A:Around}{k:Nat}(hr:Room k A):A.units+1<cLine:=z1n (Nat.add_le_add_left (by decide:1<=64) _) hr.units
section
theorem pv (i:Nat) {x:Str}{pos:Pos}(hN:X.N[i]?=some x:=by rfl) (hv:Vis X.env.scope x:=by first | exact Or.inl rfl | exact Or.inr (Or.inl rfl) | exact Or.inr (Or.inr rfl)) (hd:(x==("__debug__":Str))=false:=by decide)
  (hcd:(x==("__classdict__":Str))=false:=by decide):PE X (.Name x pos) (tVar i):=tV hN hv hd hcd
end
theorem iteF {A B:Prop}(h:B):if false=true then A else B:=by
 rw[if_neg z0j];exact h
theorem iteT {A B:Prop}(h:A):if true=true then A else B:=by
 rw[if_pos rfl];exact h
def Same (H H':Hp):Prop:=∀ b o,H b=some o->H' b=some o
theorem Same.refl (H:Hp):Same H H:=λ _ _ h=>h
theorem Same.trans {H2:Hp}(a:Same H H1) (b:Same H1 H2):Same H H2:=λ c o h=>b c o (a c o h)
theorem Same.free (e:Same H H') {l:Addr}(h:H' l=Option.none):H l=Option.none:=by
 cases q:H l with
 | none=>rfl
 | some o=>
  rw[e l o q] at h;cases h
theorem Same.seq {K:zFr}(e:Same H H') (h:SqL K H a xs):SqL K H' a xs:=by
 rcases h with (h | ⟨o,h⟩) | h
 ·exact .inl (.inl (e _ _ h))
 ·exact .inl (.inr ⟨o,e _ _ h⟩)
 ·exact .inr h
section
variable {κ:Type} [DecidableEq κ]
end
end L2
namespace EX
open PySem PySem.Spec L2
open PyProof.Rows hiding St
def tbV:Option Addr->Value
 | none=>.none
 | some T=>.ref T
def ExcP (a C:Addr) (od tb:Option Addr):Heap->Prop:=λ h=>∃ o vs,h.get? a=some o/\o.cls=.ref C/\o.dict=od/\o.data=.fields vs/\vs.size=6/\vs[1]?=some (tbV tb)
def TbP (T:Addr) (v:Value):Heap->Prop:=λ h=>∃ o ts,h.get? T=some o/\o.data=.fields ts/\ts[3]?=some v/\o.cls=.type "traceback"
abbrev excO (a C:Addr) (od tb:Option Addr):HO:=.ext (ExcP a C od tb)
abbrev tbO (T:Addr) (v:Value):HO:=.ext (TbP T v)
theorem ExcP.ok (x:ExcP a C od tb h):Bt P w H h a (excO a C od tb):=
 ⟨x,let ⟨o,_,e,_⟩:=x;⟨o,e⟩,λ h1 h2 ⟨o,vs,e,r⟩ k=>⟨o,vs,k o e,r⟩⟩
theorem TbP.ok {v:Value}(x:TbP a v h):Bt P w H h a (tbO a v):=
 ⟨x,let ⟨o,_,e,_⟩:=x;⟨o,e⟩,λ h1 h2 ⟨o,vs,e,r⟩ k=>⟨o,vs,k o e,r⟩⟩
theorem oA (f:Array Value->Array Value) (o:Obj):(Obj.mapFields f o).dict=o.dict:=by
 unfold Obj.mapFields;split<;>rfl
section
variable {e:Addr}
theorem dm (I:Inv X π σ H s) (x:Heap.SlotsOnly (frs X.stack) s.heap h'):Inv X π σ H { s with heap:=h' }:=by
 have k:∀ b o,s.heap.get? b=some o->H b=none->b∉frs X.stack->h'.get? b=some o:=λ b o q _ hb=>(x.2.1 b hb).trans q;refine I.call (g':=s.gens) (d':=s.drawn) (t':=s.toks) (ch:=[]) ⟨λ b o q n hb _=>k b o q n hb,λ b o q _ _ _=>x.2.2 b o q,λ _ _ _ n _=>n,λ b o q _=>let ⟨_,z⟩:=x.2.2 b o q;⟨_,z⟩,λ _ _ q=>q,λ _ _ _ q=>q,λ _ ps q=>⟨#[],by rw[q];simp⟩⟩ (λ b u q=>?_) I.bare λ _ z=>nomatch z;have no:∀ c v,H c=some v->c∉frs X.stack:=λ c v q z=>by rw[I.stkFree c z] at q;cases q
 refine (I.hok b u q).stay (λ c v hc r=>(x.2.1 c ?_).trans r) (λ _ r=>r) λ _ _ r=>r
 rcases hc with z | z
 ·rw[z];exact no b u q
 ·exact no c _ z
theorem Ld {o:Obj}{vs:Array Value}{u u':HO}{v:Value}(I:Inv X π σ H s) (hH:H a=some u) (mu:Mut (some u)) (ho:s.heap.get? a=some o) (hd:o.data=.fields vs)
  (new:∀ h' o',h'.get? a=some o'->o'.cls=o.cls->o'.dict=o.dict->o'.data=.fields (vs.setIfInBounds i v)->Bt X.prog X.w (upd H a u') h' a u') :
  Inv X π σ (upd H a u') { s with heap:=s.heap.update a (Obj.mapFields (·.setIfInBounds i v)) }:=by
 have hd':=z1O hd (·.setIfInBounds i v);have g:=z18 (Obj.mapFields (·.setIfInBounds i v)) ho (Obj.isFreed_of_fields hd');exact I.write (x:=a) (e:=a) (t':=s.toks) (by rw[hH];exact mu) (.inl rfl) (λ b q nb z=>(z0S _ _ (Ne.symm nb)).trans z) ⟨_,g⟩ (new _ _ g (Obj.cls_mapFields _ _) (oA _ _) hd')
structure Noted (X:Cx) (π:zP) (σ:St) (H:Hp) (e C:Addr) (od tb:Option Addr) (T:Addr) (H':Hp) (s':Shared):Prop where
 inv:Inv X π σ H' s'
 exc:H' e=some (excO e C od (some T))
 tbk:H' T=some (tbO T .none)
 new:H T=none
 rest:∀ b u,b≠e->tb≠some b->H b=some u->H' b=some u
theorem XX {Q:Unit->Shared->Prop}{head:Value}{hadNext:Bool}(hst:X.stack=X.env::X.outer) (hf:X.env.frame=some L) (I:Inv X π σ H s) (he:H e=some (excO e C od tb))
  (k:∀ T H' s',Noted X π σ H e C od none T H' s'->Q () s') :
  wpAny M X.A (do let a <-frameOf X.env;let pl <-entryPlaceOf L hadNext;let b <-EntryCells.newEntry head a .none (rawInt L) .none pl;setField (.ref e) 1 b) (λ _ s₂=>wpAny M X.A (setFlight (.ref e) none) Q E s₂) E s:=by
 refine z00 (wpAny_frameOf_fun (base:=X.base) (outer:=X.outer) (hst▸I.ok.frames) (hst▸I.stack) hf λ h1 x1=>?_);have I1:=dm I (h':=h1) (hst▸x1);refine z00 (wpAny_entryPlaceOf λ pl hpl=>?_);unfold EntryCells.newEntry newFields;refine z00 (z0R ?_ (hpl.sizeOk5 _ _ _ _ _));have h3:([head,.ref L,.none,rawInt L,.none]++(if pl.isEmpty then List.replicate 6 Value.none else pl)).toArray[3]?=some (rawInt L):=by simp
 generalize ([head,.ref L,.none,rawInt L,.none]++(if pl.isEmpty then List.replicate 6 Value.none else pl)).toArray=ts at h3;have g2:(h1.push { cls:=.type "traceback",dict:=none,data:=.fields ts }).get? h1.objs.size=some { cls:=.type "traceback",dict:=none,data:=.fields ts }:=z0f h1 rfl;have I2:=I1.laid (a:=h1.objs.size) (o:=tbO h1.objs.size (rawInt L)) (h':=h1.push { cls:=.type "traceback",dict:=none,data:=.fields ts }) (t':=s.toks) (λ b u q=>z05 _ q) (z04 _) (TbP.ok ⟨_,ts,g2,rfl,h3,rfl⟩);have hT:H h1.objs.size=none:=I1.hok.fresh (z04 _);have neT:e≠h1.objs.size:=Aw he hT;have he2:(upd H h1.objs.size (tbO h1.objs.size (rawInt L))) e=some (excO e C od tb):=by rw[Al neT];exact he
 obtain⟨⟨o,vs,q1,q2,q3,q4,q5,q6⟩,_⟩:=I2.hok e _ he2;refine z0Y q1 q4 (by omega) ?_;have I3:=Ld (u':=excO e C od (some h1.objs.size)) (i:=1) (v:=.ref h1.objs.size) I2 he2 trivial q1 q4 λ h' o' r1 r2 r3 r4=>ExcP.ok ⟨o',_,r1,r2.trans q2,r3.trans q3,r4,by simpa using q5,by simp[tbV,q5]⟩;have e3:=Ai (H:=upd H h1.objs.size (tbO h1.objs.size (rawInt L))) (a:=e) (o:=excO e C od (some h1.objs.size));have t3:upd (upd H h1.objs.size (tbO h1.objs.size (rawInt L))) e (excO e C od (some h1.objs.size)) h1.objs.size=some (tbO h1.objs.size (rawInt L)):=by rw[Al (Ne.symm neT)];exact Ai
 obtain⟨⟨o5,vs5,p1,p2,p3,p4,p5,p6⟩,_⟩:=I3.hok e _ e3;unfold setFlight;refine z00 (z16 p1 p4 p6 ?_);rw[if_pos (show (tbV (some h1.objs.size) != Value.none)=true from by simp[tbV])];obtain⟨⟨o6,ts6,r1,r2,r3,r4⟩,_⟩:=I3.hok h1.objs.size _ t3;have z3:3<ts6.size:=(Array.getElem?_eq_some_iff.mp r3).1;refine z0Y r1 r2 z3 ?_;have I4:=Ld (u':=tbO h1.objs.size .none) (i:=3) (v:=(none:Option Addr).elim Value.none λ f=>rawInt f) I3 t3 trivial r1 r2 λ h' o' y1 y2 y3 y4=>TbP.ok ⟨o',_,y1,y4,by simp[z3],y2.trans r4⟩;refine k h1.objs.size _ _ ⟨I4,?_,Ai,hT,λ b u hb _ q=>?_⟩
 ·rw[Al neT];exact e3
 ·have:=Aw q hT;rw[Al this,Al hb,Al this];exact q
theorem oE {Q:Unit->Shared->Prop}(hst:X.stack=X.env::X.outer) (hf:X.env.frame=some L) (I:Inv X π σ H s) (he:H e=some (excO e C od tb)) (ht:∀ T,tb=some T->H T=some (tbO T .none))
  (k:∀ T H' s',Noted X π σ H e C od tb T H' s'->Q () s') :
  wpAny M X.A (noteFrame (.ref e) X.env) (λ _ s₂=>wpAny M X.A (setFlight (.ref e) none) Q E s₂) E s:=by
 obtain⟨⟨o,vs,q1,q2,q3,q4,q5,q6⟩,_⟩:=I.hok e _ he;unfold noteFrame;simp only[hf];refine z00 (z16 q1 q4 q6 ?_);cases tb with
 | none=>
  rw[if_neg (by decide)];exact XX hst hf I he λ T H' s' n=>k T H' s' n
 | some T0=>
  have hT0:=ht T0 rfl;obtain⟨⟨oT,ts,r1,r2,r3,r4⟩,_⟩:=I.hok T0 _ hT0;rw[if_pos (show (tbV (some T0) != Value.none)=true from by simp[tbV])];refine z00 (z16 r1 r2 r3 ?_);rw[if_neg (show ¬ ((Value.none==rawInt L)=true) from by simp[rawInt])];have z3:3<ts.size:=(Array.getElem?_eq_some_iff.mp r3).1;refine z00 (z0Y r1 r2 z3 ?_);have I1:=Ld (u':=tbO T0 .none) (i:=3) (v:=.none) I hT0 trivial r1 r2 λ h' o' y1 y2 y3 y4=>TbP.ok ⟨o',_,y1,y4,by simp[z3],y2.trans r4⟩;have ne:e≠T0:=λ z=>by
   subst z;rw[r1] at q1;cases q1;rw[r4] at q2;cases q2
  refine XX hst hf I1 (tb:=some T0) (by rw[Al ne];exact he) λ T H' s' n=>k T H' s' ⟨n.inv,n.exc,n.tbk,?_,λ b u hb hb' q=>n.rest b u hb (by simp) (by rw[Al (λ z=>hb' (by rw[z]))];exact q)⟩;have:=n.new
  by_cases z:T=T0
  ·subst z;rw[Ai] at this;cases this
  ·rwa [Al z] at this
end
end EX
namespace PV
open PySem L2
set_option genInjectivity true in
inductive D where
 | non | bl (b:Bool) | int (i:Int) | str (x:Str) | tup (ds:List D) | lst (ds:List D)
 | dk (kvs:List (Key×D)) | dt (kvs:List (List Key×D)) | ob (c:Str) (fs:List (Str×D)) | adr (a:Addr) | exc (c:Str) (fs:List (Str×D)) | err (c:Str) (fs:List (Str×D))
inductive Slot where
 | un | fz (d:D) | ow (d:D)
abbrev Rho:=List Slot
abbrev FE:=Rho->Option D
abbrev FA:=Rho->Option (List D)
abbrev FT:=Rho->Option Bool
abbrev FO:=Rho->Option (Option Int)
abbrev FI:=Rho->Option (List D)
def vF (i:Nat):FE:=λ ρ=>match ρ[i]? with | some (.fz d)=>some d | _=>none
def vU (i:Nat):FE:=λ ρ=>match ρ[i]? with | some (.fz d)=>some d | some (.ow d)=>some d | _=>none
def kF (d:D):FE:=λ _=>some d
def bF (g:D->D->Option D) (fa fb:FE):FE:=λ ρ=>(fa ρ).bind λ x=>(fb ρ).bind λ y=>g x y
def uF (g:D->Option D) (fa:FE):FE:=λ ρ=>(fa ρ).bind g
def blF (f:FE):FT:=λ ρ=>match f ρ with | some (.bl b)=>some b | _=>none
def iiD (g:Int->Int->Option D):D->D->Option D:=λ x y=>match x,y with | .int i,.int j=>g i j | _,_=>none
instance (i j:Int):Decidable (CMul i j):=by delta CMul;infer_instance
instance (i j:Int):Decidable (CDiv i j):=by delta CDiv;infer_instance
instance (i j:Int):Decidable (CPow i j):=by delta CPow;infer_instance
def subD:=iiD λ i j=>some (.int (i-j))
def MK (i j:Int):Prop:=CMul i j∨(Builtin.Int.intBits i<=4194304/\Builtin.Int.intBits j<=4194304)
instance (i j:Int):Decidable (MK i j):=by delta MK;infer_instance
def CShl (i j:Int):Prop:=0<=j/\j<=1000000/\Builtin.Int.intBits i<=4194304
instance (i j:Int):Decidable (CShl i j):=by delta CShl;infer_instance
def mulD:=iiD λ i j=>if MK i j then some (.int (i*j)) else none
def Dt:=iiD λ i j=>if CDiv i j then some (.int (i/j)) else none
def modD:=iiD λ i j=>if 0<j then some (.int (i%j)) else none
def powD:=iiD λ i j=>if CPow i j then some (.int (i^j.toNat)) else none
def shlD:=iiD λ i j=>if CShl i j then some (.int (i*2^j.toNat)) else none
def shrD:=iiD λ i j=>if 0<=j then some (.int (i/2^j.toNat)) else none
def MN:=iiD λ i j=>some (.int (Builtin.bitAnd i j))
def borD:=iiD λ i j=>some (.int (Builtin.bitOr i j))
def aG:=iiD λ i j=>some (.int (Builtin.bitXor i j))
def ltD:=iiD λ i j=>some (.bl (decide (i<j)))
def leD:=iiD λ i j=>some (.bl (decide (i<=j)))
def gtD:=iiD λ i j=>some (.bl (decide (j<i)))
def geD:=iiD λ i j=>some (.bl (decide (j<=i)))
def addD:D->D->Option D:=λ x y=>match x,y with
 | .int i,.int j=>some (.int (i+j))
 | .str i,.str j=>if i.length+j.length<=sizeLine then some (.str (i++j)) else none
 | .lst i,.lst j=>if i.length+j.length<=sizeLine then some (.lst (i++j)) else none
 | _,_=>none
def andF (fa fb:FE):FE:=λ ρ=>match fa ρ with | some (.bl true)=>fb ρ | some (.bl false)=>some (.bl false) | _=>none
def orF (fa fb:FE):FE:=λ ρ=>match fa ρ with | some (.bl true)=>some (.bl true) | some (.bl false)=>fb ρ | _=>none
def notF (fa:FE):FE:=λ ρ=>match fa ρ with | some (.bl b)=>some (.bl (!b)) | _=>none
def andT (fa fb:FT):FT:=λ ρ=>match fa ρ with | some true=>fb ρ | some false=>some false | none=>none
def orT (fa fb:FT):FT:=λ ρ=>match fa ρ with | some true=>some true | some false=>fb ρ | none=>none
def notT (fa:FT):FT:=λ ρ=>(fa ρ).map (!·)
def truD:D->Option Bool
 | .non=>some false
 | .bl b=>some b
 | .int i=>some (i != 0)
 | .str y=>if y.length<=sizeLine then some ((y.length:Int) != 0) else none
 | .lst ds=>some (!ds.isEmpty)
 | .tup ds=>some (!ds.isEmpty)
 | _=>none
def trF (f:FE):FT:=λ ρ=>(f ρ).bind truD
def ifF (t:FT) (fa fb:FE):FE:=λ ρ=>match t ρ with | some true=>fa ρ | some false=>fb ρ | none=>none
def nilA:FA:=λ _=>some []
def Aa (fa:FE) (fs:FA):FA:=λ ρ=>(fa ρ).bind λ d=>(fs ρ).map (d::·)
def tupF (fs:FA):FE:=λ ρ=>(fs ρ).bind λ ds=>if ds.length<=sizeLine then some (.tup ds) else none
def lstF (fs:FA):FE:=λ ρ=>(fs ρ).bind λ ds=>if ds.length<=sizeLine then some (.lst ds) else none
def ixD:D->D->Option D:=λ x y=>match x,y with
 | .lst ds,.int i=>atI ds i
 | .tup ds,.int i=>atI ds i
 | .str z,.int i=>if z.length<=sizeLine then (atI z.cps.toList i).map λ c=>.str ⟨#[c]⟩ else none
 | _,_=>none
def noO:FO:=λ _=>some none
def someO (f:FE):FO:=λ ρ=>match f ρ with | some (.int i)=>some (some i) | _=>none
def cutD {α:Type}(ds:List α) (lo hi:Option Int):List α:=(ds.drop (HT.sIx ds.length 0 lo)).take (HT.sIx ds.length ds.length hi-HT.sIx ds.length 0 lo)
def cutS (z:Str) (lo hi:Option Int):Str:=⟨(cutD z.cps.toList lo hi).toArray⟩
def slD (x:D) (lo hi:Option Int):Option D:=match x with
 | .lst ds=>some (.lst (cutD ds lo hi))
 | .tup ds=>if HT.sIx ds.length 0 lo=0/\HT.sIx ds.length ds.length hi=ds.length then none else some (.tup (cutD ds lo hi))
 | .str z=>if z.length<=sizeLine then some (.str (cutS z lo hi)) else none
 | _=>none
def slF (f:FE) (l h:FO):FE:=λ ρ=>(f ρ).bind λ x=>(l ρ).bind λ lo=>(h ρ).bind λ hi=>slD x lo hi
def flV:D->Option V
 | .non=>some .non
 | .bl b=>some (.bl b)
 | .int i=>some (.int i)
 | .str x=>some (.str x)
 | _=>none
def flVs:List D->Option (List V)
 | []=>some []
 | d::r=>(flV d).bind λ v=>(flVs r).map (v::·)
def inD (neg:Bool):D->D->Option D:=λ x y=>match x,y with
 | .str i,.str j=>some (.bl (if neg then !(!(Builtin.Str.occurrences j i 0 j.length 1).isEmpty) else !(Builtin.Str.occurrences j i 0 j.length 1).isEmpty))
 | x,.lst ds=>(flV x).bind λ v=>(flVs ds).map λ vs=>.bl (if neg then !inV v vs else inV v vs)
 | x,.tup ds=>(flV x).bind λ v=>(flVs ds).map λ vs=>.bl (if neg then !inV v vs else inV v vs)
 | _,_=>none
def allO (f:D->D->Option Bool):List D->List D->Option Bool
 | [],[]=>some true
 | x::xs,y::ys=>match f x y,allO f xs ys with | some a,some b=>some (a&&b) | _,_=>none
 | _,_=>none
def flD (x y:D):Option Bool:=(flV x).bind λ u=>(flV y).map λ v=>eqV u v
def eqS (f:D->D->Option Bool):D->D->Option Bool
 | .lst xs,.lst ys=>if xs.length=ys.length then allO f xs ys else some false
 | .tup xs,.tup ys=>if xs.length=ys.length then allO f xs ys else none
 | x,y=>flD x y
def eqK:Nat->D->D->Option Bool
 | 0=>flD
 | n+1=>eqS (eqK n)
def eqvD (x y:D):Option Bool:=match x,y with
 | .int i,.int j=>some (decide (i=j))
 | .str i,.str j=>some (decide (i=j))
 | .bl i,.bl j=>some (decide (i=j))
 | .lst xs,.lst ys=>if xs.length=ys.length then allO (eqK 180) xs ys else some false
 | .tup xs,.tup ys=>if xs.length=ys.length then allO (eqK 180) xs ys else none
 | _,_=>none
def eqD (neg:Bool) (x y:D):Option D:=(eqvD x y).map λ b=>.bl (if neg then !b else b)
def lenD:D->Option D
 | .str y=>if y.length<=sizeLine then some (.int y.length) else none
 | .lst ds=>some (.int ds.length)
 | .tup ds=>some (.int ds.length)
 | _=>none
def maxD:=iiD λ i j=>some (.int (if j > i then j else i))
def minD:=iiD λ i j=>some (.int (if j<i then j else i))
def Us:D->Option D
 | .lst ds=>some (.lst ds)
 | .tup ds=>some (.lst ds)
 | _=>none
def negD:D->Option D
 | .int i=>some (.int (-i))
 | _=>none
def seqI (f:FE):FI:=λ ρ=>match f ρ with | some (.lst ds)=>some ds | some (.tup ds)=>some ds | _=>none
def rngD (n:Nat):List D:=(List.range n).map λ (i:Nat)=>.int i
def rngI (f:FE):FI:=λ ρ=>match f ρ with | some (.int j)=>if -(2^62)<=j/\j<2^62 then some (rngD j.toNat) else none | _=>none
set_option genInjectivity true in
inductive Out where
 | nx (ρ:Rho) | rt (d:D) (ρ:Rho) | bk (ρ:Rho) | ct (ρ:Rho)
abbrev FS:=Rho->Option Out
def nxF:FS:=λ ρ=>some (.nx ρ)
def seqF (g gs:FS):FS:=λ ρ=>match g ρ with | some (.nx ρ')=>gs ρ' | o=>o
def ifS (t:FT) (g gs:FS):FS:=λ ρ=>match t ρ with | some true=>g ρ | some false=>gs ρ | none=>none
def setF (i:Nat) (f:FE):FS:=λ ρ=>(f ρ).map λ d=>.nx (ρ.set i (.fz d))
def retF (f:FE):FS:=λ ρ=>(f ρ).map λ d=>.rt d ρ
def retN:FS:=λ ρ=>some (.rt .non ρ)
def JB (f:FE):FS:=λ ρ=>(f ρ).map λ _=>.nx ρ
def badF:FS:=λ _=>none
def forF (b:D->FS):List D->FS
 | [],ρ=>some (.nx ρ)
 | d::r,ρ=>match b d ρ with
  | some (.nx ρ')=>forF b r ρ'
  | some (.ct ρ')=>forF b r ρ'
  | some (.bk ρ')=>some (.nx ρ')
  | some (.rt e ρ')=>some (.rt e ρ')
  | none=>none
abbrev FG:=D->Rho->Option Rho
def CT (i:Nat):FG:=λ d ρ=>some (ρ.set i (.fz d))
def tgB (tg:FG) (b:FS):D->FS:=λ d ρ=>(tg d ρ).bind b
def forS (src:FI) (tg:FG) (b:FS):FS:=λ ρ=>(src ρ).bind λ ds=>forF (tgB tg b) ds ρ
def JT (c:FT) (b:FS):Nat->FS
 | 0,_=>none
 | n+1,ρ=>match c ρ with
  | some false=>some (.nx ρ)
  | some true=>(match b ρ with
   | some (.nx ρ')=>JT c b n ρ'
   | some (.ct ρ')=>JT c b n ρ'
   | some (.bk ρ')=>some (.nx ρ')
   | some (.rt e ρ')=>some (.rt e ρ')
   | none=>none)
  | none=>none
def An (g:List D->Option D) (fs:FA):FE:=λ ρ=>(fs ρ).bind g
def FN (n:Nat) (ds:List D):Rho:=ds.map .fz++List.replicate (n-ds.length) .un
def runF (n np:Nat) (b:FS) (ds:List D):Option D:=if ds.length=np then (match b (FN n ds) with | some (.rt d _)=>some d | some (.nx _)=>some .non | _=>none) else none
def Bo (ρ:Rho) (ga:FT) (fe:FE):List D->Option (List D)
 | []=>some []
 | d::r=>match ga (ρ++[.fz d]) with
  | some true=>(fe (ρ++[.fz d])).bind λ y=>(Bo ρ ga fe r).map (y::·)
  | some false=>Bo ρ ga fe r
  | none=>none
def BJ (src:FI) (ga:FT) (fe:FE):FE:=λ ρ=>(src ρ).bind λ ds=>if ds.length<=sizeLine then (Bo ρ ga fe ds).map .lst else none
def allT:FT:=λ _=>some true
def Ha:List D->Option (List Str)
 | []=>some []
 | .str i::r=>(Ha r).map (i::·)
 | _::_=>none
def aH (x y:D):Option D:=match x,y with
 | .str z,.lst ds=>(Ha ds).bind λ ys=>if (ys.map (·.length)).sum+ys.length*z.length<=16777216 then some (.str (Str.join z ys)) else none
 | .str z,.tup ds=>(Ha ds).bind λ ys=>if (ys.map (·.length)).sum+ys.length*z.length<=16777216 then some (.str (Str.join z ys)) else none
 | _,_=>none
def tyD:D->Option String
 | .non=>some "NoneType"
 | .bl _=>some "bool"
 | .int _=>some "int"
 | .str _=>some "str"
 | .lst _=>some "list"
 | .tup _=>some "tuple"
 | _=>none
def isiD (T:String) (x:D):Option D:=(tyD x).map λ n=>.bl (n==T||(n=="bool"&&T=="int"))
def ltS (a b:Str):Bool:=decide (a.cps.toList<b.cps.toList)
def insS (x:Str):List Str->List Str
 | []=>[x]
 | y::r=>if ltS x y then x::y::r else if x=y then y::r else y::insS x r
def Cp (xs:List Str):List Str:=xs.foldr insS []
def ssL (ds:List D):Option D:=(Ha ds).bind λ xs=>if xs.length<=1000/\(Cp xs).length<=60 then some (.lst ((Cp xs).map .str)) else none
def ssD:D->Option D
 | .lst ds=>ssL ds
 | .tup ds=>ssL ds
 | _=>none
def setW (i:Nat) (f:FE):FS:=λ ρ=>(f ρ).map λ d=>.nx (ρ.set i (.ow d))
def ownO (ρ:Rho) (i:Nat):Option D:=match ρ[i]? with | some (.ow d)=>some d | _=>none
def appL (x v:D):Option D:=match x with | .lst ds=>if ds.length<sizeLine then some (.lst (ds++[v])) else none | _=>none
def extL (x v:D):Option D:=match x,v with
 | .lst ds,.lst es=>if ds.length+es.length<=sizeLine then some (.lst (ds++es)) else none
 | _,_=>none
def mutF (g:D->D->Option D) (i:Nat) (f:FE):FS:=λ ρ=>(f ρ).bind λ v=>(ownO ρ i).bind λ x=>(g x v).map λ y=>.nx (ρ.set i (.ow y))
def frz1 (ρ:Rho) (i:Nat):Rho:=match ρ[i]? with | some (.ow d)=>ρ.set i (.fz d) | _=>ρ
def fzS (is:List Nat) (g:FS):FS:=λ ρ=>g (is.foldl frz1 ρ)
theorem Le {α:Type}(l:List α) (x:α):atI (l++[x]) (-1)=some x:=by
 delta atI ixN;rw[if_neg (by omega),if_pos (by simp;omega)];simp;rw[show (-1+((l.length:Int)+1)).toNat=l.length by omega];simp
theorem iW {α:Type}(l:List α) (k:Nat):cutD l none (some (k:Int))=l.take k:=by
 unfold cutD HT.sIx;simp;rw[if_neg (by omega)]
 first | omega | (rw[List.take_eq_take_iff];omega)
theorem iY {α:Type}(l:List α) (k:Nat):cutD l (some (k:Int)) none=l.drop k:=by
 unfold cutD HT.sIx;simp;rw[if_neg (by omega)]
 by_cases h:k<=l.length
 ·rw[Nat.min_eq_left h,List.take_of_length_le (by simp)]
 ·rw[Nat.min_eq_right (by omega),List.drop_of_length_le (by omega),List.drop_of_length_le (by omega)];simp
theorem Y9 {α:Type}{xs:List α}{i:Int}(h0:0<=i) (h1:i<xs.length):atI xs i=xs[i.toNat]?:=by
 delta atI ixN;rw[if_pos h0,if_pos h1];rfl
theorem Vl {α:Type}{xs:List α}(i n:Int) (hn:n=xs.length) (h:xs≠[]):∃ x,x∈xs/\atI xs (i%n)=some x:=by
 subst hn;have hl:0<xs.length:=List.length_pos_iff.mpr h;have h0:0<=i%(xs.length:Int):=z19 _ (by omega);have h1:i%(xs.length:Int)<xs.length:=z1o _ (by omega);have hi:(i%(xs.length:Int)).toNat<xs.length:=by omega
 exact⟨xs[(i%(xs.length:Int)).toNat],z1x hi,by rw[Y9 h0 h1];simp[hi]⟩
theorem De (i j:Int) (h:0<j):modD (.int i) (.int j)=some (.int (i%j)):=by
 show (if 0<j then some (D.int (i%j)) else none)=_;rw[if_pos h]
theorem JC (i j:Int) (h:0<j) (h2:j<1073741824):Dt (.int i) (.int j)=some (.int (i/j)):=by
 show (if CDiv i j then some (D.int (i/j)) else none)=_;rw[if_pos ⟨h,h2⟩]
theorem JD (i j:Int) (h : -(2^64)<j/\j<2^64):mulD (.int i) (.int j)=some (.int (i*j)):=by
 show (if MK i j then some (D.int (i*j)) else none)=_;rw[if_pos (.inl (.inr h))]
theorem NP (i j:Int) (h : -(2^64)<i/\i<2^64):mulD (.int i) (.int j)=some (.int (i*j)):=by
 show (if MK i j then some (D.int (i*j)) else none)=_;rw[if_pos (.inl (.inl h))]
theorem Y_ (i j:Int):addD (.int i) (.int j)=some (.int (i+j)):=zE_ _
theorem Vm (i j:Int):subD (.int i) (.int j)=some (.int (i-j)):=zE_ _
theorem Xa (i j:Int):ltD (.int i) (.int j)=some (.bl (decide (i<j))):=zE_ _
theorem iZ (i j:Int):gtD (.int i) (.int j)=some (.bl (decide (j<i))):=zE_ _
theorem ie (i j:Int):leD (.int i) (.int j)=some (.bl (decide (i<=j))):=zE_ _
theorem ig (i j:Int):geD (.int i) (.int j)=some (.bl (decide (j<=i))):=zE_ _
theorem Xb (i j:Int):eqD false (.int i) (.int j)=some (.bl (decide (i=j))):=zE_ _
theorem ir (i j:Int):eqD true (.int i) (.int j)=some (.bl (!decide (i=j))):=zE_ _
theorem aJ (i:Int):negD (.int i)=some (.int (-i)):=zE_ _
theorem CV (h:n<=10000000):n<=sizeLine:=z0a h (by decide)
theorem iu {i j:List D}(h:i.length+j.length<=10000000):addD (.lst i) (.lst j)=some (.lst (i++j)):=by
 show (if _ then _ else _)=_;rw[if_pos (CV h)]
theorem Vn {i j:Str}(h:i.length+j.length<=10000000):addD (.str i) (.str j)=some (.str (i++j)):=by
 show (if _ then _ else _)=_;rw[if_pos (CV h)]
theorem Ko {b:D->FS}{P:Nat->Rho->Prop}:∀ {ds:List D}{ρ:Rho}(k:Nat),P k ρ->(∀ (i:Nat) d ρ,ds[i]?=some d->P (k+i) ρ->∃ ρ',b d ρ=some (.nx ρ')/\P (k+i+1) ρ')->∃ ρ',forF b ds ρ=some (.nx ρ')/\P (k+ds.length) ρ'
 | [],ρ,k,h0,_=>⟨ρ,rfl,by simpa using h0⟩
 | d::r,ρ,k,h0,hs=>by
  obtain⟨ρ1,e1,p1⟩:=hs 0 d ρ rfl (by simpa using h0);obtain⟨ρ2,e2,p2⟩:=Ko (ds:=r) (ρ:=ρ1) (k+1) (by simpa using p1) λ i d' ρ' hd hp=>by
   have:=hs (i+1) d' ρ' (by simpa using hd) (by rw[show k+(i+1)=k+1+i by omega];exact hp);rw[show k+(i+1)+1=k+1+i+1 by omega] at this;exact this
  refine⟨ρ2,?_,by rw[z0s,show k+(r.length+1)=k+1+r.length by omega];exact p2⟩;unfold forF;rw[e1];exact e2
theorem Xc {ρ:Rho}{fe:FE}{P:D->Prop}:∀ {ds:List D},(∀ d∈ds,∃ y,fe (ρ++[.fz d])=some y/\P y)->∃ out,Bo ρ allT fe ds=some out/\out.length=ds.length/\∀ y∈out,P y
 | [],_=>⟨[],rfl,rfl,by simp⟩
 | d::r,hh=>by
  obtain⟨y,hy,py⟩:=hh d z0i;obtain⟨out,h1,h2,h3⟩:=Xc (ds:=r) λ d' hd=>hh d' (z0b _ hd);refine⟨y::out,?_,by simp[h2],λ z hz=>?_⟩
  ·unfold Bo;rw[show allT (ρ++[.fz d])=some true from rfl,hy,h1];rfl
  ·rcases z0d.mp hz with rfl | hz
   ·exact py
   ·exact h3 z hz
theorem Ea {src:FI}{ga:FT}{fe:FE}{ρ:Rho}{ds out:List D}(h:src ρ=some ds) (hz:ds.length<=10000000) (hc:Bo ρ ga fe ds=some out):BJ src ga fe ρ=some (.lst out):=by
 delta BJ;rw[h];show (if ds.length<=sizeLine then (Bo ρ ga fe ds).map D.lst else none)=_;rw[if_pos (CV hz),hc];rfl
def Ut (o:Option Out) (gs:FS):Option Out:=match o with | some (.nx ρ')=>gs ρ' | o=>o
theorem Qd (g gs:FS) (ρ:Rho):seqF g gs ρ=Ut (g ρ) gs:=zE_ _
theorem e_nx (gs:FS) (ρ:Rho):Ut (some (.nx ρ)) gs=gs ρ:=zE_ _
theorem e_rt (gs:FS) (d:D) (ρ:Rho):Ut (some (.rt d ρ)) gs=some (.rt d ρ):=zE_ _
theorem e_bk (gs:FS) (d:Rho):Ut (some (.bk d)) gs=some (.bk d):=zE_ _
theorem e_ct (gs:FS) (d:Rho):Ut (some (.ct d)) gs=some (.ct d):=zE_ _
theorem Xd (ρ:Rho):nxF ρ=some (.nx ρ):=zE_ _
def iteO (o:Option Bool) (g gs:FS) (ρ:Rho):Option Out:=match o with | some true=>g ρ | some false=>gs ρ | none=>none
theorem e_if (t:FT) (g gs:FS) (ρ:Rho):ifS t g gs ρ=iteO (t ρ) g gs ρ:=zE_ _
theorem Xe (g gs:FS) (ρ:Rho):iteO (some true) g gs ρ=g ρ:=zE_ _
theorem Xf (g gs:FS) (ρ:Rho):iteO (some false) g gs ρ=gs ρ:=zE_ _
def setO (i:Nat) (ρ:Rho) (o:Option D):Option Out:=o.map λ d=>.nx (ρ.set i (.fz d))
theorem NQ (i:Nat) (f:FE) (ρ:Rho):setF i f ρ=setO i ρ (f ρ):=zE_ _
theorem J0 (i:Nat) (ρ:Rho) (d:D):setO i ρ (some d)=some (.nx (ρ.set i (.fz d))):=zE_ _
def retO (ρ:Rho) (o:Option D):Option Out:=o.map λ d=>.rt d ρ
theorem Xg (f:FE) (ρ:Rho):retF f ρ=retO ρ (f ρ):=zE_ _
theorem Rt (d:D) (ρ:Rho):retO ρ (some d)=some (.rt d ρ):=zE_ _
theorem Vo (ρ:Rho):retN ρ=some (.rt .non ρ):=zE_ _
def rJ (ρ:Rho) (o:Option D):Option Out:=o.map λ _=>.nx ρ
theorem Vp (f:FE) (ρ:Rho):JB f ρ=rJ ρ (f ρ):=zE_ _
theorem Q3 (ρ:Rho) (d:D):rJ ρ (some d)=some (.nx ρ):=zE_ _
def b2 (g:D->D->Option D) (x y:Option D):Option D:=x.bind λ x=>y.bind λ y=>g x y
theorem e_b (g:D->D->Option D) (fa fb:FE) (ρ:Rho):bF g fa fb ρ=b2 g (fa ρ) (fb ρ):=zE_ _
theorem e_bs (g:D->D->Option D) (x y:D):b2 g (some x) (some y)=g x y:=zE_ _
def b1 (g:D->Option D) (x:Option D):Option D:=x.bind g
theorem e_u (g:D->Option D) (fa:FE) (ρ:Rho):uF g fa ρ=b1 g (fa ρ):=zE_ _
theorem e_us (g:D->Option D) (x:D):b1 g (some x)=g x:=zE_ _
def cl1 (g:List D->Option D) (x:Option (List D)):Option D:=x.bind g
theorem Vq (g:List D->Option D) (fs:FA) (ρ:Rho):An g fs ρ=cl1 g (fs ρ):=zE_ _
theorem Q4 (g:List D->Option D) (ds:List D):cl1 g (some ds)=g ds:=zE_ _
def rK (x:Option D) (y:Option (List D)):Option (List D):=x.bind λ d=>y.map (d::·)
theorem Ru (fa:FE) (fs:FA) (ρ:Rho):Aa fa fs ρ=rK (fa ρ) (fs ρ):=zE_ _
theorem NT (d:D) (ds:List D):rK (some d) (some ds)=some (d::ds):=zE_ _
theorem Uu (ρ:Rho):nilA ρ=some []:=zE_ _
def tupO (o:Option (List D)):Option D:=o.bind λ ds=>if ds.length<=sizeLine then some (.tup ds) else none
def lstO (o:Option (List D)):Option D:=o.bind λ ds=>if ds.length<=sizeLine then some (.lst ds) else none
theorem aK (fs:FA) (ρ:Rho):tupF fs ρ=tupO (fs ρ):=zE_ _
theorem Uv (fs:FA) (ρ:Rho):lstF fs ρ=lstO (fs ρ):=zE_ _
theorem Vr:tupO (some [])=some (.tup []):=zE_ _
theorem Vs (a:D):tupO (some [a])=some (.tup [a]):=zE_ _
theorem Vt (a b:D):tupO (some [a,b])=some (.tup [a,b]):=zE_ _
theorem Vu (a b c:D):tupO (some [a,b,c])=some (.tup [a,b,c]):=zE_ _
theorem Vv (a b c d:D):tupO (some [a,b,c,d])=some (.tup [a,b,c,d]):=zE_ _
theorem Vw (a b c d e:D):tupO (some [a,b,c,d,e])=some (.tup [a,b,c,d,e]):=zE_ _
theorem Rv:lstO (some [])=some (.lst []):=zE_ _
theorem Vx (a:D):lstO (some [a])=some (.lst [a]):=zE_ _
theorem Vy (a b:D):lstO (some [a,b])=some (.lst [a,b]):=zE_ _
theorem Rw (a b c:D):lstO (some [a,b,c])=some (.lst [a,b,c]):=zE_ _
theorem Vz (a b c d:D):lstO (some [a,b,c,d])=some (.lst [a,b,c,d]):=zE_ _
theorem V0 (a b c d e:D):lstO (some [a,b,c,d,e])=some (.lst [a,b,c,d,e]):=zE_ _
theorem V1 (a b c d e f:D):lstO (some [a,b,c,d,e,f])=some (.lst [a,b,c,d,e,f]):=zE_ _
def blO (o:Option D):Option Bool:=match o with | some (.bl b)=>some b | _=>none
theorem e_bl (f:FE) (ρ:Rho):blF f ρ=blO (f ρ):=zE_ _
theorem Uw (b:Bool):blO (some (.bl b))=some b:=zE_ _
def andO (o:Option Bool) (fb:FT) (ρ:Rho):Option Bool:=match o with | some true=>fb ρ | some false=>some false | none=>none
def orO (o:Option Bool) (fb:FT) (ρ:Rho):Option Bool:=match o with | some true=>some true | some false=>fb ρ | none=>none
theorem V2 (a b:FT) (ρ:Rho):andT a b ρ=andO (a ρ) b ρ:=zE_ _
theorem Q5 (b:FT) (ρ:Rho):andO (some true) b ρ=b ρ:=zE_ _
theorem Q6 (b:FT) (ρ:Rho):andO (some false) b ρ=some false:=zE_ _
theorem aL (a b:FT) (ρ:Rho):orT a b ρ=orO (a ρ) b ρ:=zE_ _
theorem V3 (b:FT) (ρ:Rho):orO (some true) b ρ=some true:=zE_ _
theorem V4 (b:FT) (ρ:Rho):orO (some false) b ρ=b ρ:=zE_ _
theorem V5 (a:FT) (ρ:Rho):notT a ρ=(a ρ).map (!·):=zE_ _
def andP (o:Option D) (fb:FE) (ρ:Rho):Option D:=match o with | some (.bl true)=>fb ρ | some (.bl false)=>some (.bl false) | _=>none
def orP (o:Option D) (fb:FE) (ρ:Rho):Option D:=match o with | some (.bl true)=>some (.bl true) | some (.bl false)=>fb ρ | _=>none
def notP (o:Option D):Option D:=match o with | some (.bl b)=>some (.bl (!b)) | _=>none
theorem V6 (a b:FE) (ρ:Rho):andF a b ρ=andP (a ρ) b ρ:=zE_ _
theorem Q7 (b:FE) (ρ:Rho):andP (some (.bl true)) b ρ=b ρ:=zE_ _
theorem Q8 (b:FE) (ρ:Rho):andP (some (.bl false)) b ρ=some (.bl false):=zE_ _
theorem aM (a b:FE) (ρ:Rho):orF a b ρ=orP (a ρ) b ρ:=zE_ _
theorem V7 (b:FE) (ρ:Rho):orP (some (.bl true)) b ρ=some (.bl true):=zE_ _
theorem V8 (b:FE) (ρ:Rho):orP (some (.bl false)) b ρ=b ρ:=zE_ _
theorem V9 (a:FE) (ρ:Rho):notF a ρ=notP (a ρ):=zE_ _
theorem Q9 (b:Bool):notP (some (.bl b))=some (.bl (!b)):=zE_ _
def ifP (o:Option Bool) (fa fb:FE) (ρ:Rho):Option D:=match o with | some true=>fa ρ | some false=>fb ρ | none=>none
theorem aN (t:FT) (a b:FE) (ρ:Rho):ifF t a b ρ=ifP (t ρ) a b ρ:=zE_ _
theorem V_ (a b:FE) (ρ:Rho):ifP (some true) a b ρ=a ρ:=zE_ _
theorem WD (a b:FE) (ρ:Rho):ifP (some false) a b ρ=b ρ:=zE_ _
def sl3 (f:Option D) (l h:Option (Option Int)):Option D:=f.bind λ x=>l.bind λ lo=>h.bind λ hi=>slD x lo hi
theorem e_sl (f:FE) (l h:FO) (ρ:Rho):slF f l h ρ=sl3 (f ρ) (l ρ) (h ρ):=zE_ _
theorem aO (x:D) (l h:Option Int):sl3 (some x) (some l) (some h)=slD x l h:=zE_ _
theorem aP (ρ:Rho):noO ρ=some none:=zE_ _
def somO (o:Option D):Option (Option Int):=match o with | some (.int i)=>some (some i) | _=>none
theorem Q_ (f:FE) (ρ:Rho):someO f ρ=somO (f ρ):=zE_ _
theorem NZ (i:Int):somO (some (.int i))=some (some i):=zE_ _
def getO (o:Option Slot):Option D:=match o with | some (.fz d)=>some d | _=>none
def getU (o:Option Slot):Option D:=match o with | some (.fz d)=>some d | some (.ow d)=>some d | _=>none
theorem e_v (i:Nat) (ρ:Rho):vF i ρ=getO (ρ[i]?):=zE_ _
theorem e_vs (d:D):getO (some (.fz d))=some d:=zE_ _
theorem e_vU (i:Nat) (ρ:Rho):vU i ρ=getU (ρ[i]?):=zE_ _
theorem aQ (d:D):getU (some (.fz d))=some d:=zE_ _
theorem aR (d:D):getU (some (.ow d))=some d:=zE_ _
theorem e_k (d:D) (ρ:Rho):kF d ρ=some d:=zE_ _
def seqO (o:Option D):Option (List D):=match o with | some (.lst ds)=>some ds | some (.tup ds)=>some ds | _=>none
theorem WF (f:FE) (ρ:Rho):seqI f ρ=seqO (f ρ):=zE_ _
theorem RB (ds:List D):seqO (some (.lst ds))=some ds:=zE_ _
theorem RC (ds:List D):seqO (some (.tup ds))=some ds:=zE_ _
def rngO (o:Option D):Option (List D):=match o with | some (.int j)=>if -(2^62)<=j/\j<2^62 then some (rngD j.toNat) else none | _=>none
theorem JV (f:FE) (ρ:Rho):rngI f ρ=rngO (f ρ):=zE_ _
theorem JW (j:Int) (h : -(2^62)<=j/\j<2^62):rngO (some (.int j))=some (rngD j.toNat):=by
 show (if _ then _ else _)=_;rw[if_pos h]
def forO (o:Option (List D)) (tg:FG) (b:FS) (ρ:Rho):Option Out:=o.bind λ ds=>forF (tgB tg b) ds ρ
theorem Ux (src:FI) (tg:FG) (b:FS) (ρ:Rho):forS src tg b ρ=forO (src ρ) tg b ρ:=zE_ _
theorem PJ (ds:List D) (tg:FG) (b:FS) (ρ:Rho):forO (some ds) tg b ρ=forF (tgB tg b) ds ρ:=zE_ _
def rM (o:Option (List D)) (ga:FT) (fe:FE) (ρ:Rho):Option D:=o.bind λ ds=>if ds.length<=sizeLine then (Bo ρ ga fe ds).map .lst else none
theorem WK (src:FI) (ga:FT) (fe:FE) (ρ:Rho):BJ src ga fe ρ=rM (src ρ) ga fe ρ:=zE_ _
theorem RD {ds:List D}{ga:FT}{fe:FE}{ρ:Rho}(h:ds.length<=10000000):rM (some ds) ga fe ρ=(Bo ρ ga fe ds).map .lst:=by
 show (if _ then _ else _)=_;rw[if_pos (CV h)]
theorem Lf (ρ:Rho) (ga:FT) (fe:FE):Bo ρ ga fe []=some []:=zE_ _
def ccO (o:Option Bool) (e:Option D) (r:Option (List D)):Option (List D):=match o with | some true=>e.bind λ y=>r.map (y::·) | some false=>r | none=>none
theorem Bg (ρ:Rho) (ga:FT) (fe:FE) (d:D) (r:List D):Bo ρ ga fe (d::r)=ccO (ga (ρ++[.fz d])) (fe (ρ++[.fz d])) (Bo ρ ga fe r):=zE_ _
theorem Nb (y:D) (r:List D):ccO (some true) (some y) (some r)=some (y::r):=zE_ _
theorem Nf (y:Option D) (r:Option (List D)):ccO (some false) y r=r:=zE_ _
theorem MP (ρ:Rho):allT ρ=some true:=zE_ _
def runO (o:Option Out):Option D:=match o with | some (.rt d _)=>some d | some (.nx _)=>some .non | _=>none
theorem Uy {np:Nat}{b:FS}{ds:List D}(h:ds.length=np):runF n np b ds=runO (b (FN n ds)):=by
 delta runF;rw[if_pos h];rfl
theorem Ry (d:D) (ρ:Rho):runO (some (.rt d ρ))=some d:=zE_ _
theorem WL (ρ:Rho):runO (some (.nx ρ))=some .non:=zE_ _
theorem R0 {α β:Type}(f:α->β) (x:α):Option.map f (some x)=some (f x):=zE_ _
theorem WM {α β:Type}(f:α->Option β) (x:α):Option.bind (some x) f=f x:=zE_ _
theorem Ji (n:Nat) (ds:List D):FN n ds=ds.map .fz++List.replicate (n-ds.length) .un:=zE_ _
theorem truB (b:Bool):truD (.bl b)=some b:=zE_ _
theorem JX {α:Type}(l:List α) (k:Nat):atI l (k:Int)=l[k]?:=by
 delta atI ixN;rw[if_pos (by omega)]
 by_cases h:k<l.length
 ·rw[if_pos (by omega)];simp
 ·rw[if_neg (by omega),z1P (by omega)];rfl
theorem ix0 (x:D) (r:List D):ixD (.lst (x::r)) (.int 0)=some x:=JX _ 0
theorem ix1 (x y:D) (r:List D):ixD (.lst (x::y::r)) (.int 1)=some y:=JX _ 1
theorem ix2 (x y z:D) (r:List D):ixD (.lst (x::y::z::r)) (.int 2)=some z:=JX _ 2
theorem ixt0 (x:D) (r:List D):ixD (.tup (x::r)) (.int 0)=some x:=JX _ 0
theorem ixt1 (x y:D) (r:List D):ixD (.tup (x::y::r)) (.int 1)=some y:=JX _ 1
theorem ixt2 (x y z:D) (r:List D):ixD (.tup (x::y::z::r)) (.int 2)=some z:=JX _ 2
theorem ixt3 (x y z w:D) (r:List D):ixD (.tup (x::y::z::w::r)) (.int 3)=some w:=JX _ 3
theorem e_tr (f:FE) (ρ:Rho):trF f ρ=(f ρ).bind truD:=zE_ _
theorem aU:∀ {out:List D}{P:Str->Prop},(∀ y∈out,∃ x,y=D.str x/\P x)->∃ ws:List Str,out=ws.map .str/\ws.length=out.length/\∀ x∈ws,P x
 | [],_,_=>⟨[],rfl,rfl,by simp⟩
 | y::r,P,h=>by
  obtain⟨x,rfl,px⟩:=h y z0i;obtain⟨ws,e,hl,hp⟩:=aU (out:=r) (P:=P) λ y hy=>h y (z0b _ hy);exact⟨x::ws,by rw[e];rfl,by simp[hl],λ z hz=>by rcases z0d.mp hz with rfl | hz;exact px;exact hp z hz⟩
theorem oF {src:FI}{fe:FE}{ρ:Rho}{ds:List D}{P:D->Prop}(h:src ρ=some ds) (hz:ds.length<=10000000) (hh:∀ d∈ds,∃ y,fe (ρ++[.fz d])=some y/\P y):∃ out,BJ src allT fe ρ=some (.lst out)/\out.length=ds.length/\∀ y∈out,P y:=by
 obtain⟨out,h1,h2,h3⟩:=Xc hh;exact⟨out,Ea h hz h1,h2,h3⟩
theorem Uz {ρ:Rho}{ga:FT}{fe:FE}{P:D->Prop}:∀ {ds:List D},(∀ d∈ds,∃ b,ga (ρ++[.fz d])=some b/\∃ y,fe (ρ++[.fz d])=some y/\P y)->∃ out,Bo ρ ga fe ds=some out/\out.length<=ds.length/\∀ y∈out,P y
 | [],_=>⟨[],rfl,z04 _,by simp⟩
 | d::r,hh=>by
  obtain⟨b,hb,y,hy,py⟩:=hh d z0i;obtain⟨out,h1,h2,h3⟩:=Uz (ds:=r) λ d' hd=>hh d' (z0b _ hd);cases b with
  | true=>
   refine⟨y::out,?_,by simp[h2],λ z hz=>?_⟩
   ·unfold Bo;rw[hb,hy,h1];rfl
   ·rcases z0d.mp hz with rfl | hz
    ·exact py
    ·exact h3 z hz
  | false=>
   refine⟨out,?_,by simp;omega,h3⟩;unfold Bo;rw[hb,h1]
theorem iw {src:FI}{ga:FT}{fe:FE}{ρ:Rho}{ds:List D}{P:D->Prop}(h:src ρ=some ds) (hz:ds.length<=10000000) (hh:∀ d∈ds,∃ b,ga (ρ++[.fz d])=some b/\∃ y,fe (ρ++[.fz d])=some y/\P y):∃ out,BJ src ga fe ρ=some (.lst out)/\out.length<=ds.length/\∀ y∈out,P y:=by
 obtain⟨out,h1,h2,h3⟩:=Uz hh;exact⟨out,Ea h hz h1,h2,h3⟩
theorem oG (z:Str) (n j:Int) (hn:n=z.length) (h0:0<z.length) (h1:z.length<=10000000):∃ c,c∈z.cps.toList/\ixD (.str z) (.int (j%n))=some (.str ⟨#[c]⟩):=by
 obtain⟨c,hc,e⟩:=Vl (xs:=z.cps.toList) j n (by simpa [Str.length] using hn) (λ q=>by
  have e:z.cps.toList.length=0:=by rw[q];rfl
  have e2:z.length=z.cps.toList.length:=by simp[Str.length]
  omega)
 refine⟨c,hc,?_⟩;have:ixD (.str z) (.int (j%n))=if z.length<=sizeLine then (atI z.cps.toList (j%n)).map (λ c=>D.str ⟨#[c]⟩) else none:=rfl
 rw[this,if_pos (CV h1),e];rfl
theorem CN (x y:Str):(x++y).length=x.length+y.length:=by
 show (x.cps++y.cps).size=_;simp[Str.length]
theorem sl_s (z:Str) (lo hi:Option Int) (h:z.length<=10000000):slD (.str z) lo hi=some (.str (cutS z lo hi)):=by
 show (if z.length<=sizeLine then some (D.str (cutS z lo hi)) else none)=_;rw[if_pos (CV h)]
theorem rN (z:Str) (h:z.length<=10000000):lenD (.str z)=some (.int z.length):=by
 show (if z.length<=sizeLine then some (D.int z.length) else none)=_;rw[if_pos (CV h)]
theorem aV (l:List D):lenD (.lst l)=some (.int l.length):=zE_ _
theorem aW (x:Str) (ys:List Str):inD false (.str x) (.lst (ys.map .str))=some (.bl (ys.any (λ y=>y==x))):=by
 have h:∀ ys:List Str,flVs (ys.map .str)=some (ys.map V.str):=λ ys=>by
  induction ys with
  | nil=>rfl
  | cons y r ih=>simp[flVs,flV,ih]
 show ((flV (.str x)).bind λ v=>(flVs (ys.map .str)).map λ vs=>D.bl (inV v vs))=_;rw[h];show some (D.bl (inV (.str x) (ys.map V.str)))=_;simp[inV,List.any_map,Function.comp_def,eqV]
theorem Df (n:Nat):(rngD n).length=n:=by simp[rngD]
theorem iy {d:D}(h:d∈rngD n):∃ k:Nat,k<n/\d=.int k:=by
 obtain⟨k,hk,rfl⟩:=z07.mp h;exact⟨k,z0B.mp hk,rfl⟩
theorem PK (ys:List Str):Ha (ys.map .str)=some ys:=by
 induction ys with
 | nil=>rfl
 | cons y r ih=>simp[Ha,ih]
def rO (i:Nat) (ρ:Rho) (o:Option D):Option Out:=o.map λ d=>.nx (ρ.set i (.ow d))
theorem H_ (i:Nat) (f:FE) (ρ:Rho):setW i f ρ=rO i ρ (f ρ):=zE_ _
theorem GK (i:Nat) (ρ:Rho) (d:D):rO i ρ (some d)=some (.nx (ρ.set i (.ow d))):=zE_ _
def mutO (g:D->D->Option D) (i:Nat) (ρ:Rho) (x v:Option D):Option Out:=v.bind λ v=>x.bind λ x=>(g x v).map λ y=>.nx (ρ.set i (.ow y))
def getW (o:Option Slot):Option D:=match o with | some (.ow d)=>some d | _=>none
theorem MT (g:D->D->Option D) (i:Nat) (f:FE) (ρ:Rho):mutF g i f ρ=mutO g i ρ (getW ρ[i]?) (f ρ):=zE_ _
theorem JZ (g:D->D->Option D) (i:Nat) (ρ:Rho) (x v:D):mutO g i ρ (some x) (some v)=(g x v).map λ y=>.nx (ρ.set i (.ow y)):=zE_ _
theorem CP (d:D):getW (some (.ow d))=some d:=zE_ _
def forB (o:Option Out) (b:D->FS) (r:List D):Option Out:=match o with
  | some (.nx ρ')=>forF b r ρ'
  | some (.ct ρ')=>forF b r ρ'
  | some (.bk ρ')=>some (.nx ρ')
  | some (.rt e ρ')=>some (.rt e ρ')
  | none=>none
theorem Hb (b:D->FS) (ρ:Rho):forF b [] ρ=some (.nx ρ):=zE_ _
theorem Ck (b:D->FS) (d:D) (r:List D) (ρ:Rho):forF b (d::r) ρ=forB (b d ρ) b r:=zE_ _
theorem C_ (b:D->FS) (r:List D) (ρ:Rho):forB (some (.nx ρ)) b r=forF b r ρ:=zE_ _
theorem RG (b:D->FS) (r:List D) (ρ:Rho):forB (some (.ct ρ)) b r=forF b r ρ:=zE_ _
theorem RJ (b:D->FS) (r:List D) (ρ:Rho):forB (some (.bk ρ)) b r=some (.nx ρ):=zE_ _
theorem Lg (b:D->FS) (r:List D) (d:D) (ρ:Rho):forB (some (.rt d ρ)) b r=some (.rt d ρ):=zE_ _
def bndO (o:Option Rho) (b:FS):Option Out:=o.bind b
theorem e_tg (tg:FG) (b:FS) (d:D) (ρ:Rho):tgB tg b d ρ=bndO (tg d ρ) b:=zE_ _
theorem Ho (ρ:Rho) (b:FS):bndO (some ρ) b=b ρ:=zE_ _
theorem GP (i:Nat) (d:D) (ρ:Rho):CT i d ρ=some (ρ.set i (.fz d)):=zE_ _
theorem J1 (a:Str):ltS a a=false:=by
 delta ltS;exact z0J (List.lt_irrefl _)
theorem PL {a b:Str}(h1:ltS a b=true) (h2:ltS b c=true):ltS a c=true:=by
 unfold ltS at *;exact z1m (List.lt_trans (z1y h1) (z1y h2))
theorem aX {a b:Str}(h1:ltS a b=false) (h2:a≠b):ltS b a=true:=by
 unfold ltS at *;have h1':=of_decide_eq_false h1;have h3:b.cps.toList<=a.cps.toList:=List.not_lt.mp h1'
 rcases Decidable.em (b.cps.toList<a.cps.toList) with h | h
 ·exact z1m h
 ·exfalso;have h4:a.cps.toList<=b.cps.toList:=List.not_lt.mp h;have e:a.cps.toList=b.cps.toList:=List.le_antisymm h4 h3;apply h2;cases a;cases b;simp at e;rw[e]
def Up (l:List Str):Prop:=l.Pairwise λ a b=>ltS a b=true
theorem R1 (x y:Str):∀ l:List Str,y∈insS x l↔y=x∨y∈l
 | []=>by simp[insS]
 | z::r=>by
  unfold insS;split
  ·simp
  ·split
   ·rename_i _ e;subst e;simp
   ·simp[R1 x y r];constructor
    ·rintro (h | h | h)
     ·exact .inr (.inl h)
     ·exact .inl h
     ·exact .inr (.inr h)
    ·rintro (h | h | h)
     ·exact .inr (.inl h)
     ·exact .inl h
     ·exact .inr (.inr h)
theorem aZ (x:Str):∀ {l:List Str},Up l->Up (insS x l)
 | [],_=>by simp[insS,Up]
 | z::r,h=>by
  obtain⟨h1,h2⟩:=z1z.mp h;unfold insS;split
  ·rename_i hlt;exact z1z.mpr ⟨λ y hy=>by
    rcases z0d.mp hy with rfl | hy
    ·exact hlt
    ·exact PL hlt (h1 y hy),h⟩
  ·rename_i hn;split
   ·exact h
   ·rename_i hne;refine z1z.mpr ⟨λ y hy=>?_,aZ x h2⟩
    rcases (R1 x y r).mp hy with rfl | hy
    ·exact aX (by simpa using hn) hne
    ·exact h1 y hy
theorem IK (l:List Str):Up (Cp l):=by
 delta Cp
 induction l with
 | nil=>exact List.Pairwise.nil
 | cons x r ih=>exact aZ x ih
theorem Dg (y:Str) (l:List Str):y∈Cp l↔y∈l:=by
 delta Cp
 induction l with
 | nil=>simp
 | cons x r ih=>rw[List.foldr_cons,R1,ih];simp
theorem Ng {l:List Str}(h:Up l):l.Nodup:=h.imp λ {a b} hab e=>by
 subst e;rw[J1] at hab;cases hab
theorem sub_len:∀ {l m:List Str},l.Nodup->(∀ x∈l,x∈m)->l.length<=m.length
 | [],_,_,_=>z0P _
 | x::r,m,h,hs=>by
  obtain⟨h1,h2⟩:=z1i.mp h;have hx:x∈m:=hs x z0i;have:=sub_len (l:=r) (m:=m.erase x) h2 λ y hy=>(List.mem_erase_of_ne (λ e=>by subst e;exact h1 hy)).mpr (hs y (z0b _ hy));rw[List.length_erase_of_mem hx] at this;have hp:0<m.length:=List.length_pos_of_mem hx;simp;omega
theorem WN:∀ {l m:List Str},Up l->Up m->(∀ x,x∈l↔x∈m)->l=m
 | [],[],_,_,_=>rfl
 | [],y::s,_,_,h=>by have:=(h y).mpr z0i;simp at this
 | x::r,[],_,_,h=>by have:=(h x).mp z0i;simp at this
 | x::r,y::s,h1,h2,h=>by
  obtain⟨a1,a2⟩:=z1z.mp h1;obtain⟨b1,b2⟩:=z1z.mp h2;have e:x=y:=by
   rcases z0d.mp ((h x).mp z0i) with e | hx
   ·exact e
   ·rcases z0d.mp ((h y).mpr z0i) with e | hy
    ·exact e.symm
    ·have:=PL (a1 y hy) (b1 x hx);rw[J1] at this;cases this
  subst e;have:r=s:=WN a2 b2 λ z=>by
   constructor
   ·intro hz
    rcases z0d.mp ((h z).mp (z0b _ hz)) with e | q
    ·subst e;have:=a1 z hz;rw[J1] at this;cases this
    ·exact q
   ·intro hz
    rcases z0d.mp ((h z).mpr (z0b _ hz)) with e | q
    ·subst e;have:=b1 z hz;rw[J1] at this;cases this
    ·exact q
  rw[this]
theorem ss_l {xs:List Str}(h:xs.length<=1000) (h2:(Cp xs).length<=60):ssD (.lst (xs.map .str))=some (.lst ((Cp xs).map .str)):=by
 show (Ha (xs.map .str)).bind _=_;rw[PK];show (if _ then _ else _)=_;rw[if_pos ⟨h,h2⟩]
theorem ss_t {xs:List Str}(h:xs.length<=1000) (h2:(Cp xs).length<=60):ssD (.tup (xs.map .str))=some (.lst ((Cp xs).map .str)):=by
 show (Ha (xs.map .str)).bind _=_;rw[PK];show (if _ then _ else _)=_;rw[if_pos ⟨h,h2⟩]
abbrev FZ:=Rho->Option (D×Rho)
abbrev FZA:=Rho->Option (List D×Rho)
end PV
namespace L2
open PySem PySem.Spec PyProof.Rows
def clOf (cells:List (Str×Addr)):List (Str×NameKind)->List (Str×Addr)->List (Str×Addr)
 | [],cs=>cs
 | y::r,cs=>if y.2==.free then clOf cells r ((y.1,(cells.lookup y.1).getD 0)::cs) else clOf cells r cs
theorem R3 {cells:List (Str×Addr)}{x:Str}{c:Addr}:∀ {names:List (Str×NameKind)}{cs:List (Str×Addr)},(∀ y∈names,y.2=.free ->∃ c,cells.lookup y.1=some c) ->
  (clOf cells names cs).lookup x=some c->cs.lookup x=some c∨cells.lookup x=some c
 | [],_,_,h=>.inl h
 | y::r,cs,hf,h=>by
  unfold clOf at h;split at h
  ·rename_i hk;have hk':y.2=.free :=by simpa using hk
   obtain⟨c',hc⟩:=hf y z0i hk'
   rcases R3 (λ z hz=>hf z (z0b _ hz)) h with q | q
   ·rw[z09] at q;split at q
    ·rename_i e;have e':x=y.1:=by simpa using e
     rw[hc] at q;subst e';right;rw[hc];simpa using q
    ·exact .inl q
   ·exact .inr q
  ·exact R3 (λ z hz=>hf z (z0b _ hz)) h
theorem PQ {cells:List (Str×Addr)}{x:Str}:∀ {names:List (Str×NameKind)}{cs:List (Str×Addr)},(∃ c,cs.lookup x=some c)->∃ c,(clOf cells names cs).lookup x=some c
 | [],_,h=>h
 | y::r,cs,h=>by
  unfold clOf;split
  ·apply PQ;rw[z09];split
   ·exact⟨_,rfl⟩
   ·exact h
  ·exact PQ h
theorem Kp {cells:List (Str×Addr)}{x:Str}:∀ {names:List (Str×NameKind)}{cs:List (Str×Addr)},(x,NameKind.free)∈names->∃ c,(clOf cells names cs).lookup x=some c
 | [],_,h=>by cases h
 | y::r,cs,h=>by
  unfold clOf
  rcases z0d.mp h with e | h
  ·subst e;rw[if_pos (by rfl)];apply PQ;rw[z09];simp
  ·split
   ·exact Kp h
   ·exact Kp h
theorem aa {env:Env}:∀ (names:List (Str×NameKind)) (cs:List (Str×Addr)),(∀ y∈names,y.2=.free ->∃ c,env.cells.lookup y.1=some c) ->
  (forIn names cs (λ x r=>match x with
   | (name,kind)=>if (kind==NameKind.free)=true then do let a <-cellOf env name;pure (ForInStep.yield ((name,a)::r)) else pure (ForInStep.yield r)):Sem (List (Str×Addr)))=pure (clOf env.cells names cs)
 | [],_,_=>rfl
 | (n,k)::r,cs,hf=>by
  have ih:=λ cs=>aa r cs (λ z hz=>hf z (z0b _ hz));rw[List.forIn_cons]
  by_cases hk:(k==NameKind.free)=true
  ·obtain⟨c,hc⟩:=hf (n,k) z0i (by simpa using hk);have hc':env.cells.lookup n=some c:=hc;have e:cellOf env n=pure c:=by unfold cellOf;rw[hc']
   simp only[hk,if_true,e];show (forIn r ((n,c)::cs) _:Sem _)=_;rw[ih]
   conv=>rhs;unfold clOf
   simp only[hk,if_true,hc',Option.getD_some]
  ·simp only[hk,if_false];show (forIn r cs _:Sem _)=_;rw[ih]
   conv=>rhs;unfold clOf
   simp only[hk,if_false];rfl
theorem Ma (hf:∀ y∈scope.names,y.2=.free ->∃ c,env.cells.lookup y.1=some c):closureFor scope env=pure (clOf env.cells scope.names []):=by
 have h:=aa (env:=env) scope.names [] hf;unfold closureFor;show ((forIn scope.names [] _:Sem _) >>= λ r=>pure r)=_;exact (congrArg (λ m=>m >>= λ r=>pure r) h)
theorem GQ {env:Env}{x:Str}{k:NameKind}:∀ {names:List (Str×NameKind)},(names.map λ (n,k)=>if (k==NameKind.free&&env.scope.kind==.function&&env.kindOf n==some .cell) then (n,NameKind.cell) else (n,k)).lookup x=some k ->
  ∃ k',(x,k')∈names/\(k'=k∨(k'=.free /\k=.cell))
 | [],h=>by simp at h
 | (n,k0)::r,h=>by
  rw[z03] at h;have ih:=@GQ env x k r
  by_cases hc:(k0==NameKind.free&&env.scope.kind==.function&&env.kindOf n==some .cell)=true
  ·simp only[hc,if_true] at h;rw[z09] at h;split at h
   ·rename_i e;have e':x=n:=by simpa using e
    subst e';have hk0:k0=.free :=by
     rw[z0x,z0x] at hc;simpa using hc.1.1
    cases h;exact⟨k0,z0i,.inr ⟨hk0,rfl⟩⟩
   ·obtain⟨k',h1,h2⟩:=ih h;exact⟨k',z0b _ h1,h2⟩
  ·simp only[hc,if_false] at h;rw[z09] at h;split at h
   ·rename_i e;have e':x=n:=by simpa using e
    subst e';cases h;exact⟨k0,z0i,.inl rfl⟩
   ·obtain⟨k',h1,h2⟩:=ih h;exact⟨k',z0b _ h1,h2⟩
def Bv (t:Str) (N:List Str):List Str:=N.map λ y=>if y=t then Str.empty else y
def Fo (X:Cx) (scope:Scope) (t:Str) (s2:Shared) (H2:Hp) (fp:List Addr):Cx:=
 { X with N:=Bv t X.N++[t],s₀:=s2,H₀:=H2,env:=compEnvC scope (clOf X.env.cells scope.names []) (s2.heap.objs.size+1) X.env,outer:=X.stack,ex:=fp,fn:=λ _=>false,pn:=[],xe:=λ _ _=>False }
structure CompOk (X:Cx) (scope:Scope) (t:Str):Prop where
 nocell:∀ y∈scope.names,y.2≠.cell
 kind:scope.kind=.function
 names:∀ y∈scope.names,y.2=.local ->scope.names.lookup y.1=some .local
 tl:scope.names.lookup t=some .local
 loc:∀ y∈scope.names,y.2=.local ->y.1=t∨y.1∉X.N
 fre:∀ y∈scope.names,y.2=.free ->X.env.kindOf y.1=some .cell ∨X.env.kindOf y.1=some .free
 emp:∀ y∈scope.names,y.1≠Str.empty
 nd:(Bv t X.N++[t]).Nodup
section
variable {t:Str}
theorem CompOk.cells (c:CompOk X scope t) (ok:X.Ok):∀ y∈scope.names,y.2=.free ->∃ c,X.env.cells.lookup y.1=some c:=λ y hy hf=>ok.has y.1 (c.fre y hy hf)
theorem CompOk.sub (c:CompOk X scope t) (ok:X.Ok) {x:Str}{a:Addr}(h:(clOf X.env.cells scope.names []).lookup x=some a):X.env.cells.lookup x=some a:=by
 rcases R3 (c.cells ok) h with q | q
 ·simp at q
 ·exact q
theorem CompOk.inv {h1:Heap}{tk:Nat}(c:CompOk X scope t) (I:Inv X π σ H s) (hf:∀ b∈fp,FpOk X π H b) (ho:∀ b∈fp,∃ o,s.heap.get? b=some o)
  (hns:h1.Ns (s.heap.objs.size+1) (λ _=>none)) (kp:∀ b o,s.heap.get? b=some o->h1.get? b=some o) (hacc:h1.get? s.heap.objs.size=some { cls:=.type "list",data:=.seq #[] }) :
  Inv (Fo X scope t s H fp) [] (σ++[none]) (upd H s.heap.objs.size (.lst [])) { s with heap:=h1,toks:=tk }:=by
 have lt_of:∀ b o,s.heap.get? b=some o->b<s.heap.objs.size:=λ b o e=>z06 e;have ok':(Fo X scope t s H fp).Ok:=by
  refine⟨I.ok.mod,c.kind,I.ok.glob,I.ok.blt,z0Q _,λ x y a h1 h2=>I.ok.inj x y a (c.sub I.ok h1) (c.sub I.ok h2),λ x hx=>?_,λ x a h _=>absurd (show false=true from h) z0j,I.ok.hd,I.ok.frames,.inl rfl,λ b hb=>⟨?_,λ x a h=>?_⟩,I.bs,z0a I.ok.bsz I.sz,λ b o e hb=>?_,λ b hb hs=>?_,I.stack,I.stkFree⟩
  ·have hx':(relabel scope X.env).names.lookup x=some .cell ∨(relabel scope X.env).names.lookup x=some .free :=hx;have go:∀ k,(relabel scope X.env).names.lookup x=some k->(k=.cell ∨k=.free)->(x,NameKind.free)∈scope.names:=λ k hk hkk=>by
    obtain⟨k',m,e⟩:=GQ hk
    rcases e with e | ⟨e,_⟩
    ·subst e
     rcases hkk with z | z
     ·exact absurd z (c.nocell _ m)
     ·rw[<-z];exact m
    ·rw[<-e];exact m
   rcases hx' with h | h
   ·exact Kp (go _ h (.inl rfl))
   ·exact Kp (go _ h (.inr rfl))
  ·obtain⟨o,e⟩:=ho b hb;exact z08 (z1p (lt_of b o e))
  ·exact (hf b hb).2.2.2.2.1 x a (c.sub I.ok h)
  ·rcases (hf b hb).2.2.2.1 with z | z
   ·exact I.ok.noex b o e z
   ·exact absurd (z0m (z06 e) (z0a I.ok.bsz z)) (z1s _)
  ·rcases z0d.mp (I.stkSub b hs) with z | z
   ·exact (hf b hb).2.1 z
   ·exact (hf b hb).2.2.1 z
 have fr:H s.heap.objs.size=none:=I.hok.fresh (z04 _);have new:Bt X.prog X.w (upd H s.heap.objs.size (.lst [])) h1 s.heap.objs.size (.lst []):=⟨z0P _,[],0,.nil,hacc⟩;refine⟨ok',rfl,I.bare,Un.laid kp (z04 _) fr,⟨_,hns,λ i x v e1 e2 e3=>?_⟩,λ x a h=>?_,?_,λ x a h=>?_,λ p hp=>absurd (show p∈([]:zP) from hp) (by simp),I.hok.laid kp (z04 _) new,?_⟩
 ·have e1':(Bv t X.N++[t])[i]?=some x:=e1;have hil:i<σ.length:=by
   by_cases z:i<σ.length
   ·exact z
   ·rw[z1j (by omega)] at e2;cases q:i-σ.length with
    | zero=>rw[q] at e2;cases e2
    | succ n=>rw[q] at e2;simp at e2
  have e2':σ[i]?=some (some v):=by rw[z1b hil] at e2;exact e2
  have hN:i<X.N.length:=by rw[<-I.len];exact hil
  have e1'':(Bv t X.N)[i]?=some x:=by rw[z1b (by delta Bv;rw[z02];exact hN)] at e1';exact e1'
  unfold Bv at e1'';rw[z0g] at e1'';have e3':(relabel scope X.env).names.lookup x=some .local ∨(relabel scope X.env).names.lookup x=some .cell ∨(relabel scope X.env).names.lookup x=some .free :=e3;have hin:∃ k',(x,k')∈scope.names/\(k'=.local ∨k'=.free)/\(k'=.free ->(relabel scope X.env).names.lookup x=some .cell ∨(relabel scope X.env).names.lookup x=some .free):=by
   rcases e3' with z | z | z
   ·obtain⟨k',m,e⟩:=GQ z
    rcases e with e | ⟨_,e⟩
    ·exact⟨k',m,.inl e,λ q=>by rw[q] at e;cases e⟩
    ·cases e
   ·obtain⟨k',m,e⟩:=GQ z
    rcases e with e | ⟨e,_⟩
    ·exact absurd e (c.nocell _ m)
    ·exact⟨k',m,.inr e,λ _=>.inl z⟩
   ·obtain⟨k',m,e⟩:=GQ z
    rcases e with e | ⟨e,q⟩
    ·exact⟨k',m,.inr e,λ _=>.inr z⟩
    ·cases q
  cases ey:X.N[i]? with
  | none=>rw[ey] at e1'';cases e1''
  | some y=>
   rw[ey] at e1'';have e1z:(if y=t then Str.empty else y)=x:=z0h e1'';obtain⟨k',m,hk',hfr⟩:=hin
   by_cases hyt:y=t
   ·rw[if_pos hyt] at e1z;exact absurd e1z.symm (c.emp _ m)
   ·rw[if_neg hyt] at e1z;subst e1z
    rcases hk' with hk' | hk'
    ·rcases c.loc _ m hk' with z | z
     ·exact absurd z hyt
     ·exact absurd (z1v ey) z
    ·have hkk:=c.fre _ m hk';have hkk':X.env.kindOf y=some .cell ∨X.env.kindOf y=some .free :=hkk;obtain⟨mm,hn,hl⟩:=I.loc;have hv:Vis X.env.scope y:=by
      rcases hkk' with z | z
      ·exact .inr (.inl z)
      ·exact .inr (.inr z)
     obtain⟨u,r,l⟩:=hl i y v ey e2' hv;refine⟨u,r,.inr ⟨hfr hk',?_⟩⟩
     rcases l with ⟨kl,_⟩ | ⟨_,a,ea,hc⟩
     ·rcases hkk' with z | z
      ·rw[kl] at z;cases z
      ·rw[kl] at z;cases z
     ·rw[hk'] at m;obtain⟨a',ha'⟩:=Kp (cells:=X.env.cells) (cs:=[]) m;refine⟨a',ha',?_⟩;have:=c.sub I.ok ha';rw[ea] at this;cases this;obtain⟨o,e,d⟩:=hc;exact⟨o,kp _ _ e,d⟩
 ·obtain⟨v,o,e,d⟩:=I.cell x a (c.sub I.ok h);exact⟨v,o,kp _ _ e,d⟩
 ·show upd H s.heap.objs.size (.lst []) (s.heap.objs.size+1)=none;rw[Al (Nat.succ_ne_self _)];exact I.hok.fresh (z0Q _)
 ·have ha:=c.sub I.ok h;obtain⟨v,o,e,d⟩:=I.cell x a ha;rw[Al (z08 (lt_of _ _ e))];exact I.freeC x a ha
 ·show (σ++[none]).length=(Bv t X.N++[t]).length;delta Bv;rw[z0u,z0u,z02,I.len];rfl
def aj (wi:TI) (tc:TT) (te:TE):TE:=λ σ H Q=>wi σ H λ J H1=>∀ p,H1 p=none->∃ W:Nat->Nat->List V->Hp->Prop,(∃ m,W 0 m [] (upd H1 p (.lst []))) ∧
 ∀ i m ys H,W i m ys H->(J.stop i H/\Q (.ref p) H)∨(J.go i H/\∀ x H',J.yld i H x H'->tc (σ++[some x]) H' λ b H2=>
  if b=true then te (σ++[some x]) H2 λ y H3=>H3 p=some (.lst ys)/\ys.length<sizeLine/\∃ m',m'<m/\W (i+1) m' (ys++[y]) (upd H3 p (.lst (ys++[y]))) else ∃ m',m'<m/\W (i+1) m' ys H2)
def PTs (X:Cx) (ifs:List Expr) (tc:TT):Prop:=
 ∀ (π:zP) (s:Shared) (σ:St) (H:Hp) (Q:Bool->Hp->Prop),Inv X π σ H s->tc σ H Q ->
  wpAny (model X.prog X.w) X.A (forIn ifs true λ c r=>if r=true then do let ok <-isTrue c X.env (eval c X.env);pure (ForInStep.yield ok) else pure (ForInStep.yield r)) (TP X π σ Q) X.xe s
theorem oH:PTs X [] (λ _ H Q=>Q true H):=λ _ _ _ H _ I h=>wpAny_tests_nil ⟨H,I,h⟩
theorem oJ (h:PT X e tc):PTs X [e] tc:=λ π s σ H Q I q=>wpAny_tests_one (h π s σ H Q I q)
variable {elt iter:Expr}{ifs:List Expr}{px:Pos}{wi:TI}{te:TE}
theorem R4 {Q:VK}{tn:Nat->Heap->Prop}{J:It}{RR:Value->Addr->Result->Shared->Prop}(c:CompOk X scope t) (hc:X.calm=true)
    (I:Inv X π σ H s) (T:Turn X.prog X.w X.K (.Name t px) J fp it tn) (st0:tn 0 s.heap) (hf:∀ b∈fp,FpOk X π H b)
    (hI:∀ s2 H2 fp,PTs (Fo X scope t s2 H2 fp) ifs tc) (hE:∀ s2 H2 fp,PE (Fo X scope t s2 H2 fp) elt te)
    (h:∀ p,H p=none->∃ W:Nat->Nat->List V->Hp->Prop,(∃ m,W 0 m [] (upd H p (.lst []))) ∧
      ∀ i m ys H,W i m ys H->(J.stop i H/\Q (.ref p) H)∨(J.go i H/\∀ x H',J.yld i H x H'->tc (σ++[some x]) H' λ b H2=>
        if b=true then te (σ++[some x]) H2 λ y H3=>H3 p=some (.lst ys)/\ys.length<sizeLine/\∃ m',m'<m/\W (i+1) m' (ys++[y]) (upd H3 p (.lst (ys++[y]))) else ∃ m',m'<m/\W (i+1) m' ys H2))
    (hRR:∀ p C s' H' m,Inv X π σ H' s'->H' C=none->C≠X.env.locals->X.s₀.heap.objs.size<=C->(∀ x a,X.env.cells.lookup x=some a->a≠C)->(∀ q∈X.pn++π,q.1≠C)->s'.heap.Ns C m->Q (.ref p) H'->RR (.ref p) C (.ok .next) s') :
    wpAny (model X.prog X.w) X.A (newList []) (λ acc s₃=>wpAny (model X.prog X.w) X.A (newFunctionEnv scope X.env.globals (clOf X.env.cells scope.names []) [] X.env.qual none .none (some X.env)) (λ cenv s₄=>
      codeAny (model X.prog X.w) X.A (.compStart (.ListComp elt [⟨.Name t px,iter,ifs,0⟩] scope pos) 0 (.ref it) acc { cenv with scope:=relabel scope X.env }) (RR acc cenv.locals) s₄) E s₃) E s:=by
  refine z0R (wpAny_newFunctionEnv c.nocell (by intro y hy;simp at hy) (λ h₁ hns₁ hsb₁=>?_) c.kind);dsimp only at hns₁ hsb₁ ⊢;generalize hH2:s.heap.push { cls:=.type "list",dict:=none,data:=.seq ([]:List Value).toArray }=G2 at hns₁ hsb₁ ⊢;have hC:G2.objs.size=s.heap.objs.size+1:=by rw[<-hH2,z13]
  rw[hC] at hns₁ hsb₁ ⊢;have kp:∀ b o,s.heap.get? b=some o->h₁.get? b=some o:=λ b o e=>hsb₁.extBut b o (z08 (z1p (z06 e))) (z05 _ (hH2▸z05 _ e));have hacc:h₁.get? s.heap.objs.size=some { cls:=.type "list",data:=.seq #[] }:=hsb₁.extBut _ _ (z08 (z1M _)) (z05 _ (hH2▸z0f _ rfl));have hob:∀ b∈fp,∃ o,s.heap.get? b=some o:=λ b hb=>let ⟨o,e,_⟩:=T.obj 0 _ st0 b hb;⟨o,e⟩;have I0:=c.inv (fp:=fp) (h1:=h₁) (tk:=s.toks+([]:List (Str×Value)).length) I hf hob (by simpa using hns₁) kp hacc;have fr:H s.heap.objs.size=none:=I.hok.fresh (z04 _);obtain⟨W,⟨m0,w0⟩,turn⟩:=h _ fr;have st1:tn 0 h₁:=T.keep 0 _ _ st0 λ b _ o e=>kp b o e;generalize hX:Fo X scope t s H fp=Y at I0;have hcY:Y.calm=true:=by rw[<-hX];exact hc
  have stat:∀ {H':Hp},(∀ b∈fp,H' b=none)->∀ b∈fp,FpOk Y [] H' b:=λ {H'} hn b hb=>by
    obtain⟨o,e⟩:=hob b hb;refine⟨hn b hb,?_,?_,.inl ?_,λ x a e'=>?_,λ p hp=>?_⟩
    · rw[<-hX];exact z08 (z1p (z06 e))
    · intro z
      exact I0.ok.exfs b (by rw[<-hX];exact hb) z
    · rw[<-hX];exact hb
    · exact (I0.ok.exf b (by rw[<-hX];exact hb)).2 x a e'
    · rw[<-hX] at hp
      exact absurd (show p∈([]:zP) from hp) (by simp)
  have fp0:∀ b∈fp,upd H s.heap.objs.size (.lst []) b=none:=λ b hb=>by
    obtain⟨o,e⟩:=hob b hb;rw[Al (z08 (z06 e))];exact (hf b hb).1
  have envY:Y.env=compEnvC scope (clOf X.env.cells scope.names []) (s.heap.objs.size+1) X.env:=by rw[<-hX];rfl
  have pY:Y.prog=X.prog:=by rw[<-hX];rfl
  have wY:Y.w=X.w:=by rw[<-hX];rfl
  have aY:Y.A=X.A:=by rw[<-hX];rfl
  have kY:Y.K=X.K:=by rw[<-hX];rfl
  have xY:Y.xe=λ _ _=>False:=by rw[<-hX];rfl
  have nY:Y.N=Bv t X.N++[t]:=by rw[<-hX];rfl
  have lenN:(Bv t X.N).length=σ.length:=by delta Bv;rw[z02,I.len]
  have hIY:PTs Y ifs tc:=by rw[<-hX];exact hI s H fp
  have hEY:PE Y elt te:=by rw[<-hX];exact hE s H fp
  have setE:∀ (o:Option V) (v:V),(σ++[o]).set (Bv t X.N).length (some v)=σ++[some v]:=λ o v=>by
    rw[lenN,List.set_append_right _ _ (z04 _),Nat.sub_self];rfl
  have loop:∀ s₃:Shared,s₃={ s with heap:=h₁,toks:=s.toks+([]:List (Str×Value)).length } ->
      codeAny (model X.prog X.w) X.A (.compLoop (.ListComp elt [⟨.Name t px,iter,ifs,0⟩] scope pos) 0 (.ref it) (.ref s.heap.objs.size) (compEnvC scope (clOf X.env.cells scope.names []) (s.heap.objs.size+1) X.env)) (RR (.ref s.heap.objs.size) (s.heap.objs.size+1)) s₃:=by
    rintro s₃ rfl;rw[<-envY];refine codeAny_compLoop_tests (λ n s'=>∃ i ys o H',Inv Y [] (σ++[o]) H' s'/\tn i s'.heap/\(∀ b∈fp,H' b=none)/\W i n ys H') ?_ m0 ⟨0,[],none,_,I0,st1,fp0,w0⟩;rintro n s3 ⟨i,ys,o,H3,I3,st3,fr3,w3⟩
    rcases turn i n ys H3 w3 with ⟨stop,qn⟩ | ⟨go,step⟩
    · have d:=T.done Y pY wY kY hcY i [] s3 _ H3 (λ _ _=>False) I3 (stat fr3) st3 stop
      rw[aY] at d;refine z0D d (λ r s4 ⟨hr,I4⟩=>?_) λ _ _ z=>z.elim;subst hr;have cN:=I4.free;have cN':H3 (s.heap.objs.size+1)=none:=by rw[envY] at cN;exact cN
      have un:=I4.base;obtain⟨m,hm,_⟩:=I4.loc;have hm':s4.heap.Ns (s.heap.objs.size+1) m:=by rw[envY] at hm;exact hm
      have un':Un (frs X.stack) fp H H3 s.heap s4.heap:=by rw[<-hX] at un;exact un
      have os':s4.os=s.os:=by have:=I4.os;rw[<-hX] at this;exact this
      have hok':HOk X.prog X.w H3 s4.heap:=by have:=I4.hok;rw[<-hX] at this;exact this
      have bare':=I4.bare;have IX:Inv X π σ H3 s4:=I.call' os' un' hok' bare' λ b hb=>⟨(hf b hb).2.2.2.1,(hf b hb).2.1,(hf b hb).2.2.2.2.1,(hf b hb).2.2.2.2.2⟩;refine hRR _ _ _ _ m IX cN' (Nat.ne_of_gt (z1p I.lt)) (z0a I.sz (z0Q _)) (λ x a e z=>?_) (λ q hq z=>?_) hm' qn
      · obtain⟨v,oc,e',_⟩:=I.cell x a e
        have q2:a<s.heap.objs.size:=z06 e';have z':a=s.heap.objs.size+1:=z;exact absurd (z'▸q2) (z1f.mpr (z0Q _))
      · have q2:q.1<s.heap.objs.size:=z06 (I.pin q hq).1
        have z':q.1=s.heap.objs.size+1:=z;exact absurd (z'▸q2) (z1f.mpr (z0Q _))
    · have d:=T.item Y pY wY kY hcY i [] s3 _ H3 (λ _ _=>False) I3 (stat fr3) st3 go
      rw[aY] at d;refine z0D d (λ r s4 ⟨u,hr,h4⟩=>?_) λ _ _ z=>z.elim;subst hr;intro Γ pp hΓ;obtain⟨x,H5,I5,r5,y5,st5,fr5⟩:=(show ∃ x H',Inv Y [] (σ++[o]) H' s4/\RelV x u/\J.yld i H3 x H'/\tn (i+1) s4.heap/\∀ b∈fp,H' b=none from h4 Γ pp hΓ)
      revert Γ pp
      show wpAny (model X.prog X.w) X.A _ _ _ s4;have I5':=I5.pinned (stat fr5) (T.obj _ _ st5);have hiY:Y.N[(Bv t X.N).length]?=some t:=by rw[nY,z1j (z04 _),Nat.sub_self];rfl
      have htl:Y.env.scope.names.lookup t=some .local :=by rw[envY];exact lookup_relabel_local c.tl
      refine wpAny_assign_Name (M7 (i:=(Bv t X.N).length) (v:=x) I5' (by rw[nY];exact c.nd) hiY (.inl htl) r5 (λ s6 I6=>?_) (.inr htl));rw[setE] at I6;have q:=step x H5 y5;have tst:=hIY _ s6 _ H5 _ I6 q;rw[aY,pY,wY,xY] at tst;refine z0D tst (λ b s7 ⟨H7,I7,q7⟩=>?_) λ _ _ z=>z.elim;have back:∀ {H8:Hp}{s8:Shared},Inv Y ([]++Rm fp s4.heap) (σ++[some x]) H8 s8->tn (i+1) s8.heap/\∀ b∈fp,H8 b=none:=λ {H8 s8} I8=>by
        refine⟨T.keep _ _ _ st5 λ b hb ob e=>(I8.pin (b,ob) (z0U _ (z0U _ (Jy hb e)))).1,λ b hb=>?_⟩;obtain⟨ob,e,d⟩:=T.obj _ _ st5 b hb;exact (I8.pin (b,ob) (z0U _ (z0U _ (Jy hb e)))).2.1
      cases b with
      | false=>
        rw[if_neg z0j] at q7 ⊢;obtain⟨m',hm,w7⟩:=q7;obtain⟨t7,f7⟩:=back I7;exact⟨m',hm,i+1,ys,some x,H7,I7.unpinned,t7,f7,w7⟩
      | true=>
        rw[if_pos rfl] at q7 ⊢;have ev:=hEY _ s7 _ H7 _ I7 q7;rw[aY,pY,wY,xY] at ev;refine z0D ev (λ y s8 ⟨yv,H8,I8,r8,hp8,hz8,m',hm,w8⟩=>?_) λ _ _ z=>z.elim;have ap:=Uo (X:=Y) _ s8 _ H8 (.ref s.heap.objs.size) [yv] (.ref s.heap.objs.size) [y] (λ _ H9=>H9=upd H8 s.heap.objs.size (.lst (ys++[yv]))) I8 rfl (.cons r8 .nil) ⟨_,ys,yv,rfl,rfl,hp8,hz8,rfl⟩;rw[aY,pY,wY,xY] at ap;refine z0D ap (λ _ s9 ⟨_,H9,I9,_,e9⟩=>?_) λ _ _ z=>z.elim;subst e9;obtain⟨t9,f9⟩:=back I9;exact⟨m',hm,i+1,_,some x,_,I9.unpinned,t9,f9,w8⟩
  exact codeAny_compStart_list (loop _ rfl) (T.self X.A 0 _ _ _ st1 (loop _ rfl))
theorem oK (c:CompOk X scope t) (hc:X.calm=true) (hi:PI X (.Name t px) iter wi) (hI:∀ s2 H2 fp,PTs (Fo X scope t s2 H2 fp) ifs tc) (hE:∀ s2 H2 fp,PE (Fo X scope t s2 H2 fp) elt te)
  (hs:∀ x,foldedSetIterable iter X.env x=pure x:=by intro _;rfl):PE X (.ListComp elt [⟨.Name t px,iter,ifs,0⟩] scope pos) (aj wi tc te):=by
 intro π s σ H Q I h;rw[eval_ListComp];refine wpAny_comprehension_free (use:=none) rfl hs (Ma (c.cells I.ok)) c.kind c.names (thn (hi π s σ H _ I h) λ v s1 h1=>thn h1 λ itv s2 h2=>?_);obtain⟨it,fp,tn,J,H2,e,I2,T,st2,f2,q⟩:=h2;subst e;refine R4 (Q:=Q) c hc I2 T st2 f2 hI hE q λ p C s' H' m I' n1 n2 n3 n4 n5 hm q'=>?_;exact⟨m,hm,λ h' sb=>⟨.ref p,H',I'.turned (t':=s'.toks) (λ b o hb e=>(sb.2 b hb).trans e) n1 (Ne.symm (Ne.symm n2)) (.inr n3) n4 n5,rfl,q'⟩⟩
theorem ak {y:Str}(c:CompOk X scope t) (hc:X.calm=true) (hN:X.N.Nodup) (hi':X.N[i]?=some y) (hx:Loc X.env.scope y) (hi:PI X (.Name t px) iter wi) (hI:∀ s2 H2 fp,PTs (Fo X scope t s2 H2 fp) ifs tc)
  (hE:∀ s2 H2 fp,PE (Fo X scope t s2 H2 fp) elt te) (hsw:swapsWith (.ListComp elt [⟨.Name t px,iter,ifs,0⟩] scope pos) (some (.Name y py)) spos.line X.env=pure true:=by rfl)
  (hf:X.fn y=true∨X.env.scope.names.lookup y=some .local :=by first | exact .inl rfl | exact .inr rfl | assumption) (hs:∀ x,foldedSetIterable iter X.env x=pure x:=by intro _;rfl) :
  PS X (.Assign [.Name y py] (.ListComp elt [⟨.Name t px,iter,ifs,0⟩] scope pos) spos) (tAsg (aj wi tc te) (Kd i)):=by
 intro π s σ H D I h;rw[exec_Assign_Name_used _ _ _ _ hsw];refine z00 (wpAny_standAt (z00 ?_));show wpAny _ X.A (do let _ <-comprehension (.ListComp elt [⟨.Name t px,iter,ifs,0⟩] scope pos) scope X.env _ (newList []) false (eval iter X.env) (some (assign (.Name y py) X.env))) _ _ s;refine z00 (z0D (wpAny_comprehension_free (use:=some (assign (.Name y py) X.env)) (Q:=λ _ s'=>SP X π D .next s') rfl hs (Ma (c.cells I.ok)) c.kind c.names
  (thn (hi π s σ H _ I h) λ v s1 h1=>thn h1 λ itv s2 h2=>?_)) (λ _ s' hq=>z01 (z01 hq)) λ _ _ e=>e)
 obtain⟨it,fp,tn,J,H2,e,I2,T,st2,f2,q⟩:=h2;subst e;refine R4 (Q:=λ x H1=>Kd i x σ H1 D.nx) c hc I2 T st2 f2 hI hE q λ p C s' H' m I' n1 n2 n3 n4 n5 hm q'=>?_;show wpAny _ X.A (assign (.Name y py) X.env (.ref p)) _ _ _;refine wpAny_assign_Name (Uh (v:=.ref p) I' hN hi' hx rfl (λ s3 I3 ⟨a,sb,ha⟩=>?_) hf);have hCa:C≠a:=by
  rcases ha with z | z
  ·rw[z];exact n2
  ·exact Ne.symm (n4 _ _ z)
 exact⟨m,hm.sameBut sb hCa,λ h' sb'=>⟨_,H',I3.turned (t':=s3.toks) (λ b o hb e=>(sb'.2 b hb).trans e) n1 n2 (.inr n3) n4 n5,q'⟩⟩
end
end L2
namespace PV
open PySem PySem.Spec L2
open PyProof.Rows hiding St
structure Gx where
 K:PySem.W.Frag
 cl:Str->Option Addr
 xcl:Str->Option Addr:=λ _=>none
 lent:Option Addr:=none
theorem IV {K:zFr}(e:Same H H') (h:SqT K H a xs):SqT K H' a xs:=by
 rcases h with (h | ⟨o,h⟩) | h
 ·exact .inl (.inl (e _ _ h))
 ·exact .inl (.inr ⟨o,e _ _ h⟩)
 ·exact .inr h
theorem BR (h:H p=none) (o:HO):Same H (upd H p o):=λ b u q=>by rw[Al (Aw q h)];exact q
def FsV (fs:List (Str×V)) (gs:List (Str×D)):Prop:=fs.map (λ p=>(p.1,some p.2))=gs.map λ p=>(p.1,flV p.2)
def XdA (H:Hp) (od:Option Addr) (fs:List (Str×V)):Prop:=match od with | some dx=>H dx=some (.xd fs) | none=>fs=[]
theorem XdA.mono {fs:List (Str×V)}(h:XdA H od fs) (s:Same H H'):XdA H' od fs:=by
 cases od with
 | none=>exact h
 | some dx=>exact s _ _ h
inductive Rep (G:Gx) (H:Hp):V->D->Prop
 | non:Rep G H .non .non
 | bl (b:Bool):Rep G H (.bl b) (.bl b)
 | int (i:Int):Rep G H (.int i) (.int i)
 | str (x:Str):Rep G H (.str x) (.str x)
 | tup {a:Addr}{xs:List V}{ds:List D}:SqT G.K H a xs->xs.length=ds.length->(∀ (i:Nat) x d,xs[i]?=some x->ds[i]?=some d->Rep G H x d)->Rep G H (.ref a) (.tup ds)
 | lst {a:Addr}{xs:List V}{ds:List D}:SqL G.K H a xs->xs.length=ds.length->(∀ (i:Nat) x d,xs[i]?=some x->ds[i]?=some d->Rep G H x d)->Rep G H (.ref a) (.lst ds)
 | dk {a:Addr}{o:Obj}{kvs:List (Key×V)}{kds:List (Key×D)}:H a=some (.frz o (.dK kvs))->kvs.map (·.1)=kds.map (·.1)->(∀ (i:Nat) x d,(kvs.map (·.2))[i]?=some x->(kds.map (·.2))[i]?=some d->Rep G H x d)->Rep G H (.ref a) (.dk kds)
 | dt {a:Addr}{o:Obj}{kvs:List (List Key×V)}{kds:List (List Key×D)}:H a=some (.frz o (.dT kvs))->kvs.map (·.1)=kds.map (·.1)->(∀ (i:Nat) x d,(kvs.map (·.2))[i]?=some x->(kds.map (·.2))[i]?=some d->Rep G H x d)->Rep G H (.ref a) (.dt kds)
 | adr (a:Addr):Rep G H (.ref a) (.adr a)
 | ob {a C dx:Addr}{c:Str}{fs:List (Str×V)}{gs:List (Str×D)}:G.cl c=some C->H a=some (.ins C dx fs)->fs.map (·.1)=gs.map (·.1)->(∀ (i:Nat) x d,(fs.map (·.2))[i]?=some x->(gs.map (·.2))[i]?=some d->Rep G H x d)->Rep G H (.ref a) (.ob c gs)
 | err {a C:Addr}{od tb:Option Addr}{c:Str}{fs:List (Str×V)}{gs:List (Str×D)}:G.xcl c=some C->H a=some (EX.excO a C od tb)->XdA H od fs->FsV fs gs->Rep G H (.ref a) (.err c gs)
def RepL (G:Gx) (H:Hp) (xs:List V) (ds:List D):Prop:=xs.length=ds.length/\∀ (i:Nat) x d,xs[i]?=some x->ds[i]?=some d->Rep G H x d
theorem Rep.mono {G:Gx}{H H':Hp}{v:V}{d:D}(r:Rep G H v d) (s:Same H H'):Rep G H' v d:=by
 induction r with
 | non=>exact .non
 | bl b=>exact .bl b
 | int i=>exact .int i
 | str x=>exact .str x
 | tup h l _ ih=>exact .tup (IV s h) l ih
 | lst h l _ ih=>exact .lst (s.seq h) l ih
 | dk h l _ ih=>exact .dk (s _ _ h) l ih
 | dt h l _ ih=>exact .dt (s _ _ h) l ih
 | adr a=>exact .adr a
 | ob c h l _ ih=>exact .ob c (s _ _ h) l ih
 | err c h q f=>exact .err c (s _ _ h) (q.mono s) f
theorem RepL.mono {G:Gx}{H H':Hp}{xs:List V}{ds:List D}(r:RepL G H xs ds) (s:Same H H'):RepL G H' xs ds:=⟨r.1,λ i x d a b=>(r.2 i x d a b).mono s⟩
theorem RepL.nil {G:Gx}:RepL G H [] []:=⟨rfl,λ i x d h=>by simp at h⟩
theorem RepL.cons {G:Gx}{H:Hp}{x:V}{d:D}{xs:List V}{ds:List D}(r:Rep G H x d) (rs:RepL G H xs ds):RepL G H (x::xs) (d::ds):=
 ⟨by simp[rs.1],λ i y e h1 h2=>by
  cases i with
  | zero=>simp at h1 h2;subst h1;subst h2;exact r
  | succ i=>simp at h1 h2;exact rs.2 i y e h1 h2⟩
theorem RepL.uncons {G:Gx}{d:D}{ds:List D}(r:RepL G H xs (d::ds)):∃ x ys,xs=x::ys/\Rep G H x d/\RepL G H ys ds:=by
 obtain⟨l,h⟩:=r;cases xs with
 | nil=>simp at l
 | cons x ys=>exact⟨x,ys,rfl,h 0 x d rfl rfl,by simpa using l,λ i y e h1 h2=>h (i+1) y e (by simpa using h1) (by simpa using h2)⟩
theorem RepL.nil_inv {G:Gx}(r:RepL G H xs []):xs=[]:=by
 have:=r.1;cases xs with
 | nil=>rfl
 | cons x ys=>simp at this
theorem RepL.append {G:Gx}{ds es:List D}(a:RepL G H xs ds) (b:RepL G H ys es):RepL G H (xs++ys) (ds++es):=by
 refine⟨by rw[z0u,z0u,a.1,b.1],λ i x d h1 h2=>?_⟩
 by_cases hi:i<xs.length
 ·rw[z1b hi] at h1;rw[z1b (by rw[<-a.1];exact hi)] at h2;exact a.2 i x d h1 h2
 ·rw[z1j (z1f.mp hi)] at h1;rw[z1j (by rw[<-a.1];exact z1f.mp hi),<-a.1] at h2;exact b.2 _ x d h1 h2
theorem RepL.drop {G:Gx}{ds:List D}(a:RepL G H xs ds) (n:Nat):RepL G H (xs.drop n) (ds.drop n):=
 ⟨by rw[z1c,z1c,a.1],λ i x d h1 h2=>by rw[List.getElem?_drop] at h1 h2;exact a.2 _ x d h1 h2⟩
theorem RepL.take {G:Gx}{ds:List D}(a:RepL G H xs ds) (n:Nat):RepL G H (xs.take n) (ds.take n):=
 ⟨by rw[z0V,z0V,a.1],λ i x d h1 h2=>by
  rw[List.getElem?_take] at h1 h2;split at h1
  ·rename_i hlt;rw[if_pos hlt] at h2;exact a.2 _ x d h1 h2
  ·cases h1⟩
theorem RepL.get {G:Gx}{ds:List D}(a:RepL G H xs ds) {i:Nat}{d:D}(h:ds[i]?=some d):∃ x,xs[i]?=some x/\Rep G H x d:=by
 have hi:i<ds.length:=(z0C.mp h).1;have hi':i<xs.length:=by rw[a.1];exact hi
 exact⟨xs[i],by simp[hi'],a.2 i _ d (by simp[hi']) h⟩
theorem RepL.atI {G:Gx}{H:Hp}{xs:List V}{ds:List D}(a:RepL G H xs ds) {i:Int}{d:D}(h:L2.atI ds i=some d):∃ x,L2.atI xs i=some x/\Rep G H x d:=by
 unfold L2.atI at h ⊢;rw[<-a.1] at h;cases e:ixN xs.length i with
 | none=>rw[e] at h;cases h
 | some j=>
  rw[e] at h;obtain⟨x,h1,h2⟩:=a.get (show ds[j]?=some d from h);exact⟨x,h1,h2⟩
def hid (A:List Addr) (H:Hp):Hp:=λ b=>if b∈A then none else H b
theorem BV (s:Same H H'):Same (hid A H) (hid A H'):=λ b o h=>by
 unfold hid at h ⊢;split at h
 ·cases h
 ·rename_i hb;rw[if_neg hb];exact s b o h
theorem BK:Same (hid A H) H:=λ b o h=>by
 unfold hid at h;split at h
 ·cases h
 ·exact h
theorem GR (h:∀ a∈A,a∈B):Same (hid B H) (hid A H):=λ b o q=>by
 unfold hid at q ⊢;split at q
 ·cases q
 ·rename_i hb;rw[if_neg (λ z=>hb (h b z))];exact q
theorem Bp (h:p∉A):hid A H p=H p:=by delta hid;rw[if_neg h]
theorem CQ (h:p∈A):hid A (upd H p o)=hid A H:=by
 funext b;delta hid
 by_cases hb:b∈A
 ·rw[if_pos hb,if_pos hb]
 ·rw[if_neg hb,if_neg hb,Al (λ e:b=p=>hb (by rw[e];exact h))]
def Top (G:Gx) (A:List Addr) (H:Hp) (a:Addr):D->Prop
 | .lst ds=>∃ xs,H a=some (.lst xs)/\RepL G (hid A H) xs ds
 | .dk kds=>∃ kvs,H a=some (.dK kvs)/\kvs.map (·.1)=kds.map (·.1)/\RepL G (hid A H) (kvs.map (·.2)) (kds.map (·.2))
 | .dt kds=>∃ kvs,H a=some (.dT kvs)/\kvs.map (·.1)=kds.map (·.1)/\RepL G (hid A H) (kvs.map (·.2)) (kds.map (·.2))
 | .ob c gs=>∃ C dx fs,H a=some (.ins C dx fs)/\(G.cl c=some C/\fs.map (·.1)=gs.map (·.1))/\RepL G (hid A H) (fs.map (·.2)) (gs.map (·.2))
 | _=>False
theorem Top.mono {G:Gx}{A:List Addr}{H H':Hp}{a:Addr}{d:D}(t:Top G A H a d) (s:Same H H'):Top G A H' a d:=by
 cases d with
 | lst ds=>obtain⟨xs,h,r⟩:=t;exact⟨xs,s _ _ h,r.mono (BV s)⟩
 | dk ds=>obtain⟨xs,h,k,r⟩:=t;exact⟨xs,s _ _ h,k,r.mono (BV s)⟩
 | dt ds=>obtain⟨xs,h,k,r⟩:=t;exact⟨xs,s _ _ h,k,r.mono (BV s)⟩
 | ob c gs=>obtain⟨C,dx,xs,h,k,r⟩:=t;exact⟨C,dx,xs,s _ _ h,k,r.mono (BV s)⟩
 | _=>exact t.elim
structure Nt (x:Option HO):Prop where
 ne:x≠none
 tup:∀ xs,x≠some (.tup xs)
theorem Nt.mono {x y:Option HO}(h:Nt x) (k:∀ u,x=some u->y=some u):Nt y:=by
 cases x with
 | none=>exact absurd rfl h.ne
 | some u=>rw[k u rfl];exact h
theorem Nt.lst {xs:List V}:Nt (some (.lst xs)):=⟨λ z=>(nomatch z),λ _ z=>(nomatch z)⟩
theorem Nt.dK {xs:List (Key×V)}:Nt (some (.dK xs)):=⟨λ z=>(nomatch z),λ _ z=>(nomatch z)⟩
theorem Nt.dT {xs:List (List Key×V)}:Nt (some (.dT xs)):=⟨λ z=>(nomatch z),λ _ z=>(nomatch z)⟩
theorem Nt.ins {C dx:Addr}{xs:List (Str×V)}:Nt (some (.ins C dx xs)):=⟨λ z=>(nomatch z),λ _ z=>(nomatch z)⟩
structure Okp (G:Gx) (A:List Addr) (σ:St) (H:Hp) (ρ:Rho):Prop where
 len:σ.length=ρ.length
 live:∀ a∈A,Nt (H a)
 fz:∀ (i:Nat) (d:D),ρ[i]?=some (.fz d)->∃ v,σ[i]?=some (some v)/\Rep G (hid A H) v d
 ow:∀ (i:Nat) (d:D),ρ[i]?=some (.ow d)->∃ a,σ[i]?=some (some (.ref a))/\a∈A/\Top G A H a d
 inj:∀ (i j:Nat) (d e:D) (a:Addr),ρ[i]?=some (.ow d)->ρ[j]?=some (.ow e)->σ[i]?=some (some (.ref a))->σ[j]?=some (some (.ref a))->i=j
theorem Okp.mono {G:Gx}{A:List Addr}{σ:St}{H H':Hp}{ρ:Rho}(o:Okp G A σ H ρ) (s:Same H H'):Okp G A σ H' ρ:=
 ⟨o.len,λ a ha=>(o.live a ha).mono λ u e=>s _ _ e,
  λ i d h=>let ⟨v,h1,h2⟩:=o.fz i d h;⟨v,h1,h2.mono (BV s)⟩,λ i d h=>let ⟨a,h1,h2,h3⟩:=o.ow i d h;⟨a,h1,h2,h3.mono s⟩,o.inj⟩
def RepT (G:Gx) (A:List Addr) (H:Hp) (v:V) (d:D):Prop:=Rep G (hid A H) v d∨∃ a,v=.ref a/\Top G A H a d
theorem RepT.mono {G:Gx}{A:List Addr}{H H':Hp}{v:V}{d:D}(r:RepT G A H v d) (s:Same H H'):RepT G A H' v d:=by
 rcases r with r | ⟨a,e,r⟩
 ·exact .inl (r.mono (BV s))
 ·exact .inr ⟨a,e,r.mono s⟩
theorem RepT.lst {G:Gx}{A:List Addr}{H:Hp}{v:V}{ds:List D}(r:RepT G A H v (.lst ds)):∃ a xs,v=.ref a/\SqL G.K H a xs/\RepL G (hid A H) xs ds:=by
 rcases r with r | ⟨a,e,xs,h,r⟩
 ·cases r with
  | lst h l r=>exact⟨_,_,rfl,BK.seq h,l,r⟩
 ·exact⟨a,xs,e,.of h,r⟩
theorem RepT.tup {G:Gx}{A:List Addr}{H:Hp}{v:V}{ds:List D}(r:RepT G A H v (.tup ds)):∃ a xs,v=.ref a/\SqT G.K H a xs/\RepL G (hid A H) xs ds:=by
 rcases r with r | ⟨a,e,r⟩
 ·cases r with
  | tup h l r=>exact⟨_,_,rfl,IV BK h,l,r⟩
 ·exact r.elim
theorem RepT.int {G:Gx}{i:Int}(r:RepT G A H v (.int i)):v=.int i:=by
 rcases r with r | ⟨a,e,r⟩
 ·cases r;rfl
 ·exact r.elim
theorem RepT.str {G:Gx}{i:Str}(r:RepT G A H v (.str i)):v=.str i:=by
 rcases r with r | ⟨a,e,r⟩
 ·cases r;rfl
 ·exact r.elim
theorem RepT.bl {G:Gx}{i:Bool}(r:RepT G A H v (.bl i)):v=.bl i:=by
 rcases r with r | ⟨a,e,r⟩
 ·cases r;rfl
 ·exact r.elim
theorem RepT.non {G:Gx}(r:RepT G A H v .non):v=.non:=by
 rcases r with r | ⟨a,e,r⟩
 ·cases r;rfl
 ·exact r.elim
theorem RepT.dk {G:Gx}{A:List Addr}{H:Hp}{v:V}{kds:List (Key×D)}(r:RepT G A H v (.dk kds)):∃ a kvs,v=.ref a/\Rd H a (.dK kvs)/\kvs.map (·.1)=kds.map (·.1)/\RepL G (hid A H) (kvs.map (·.2)) (kds.map (·.2)):=by
 rcases r with r | ⟨a,e,kvs,h,k,r⟩
 ·cases r with
  | dk h k r=>
   refine⟨_,_,rfl,.inr ⟨_,BK _ _ h⟩,k,?_,r⟩;have:=congrArg List.length k;rw[z02,z02] at this ⊢;exact this
 ·exact⟨a,kvs,e,.of h,k,r⟩
theorem U0 (live:∀ a∈A,Nt (H a)) (hp:H p=none) (o:HO):hid A (upd H p o) p=some o:=by
 rw[Bp (λ z=>(live p z).ne hp),Ai]
theorem Ec {G:Gx}{ds:List D}(live:∀ a∈A,Nt (H a)) (hp:H p=none) (r:RepL G (hid A H) xs ds):Rep G (hid A (upd H p (.lst xs))) (.ref p) (.lst ds):=
 let q:=r.mono (BV (BR hp (.lst xs)));.lst (.of (U0 live hp _)) q.1 q.2
theorem Kq {G:Gx}{ds:List D}(live:∀ a∈A,Nt (H a)) (hp:H p=none) (r:RepL G (hid A H) xs ds):Rep G (hid A (upd H p (.tup xs))) (.ref p) (.tup ds):=
 let q:=r.mono (BV (BR hp (.tup xs)));.tup (.of (U0 live hp _)) q.1 q.2
def tF (G:Gx) (A:List Addr) (f:FE):TE:=λ σ H Q=>∃ ρ d,Okp G A σ H ρ/\f ρ=some d/\∀ v H',Same H H'->Rep G (hid A H') v d->Q v H'
def tT (G:Gx) (A:List Addr) (f:FE):TE:=λ σ H Q=>∃ ρ d,Okp G A σ H ρ/\f ρ=some d/\∀ v H',Same H H'->RepT G A H' v d->Q v H'
def PF (X:Cx) (G:Gx) (e:Expr) (f:FE):Prop:=∀ ⦃A⦄,PE X e (tF G A f)
def PU (X:Cx) (G:Gx) (e:Expr) (f:FE):Prop:=∀ ⦃A⦄,PE X e (tT G A f)
theorem Ca {t t':TE}(h:PE X e t) (w:∀ σ H Q,t' σ H Q->t σ H Q):PE X e t':=λ π s σ H Q I q=>h π s σ H Q I (w σ H Q q)
theorem PF.pu {G:Gx}{f:FE}(h:PF X G e f):PU X G e f:=λ A=>Ca (@h A) λ σ H Q ⟨ρ,d,o,e,k⟩=>⟨ρ,d,o,e,λ v H' s r=>k v H' s (.inl r)⟩
def tFA (G:Gx) (A:List Addr) (f:FA):TA:=λ σ H Q=>∃ ρ ds,Okp G A σ H ρ/\f ρ=some ds/\∀ vs H',Same H H'->RepL G (hid A H') vs ds->Q vs H'
def PFA (X:Cx) (G:Gx) (es:List Expr) (f:FA):Prop:=∀ ⦃A⦄,PA X es (tFA G A f)
theorem rP {e:List Expr}{t t':TA}(h:PA X e t) (w:∀ σ H Q,t' σ H Q->t σ H Q):PA X e t':=λ pos π s σ H Q I q=>h pos π s σ H Q I (w σ H Q q)
def tFT (G:Gx) (A:List Addr) (f:FT):TT:=λ σ H Q=>∃ ρ b,Okp G A σ H ρ/\f ρ=some b/\∀ H',Same H H'->Q b H'
def PFT (X:Cx) (G:Gx) (e:Expr) (f:FT):Prop:=∀ ⦃A⦄,PT X e (tFT G A f)
def PFW (X:Cx) (G:Gx) (e:Expr) (f:FT):Prop:=∀ ⦃A⦄,PW X e (tFT G A f)
theorem ao {t t':TT}(h:PT X e t) (w:∀ σ H Q,t' σ H Q->t σ H Q):PT X e t':=λ π s σ H Q I q=>h π s σ H Q I (w σ H Q q)
theorem iz {t t':TT}(h:PW X e t) (w:∀ σ H Q,t' σ H Q->t σ H Q):PW X e t':=λ wh π s σ H Q I q=>h wh π s σ H Q I (w σ H Q q)
section
variable {G:Gx}{a b c:Expr}{fa fb fc:FE}
theorem uW (i:Nat) {x:Str}(h:PE X (.Name x pos) (tVar i)):PF X G (.Name x pos) (vF i):=λ A=>Ca h<|by
 rintro σ H Q ⟨ρ,d,o,e,k⟩
 unfold vF at e;split at e
 ·rename_i d' h';cases e;obtain⟨v,h1,h2⟩:=o.fz i _ h';exact⟨v,h1,k v H (Same.refl H) h2⟩
 ·cases e
theorem uX (i:Nat) {x:Str}(h:PE X (.Name x pos) (tVar i)):PU X G (.Name x pos) (vU i):=λ A=>Ca h<|by
 rintro σ H Q ⟨ρ,d,o,e,k⟩
 unfold vU at e;split at e
 ·rename_i d' h';cases e;obtain⟨v,h1,h2⟩:=o.fz i _ h';exact⟨v,h1,k v H (Same.refl H) (.inl h2)⟩
 ·rename_i d' h';cases e;obtain⟨p,h1,_,h2⟩:=o.ow i _ h';exact⟨.ref p,h1,k _ H (Same.refl H) (.inr ⟨p,rfl,h2⟩)⟩
 ·cases e
theorem FP {d:D}(h:PE X a (tC v)) (r:Rep G (λ _=>none) v d):PF X G a (kF d):=λ A=>Ca h<|by
 rintro σ H Q ⟨ρ,d',o,e,k⟩
 cases e;exact k v H (Same.refl H) (r.mono λ b o z=>nomatch z)
theorem Kr {i j}:PF X G (.Constant (.int i) j pos) (kF (.int i)):=FP tW (.int i)
theorem Qe {b j}:PF X G (.Constant (.bool b) j pos) (kF (.bl b)):=FP v8 (.bl b)
theorem i_ {j}:PF X G (.Constant .none j pos) (kF .non):=FP tY .non
theorem Ja {x j}:PF X G (.Constant (.str x) j pos) (kF (.str x)):=FP tZ (.str x)
def Dh (G:Gx) (r:R2) (g:D->D->Option D):Prop:=∀ (A:List Addr) (H:Hp) (x y:V) (dx dy d:D) (Q:VK),(∀ a∈A,Nt (H a))->RepT G A H x dx->RepT G A H y dy->g dx dy=some d->(∀ v H',Same H H'->Rep G (hid A H') v d->Q v H')->r x y H Q
theorem WP {g:D->D->Option D}{ρ:Rho}{d:D}(h:bF g fa fb ρ=some d):∃ x y,fa ρ=some x/\fb ρ=some y/\g x y=some d:=by
 unfold bF at h;cases e1:fa ρ with
 | none=>rw[e1] at h;cases h
 | some x=>
  rw[e1] at h;cases e2:fb ρ with
  | none=>simp[e2] at h
  | some y=>simp[e2] at h;exact⟨x,y,rfl,rfl,h⟩
theorem R5 {r:R2}{g:D->D->Option D}(s:Dh G r g) {A:List Addr}{σ:St}{H:Hp}{Q:VK}(h:tF G A (bF g fa fb) σ H Q):tOp r (tT G A fa) (tT G A fb) σ H Q:=by
 obtain⟨ρ,d,o,e,k⟩:=h;obtain⟨x,y,e1,e2,e3⟩:=WP e;exact⟨ρ,x,o,e1,λ v H1 s1 r1=>⟨ρ,y,o.mono s1,e2,λ u H2 s2 r2=>s A H2 v u x y d Q ((o.mono s1).mono s2).live (r1.mono s2) r2 e3 λ w H3 s3 r3=>k w H3 (s1.trans (s2.trans s3)) r3⟩⟩
theorem Bs {op:Operator}{r:R2}{g:D->D->Option D}(ho:OpR X (binaryOp op) r) (s:Dh G r g) (ha:PU X G a fa) (hb:PU X G b fb):PF X G (.BinOp a op b pos) (bF g fa fb):=
 λ A=>Ca (wF ho (@ha A) (@hb A)) λ _ _ _ h=>R5 s h
theorem jA {op:CmpOp}{r:R2}{g:D->D->Option D}(ho:OpR X (compareOp op) r) (s:Dh G r g) (ha:PU X G a fa) (hb:PU X G b fb) (hm:behindInMarks op b=false):PF X G (.Compare a [op] [b] pos) (bF g fa fb):=
 λ A=>Ca (nO ho (@ha A) (@hb A) hm) λ _ _ _ h=>R5 s h
theorem Xh {f:FE}{ρ:Rho}{b:Bool}(h:blF f ρ=some b):f ρ=some (.bl b):=by
 unfold blF at h;split at h
 ·rename_i e;cases h;exact e
 ·cases h
theorem Fb {op:CmpOp}{r:R2}{g:D->D->Option D}(ho:OpR X (compareOp op) r) (s:Dh G r g) (ha:PU X G a fa) (hb:PU X G b fb) (hm:behindInMarks op b=false):PFT X G (.Compare a [op] [b] pos) (blF (bF g fa fb)):=
 λ A=>ao (aA ho (@ha A) (@hb A) hm) λ σ H Q ⟨ρ,d,o,e,k⟩=>R5 s ⟨ρ,.bl d,o,Xh e,λ v H' s' r'=>by cases r';exact⟨d,rfl,k H' s'⟩⟩
theorem Nh {g:Int->Int->Option D}{x y d:D}(h:iiD g x y=some d):∃ i j,x=.int i/\y=.int j/\g i j=some d:=by
 unfold iiD at h;split at h
 ·exact⟨_,_,rfl,rfl,h⟩
 ·cases h
theorem Ms {g:Int->Int->V}{g':Int->Int->D}(e:∀ i j H,Rep G H (g i j) (g' i j)):Dh G (rI0 g) (iiD λ i j=>some (g' i j)):=by
 intro A H x y dx dy d Q lv rx ry h k;obtain⟨i,j,rfl,rfl,h⟩:=Nh h;cases h;exact⟨i,j,rx.int,ry.int,k _ H (Same.refl H) (e i j _)⟩
theorem Pa {C:Int->Int->Prop}{g:Int->Int->V}{g':Int->Int->D} [∀ i j,Decidable (C i j)] (e:∀ i j H,Rep G H (g i j) (g' i j)):Dh G (rI C g) (iiD λ i j=>if C i j then some (g' i j) else none):=by
 intro A H x y dx dy d Q lv rx ry h k;obtain⟨i,j,rfl,rfl,h'⟩:=Nh h
 by_cases hc:C i j
 ·rw[if_pos hc] at h';cases h';exact⟨i,j,rx.int,ry.int,hc,k _ H (Same.refl H) (e i j _)⟩
 ·rw[if_neg hc] at h';cases h'
theorem oN:Dh G (rI0 λ i j=>.int (i-j)) subD:=Ms λ i j H=>.int _
theorem MK.ok {i j:Int}(h:MK i j):IntMulOk i j:=by
 rcases h with h | h
 ·exact h.ok
 ·exact IntMulOk.of_le h.1 h.2 (by decide)
theorem oO:OpR X (binaryOp .Mult) (rI MK λ i j=>.int (i*j)):=opI λ _ _ _ _ _ _ _ hc q=>mul_int q hc.ok
theorem Ni:OpR X (binaryOp .LShift) (rI CShl λ i j=>.int (i*2^j.toNat)):=opI λ i j _ _ _ _ _ hc q=>lshift_int hc.1 (by have h1:=hc.2.1;have h2:=hc.2.2;omega) q
theorem oR:Dh G (rI MK λ i j=>.int (i*j)) mulD:=Pa λ i j H=>.int _
theorem jB:Dh G (rI CDiv λ i j=>.int (i/j)) Dt:=Pa λ i j H=>.int _
theorem oU:Dh G (rI (λ _ j=>0<j) λ i j=>.int (i%j)) modD:=Pa (C:=λ _ j=>0<j) λ i j H=>.int _
theorem Lh:Dh G (rI CPow λ i j=>.int (i^j.toNat)) powD:=Pa λ i j H=>.int _
theorem Nj:Dh G (rI CShl λ i j=>.int (i*2^j.toNat)) shlD:=Pa λ i j H=>.int _
theorem WQ:Dh G (rI (λ _ j=>0<=j) λ i j=>.int (i/2^j.toNat)) shrD:=Pa (C:=λ _ j=>0<=j) λ i j H=>.int _
theorem Jj:Dh G (rI0 λ i j=>.int (Builtin.bitAnd i j)) MN:=Ms λ i j H=>.int _
theorem RK:Dh G (rI0 λ i j=>.int (Builtin.bitOr i j)) borD:=Ms λ i j H=>.int _
theorem jC:Dh G (rI0 λ i j=>.int (Builtin.bitXor i j)) aG:=Ms λ i j H=>.int _
theorem uY:Dh G (rI0 λ i j=>.bl (decide (i<j))) ltD:=Ms λ i j H=>.bl _
theorem uZ:Dh G (rI0 λ i j=>.bl (decide (j<i))) gtD:=Ms λ i j H=>.bl _
theorem uc:Dh G (rI0 λ i j=>.bl (decide (j<=i))) geD:=Ms λ i j H=>.bl _
def rQ (K:zFr):R2:=λ x y H Q=>∃ l b xs zs,x=.ref l/\y=.ref b/\SqL K H l xs/\SqL K H b zs/\xs.length+zs.length<=sizeLine/\∀ p,H p=none->Q (.ref p) (upd H p (.lst (xs++zs)))
theorem oV:OpR X (binaryOp .Add) (rQ X.K):=by
 intro π s σ H x y v u Q I rx ry h;obtain⟨l,b,xs,zs,rfl,rfl,hl,hb,hz,q⟩:=h;cases rx;cases ry;obtain⟨its,r,pl,z⟩:=I.list hl;obtain⟨its2,r2,pl2,z2⟩:=I.list hb;have e1:=r.length;have e2:=r2.length;obtain⟨⟨cls,dd,data,sl⟩,ho,hc,n,hd⟩:=pl.isList;obtain⟨⟨cls2,dd2,data2,sl2⟩,ho2,hc2,n2,hd2⟩:=pl2.isList;simp only at hc hd hc2 hd2;subst hc hd hc2 hd2;refine concat_meets ⟨_,ho,rfl⟩ ⟨_,ho2,rfl⟩ noFill_list_add seq_list_add PySem.F.slot_list_add PySem.F.entry_list_add (PySem.F.args_list_add_2 _ _) (list_addW l b its.toArray its2.toArray n n2 dd dd2 sl sl2 (by rw[z0e,z0e];omega)) ⟨ho,ho2,?_⟩;have ea:its.toArray++its2.toArray=(its++its2).toArray:=by simp
 rw[ea];exact⟨.ref _,_,I.lnew (t':=s.toks) (r.append r2) (by rw[z0u];omega),rfl,q _ I.fresh⟩
def rAdd (K:zFr):R2:=λ x y H Q=>(rI0 λ i j=>.int (i+j)) x y H Q∨((λ x y H Q=>∃ i j,x=.str i/\y=.str j/\i.length+j.length<=sizeLine/\Q (.str (i++j)) H) x y H Q∨rQ K x y H Q)
theorem oW:OpR X (binaryOp .Add) (rAdd X.K):=uI.or (Yv.or oV)
theorem oX:Dh G (rAdd G.K) addD:=by
 intro A H x y dx dy d Q lv rx ry h k;unfold addD at h;split at h
 ·cases h;exact .inl ⟨_,_,rx.int,ry.int,k _ H (Same.refl H) (.int _)⟩
 ·split at h
  ·rename_i hz;cases h;exact .inr (.inl ⟨_,_,rx.str,ry.str,hz,k _ H (Same.refl H) (.str _)⟩)
  ·cases h
 ·split at h
  ·rename_i hz;cases h;obtain⟨l,xs,rfl,h1,r1⟩:=rx.lst;obtain⟨m,zs,rfl,h2,r2⟩:=ry.lst;exact .inr (.inr ⟨l,m,xs,zs,rfl,rfl,h1,h2,by rw[r1.1,r2.1];exact hz,λ p hp=>k _ _ (BR hp _) (Ec lv hp (r1.append r2))⟩)
  ·cases h
 ·cases h
theorem Pb {op:BoolOp}(h:PF X G a fa):PF X G (.BoolOp op [a] pos) fa:=λ A=>uA (@h A)
theorem Pg {rest:List Expr}(ha:PF X G a fa) (hb:PF X G (.BoolOp .And (b::rest) pos) fb):PF X G (.BoolOp .And (a::b::rest) pos) (andF fa fb):=λ A=>Ca (uB (@ha A) (@hb A))<|by
 rintro σ H Q ⟨ρ,d,o,e,k⟩
 unfold andF at e;split at e
 ·rename_i e1;refine⟨ρ,_,o,e1,λ v H1 s1 r1=>?_⟩;cases r1;refine⟨true,rfl,?_⟩;rw[if_pos rfl];exact⟨ρ,d,o.mono s1,e,λ v H2 s2 r2=>k v H2 (s1.trans s2) r2⟩
 ·rename_i e1;refine⟨ρ,_,o,e1,λ v H1 s1 r1=>?_⟩;cases r1;refine⟨false,rfl,?_⟩;rw[if_neg z0j];cases e;exact k _ H1 s1 (.bl false)
 ·cases e
theorem jD (ha:PF X G a fa):PF X G (.UnaryOp .Not a pos) (notF fa):=λ A=>Ca (uC (@ha A))<|by
 rintro σ H Q ⟨ρ,d,o,e,k⟩
 unfold notF at e;split at e
 ·rename_i b e1;refine⟨ρ,_,o,e1,λ v H1 s1 r1=>?_⟩;cases r1;cases e;exact⟨b,rfl,k _ H1 s1 (.bl _)⟩
 ·cases e
variable {ga gb:FT}
theorem PFW.pt (h:PFW X G a ga):PFT X G a ga:=λ A=>(@h A).pt
theorem Fp (h:PFT X G a ga):PFW X G (.BoolOp .And [a] pos) ga:=λ A=>nG (@h A)
theorem Di (h:PFT X G a ga):PFW X G (.BoolOp .Or [a] pos) ga:=λ A=>gB (@h A)
theorem J2 {rest:List Expr}(ha:PFT X G a ga) (hb:PFW X G (.BoolOp .And (b::rest) pos) gb):PFW X G (.BoolOp .And (a::b::rest) pos) (andT ga gb):=λ A=>iz (t8 (@ha A) (@hb A))<|by
 rintro σ H Q ⟨ρ,d,o,e,k⟩
 unfold andT at e;split at e
 ·rename_i e1;exact⟨ρ,_,o,e1,λ H1 s1=>iteT ⟨ρ,d,o.mono s1,e,λ H2 s2=>k H2 (s1.trans s2)⟩⟩
 ·rename_i e1;cases e;exact⟨ρ,_,o,e1,λ H1 s1=>iteF (k H1 s1)⟩
 ·cases e
theorem GX {rest:List Expr}(ha:PFT X G a ga) (hb:PFW X G (.BoolOp .Or (b::rest) pos) gb):PFW X G (.BoolOp .Or (a::b::rest) pos) (orT ga gb):=λ A=>iz (rD (@ha A) (@hb A))<|by
 rintro σ H Q ⟨ρ,d,o,e,k⟩
 unfold orT at e;split at e
 ·rename_i e1;cases e;exact⟨ρ,_,o,e1,λ H1 s1=>iteT (k H1 s1)⟩
 ·rename_i e1;exact⟨ρ,_,o,e1,λ H1 s1=>iteF ⟨ρ,d,o.mono s1,e,λ H2 s2=>k H2 (s1.trans s2)⟩⟩
 ·cases e
theorem RL (ha:PFT X G a ga):PFT X G (.UnaryOp .Not a pos) (notT ga):=λ A=>ao (t_ (@ha A))<|by
 rintro σ H Q ⟨ρ,d,o,e,k⟩
 unfold notT at e;cases e1:ga ρ with
 | none=>rw[e1] at e;cases e
 | some b=>rw[e1] at e;cases e;exact⟨ρ,b,o,e1,λ H1 s1=>k H1 s1⟩
theorem Qf {α β:Type}{xs:List α}{ys:List β}(h:xs.length=ys.length):xs.isEmpty=ys.isEmpty:=by
 cases xs<;>cases ys<;>simp at h ⊢
theorem J3 (ha:PU X G a fa) (hG:G.K=X.K) (he:∀ whole,isTrue a X.env whole=(do let v <-whole;standAt a.pos;holding [v] (truthy v)):=by intro _;rfl):PFT X G a (λ ρ=>(fa ρ).bind truD):=λ A=>ao (gQ (@ha A) he)<|by
 rintro σ H Q ⟨ρ,b,o,e,k⟩
 cases e1:fa ρ with
 | none=>simp[e1] at e
 | some d=>
  have e':truD d=some b:=by simpa [e1] using e
  refine⟨ρ,d,o,e1,λ v H1 s1 r1=>⟨b,?_,k H1 s1⟩⟩;rw[<-hG];cases d with
  | non=>rw[r1.non];exact (z0h e').symm
  | bl b'=>rw[r1.bl];exact (z0h e').symm
  | int i=>rw[r1.int];exact (z0h e').symm
  | str y=>
   rw[r1.str];simp only[truD] at e';split at e'
   ·rename_i hz;exact⟨hz,(z0h e').symm⟩
   ·cases e'
  | lst ds=>
   obtain⟨p,xs,rfl,h1,h2⟩:=r1.lst;refine .inl ⟨xs,h1,?_⟩;rw[Qf h2.1];exact (z0h e').symm
  | tup ds=>
   obtain⟨p,xs,rfl,h1,h2⟩:=r1.tup;refine .inr (.inl ⟨xs,h1,?_⟩);rw[Qf h2.1];exact (z0h e').symm
  | _=>cases e'
theorem rR (ht:PFT X G c ga) (ha:PF X G a fa) (hb:PF X G b fb):PF X G (.IfExp c a b pos) (ifF ga fa fb):=λ A=>Ca (gC (@ht A) (@ha A) (@hb A))<|by
 rintro σ H Q ⟨ρ,d,o,e,k⟩
 unfold ifF at e;split at e
 ·rename_i e1;exact⟨ρ,_,o,e1,λ H1 s1=>iteT ⟨ρ,d,o.mono s1,e,λ v H2 s2 r2=>k v H2 (s1.trans s2) r2⟩⟩
 ·rename_i e1;exact⟨ρ,_,o,e1,λ H1 s1=>iteF ⟨ρ,d,o.mono s1,e,λ v H2 s2 r2=>k v H2 (s1.trans s2) r2⟩⟩
 ·cases e
variable {es:List Expr}{fs:FA}
theorem Ae:PFA X G [] nilA:=λ A=>rP Cz<|by rintro σ H Q ⟨ρ,ds,o,e,k⟩;cases e;exact k [] H (Same.refl H) RepL.nil
theorem Ag (ha:PF X G a fa) (hr:PFA X G es fs) (hs:starEach (a::es) X.env=(false,eval a X.env)::starEach es X.env:=by rfl):PFA X G (a::es) (Aa fa fs):=λ A=>rP (BZ (@ha A) (@hr A) hs)<|by
 rintro σ H Q ⟨ρ,ds,o,e,k⟩
 unfold Aa at e;cases e1:fa ρ with
 | none=>simp[e1] at e
 | some d=>
  cases e2:fs ρ with
  | none=>simp[e1,e2] at e
  | some ds'=>
   simp[e1,e2] at e;subst e;exact⟨ρ,d,o,e1,λ v H1 s1 r1=>⟨ρ,ds',o.mono s1,e2,λ vs H2 s2 r2=>k _ H2 (s1.trans s2) (.cons (r1.mono (BV s2)) r2)⟩⟩
theorem G4 {x1} (h:PFA X G es fs):PF X G (.Tuple es x1 pos) (tupF fs):=λ A=>Ca (Y4 (@h A))<|by
 rintro σ H Q ⟨ρ,d,o,e,k⟩
 unfold tupF at e;cases e1:fs ρ with
 | none=>simp[e1] at e
 | some ds=>
  rw[e1] at e;have e':(if ds.length<=sizeLine then some (D.tup ds) else none)=some d:=e;split at e'
  ·rename_i hz;cases e';exact⟨ρ,ds,o,e1,λ vs H1 s1 r1=>⟨by rw[r1.1];exact hz,λ p hp=>k _ _ (s1.trans (BR hp _)) (Kq (o.mono s1).live hp r1)⟩⟩
  ·cases e'
theorem Bh (h:PFA X G es fs):PF X G (.List es pos) (lstF fs):=λ A=>Ca (gY (@h A))<|by
 rintro σ H Q ⟨ρ,d,o,e,k⟩
 unfold lstF at e;cases e1:fs ρ with
 | none=>simp[e1] at e
 | some ds=>
  rw[e1] at e;have e':(if ds.length<=sizeLine then some (D.lst ds) else none)=some d:=e;split at e'
  ·rename_i hz;cases e';exact⟨ρ,ds,o,e1,λ vs H1 s1 r1=>⟨by rw[r1.1];exact hz,λ p hp=>k _ _ (s1.trans (BR hp _)) (Ec (o.mono s1).live hp r1)⟩⟩
  ·cases e'
theorem jE:Dh G (rIx G.K) ixD:=by
 intro A H x y dx dy d Q lv rx ry h k;unfold ixD at h;split at h
 ·obtain⟨p,xs,rfl,h1,r1⟩:=rx.lst;obtain⟨v,h2,r2⟩:=r1.atI h;exact .inl ⟨p,xs,_,v,rfl,ry.int,h1,h2,k v H (Same.refl H) r2⟩
 ·obtain⟨p,xs,rfl,h1,r1⟩:=rx.tup;obtain⟨v,h2,r2⟩:=r1.atI h;exact .inr (.inl ⟨p,xs,_,v,rfl,ry.int,h1,h2,k v H (Same.refl H) r2⟩)
 ·split at h
  ·rename_i z i hz;cases e:atI z.cps.toList i with
   | none=>rw[e] at h;cases h
   | some c=>
    rw[e] at h;cases h;exact .inr (.inr ⟨z,i,c,rx.str,ry.int,hz,e,k _ H (Same.refl H) (.str _)⟩)
  ·cases h
 ·cases h
theorem wZ (hG:G.K=X.K) (ha:PU X G a fa) (hb:PU X G b fb) (hs:M9 b):PF X G (.Subscript a b pos) (bF ixD fa fb):=
 λ A=>Ca (rF (r:=rIx X.K) gm (@ha A) (@hb A) hs) λ _ _ _ h=>R5 (by rw[<-hG];exact jE) h
def tFO (G:Gx) (A:List Addr) (f:FO):TO:=λ σ H Q=>∃ ρ o,Okp G A σ H ρ/\f ρ=some o/\∀ H',Same H H'->Q o H'
def PFO (X:Cx) (G:Gx) (e:Option Expr) (f:FO):Prop:=∀ ⦃A⦄,PO X e (tFO G A f)
theorem rT {e:Option Expr}{t t':TO}(h:PO X e t) (w:∀ σ H Q,t' σ H Q->t σ H Q):PO X e t':=λ π s σ H Q I q=>h π s σ H Q I (w σ H Q q)
theorem GZ:PFO X G none noO:=λ A=>rT nZ<|by rintro σ H Q ⟨ρ,o,ok,e,k⟩;cases e;exact k H (Same.refl H)
theorem Cq (h:PU X G a fa):PFO X G (some a) (someO fa):=λ A=>rT (nj (@h A))<|by
 rintro σ H Q ⟨ρ,o,ok,e,k⟩
 unfold someO at e;split at e
 ·rename_i i e1;cases e;exact⟨ρ,_,ok,e1,λ v H1 s1 r1=>⟨i,r1.int,k H1 s1⟩⟩
 ·cases e
theorem RepL.cut {ds:List D}(r:RepL G H xs ds) (lo hi:Option Int):RepL G H (cutV xs lo hi) (cutD ds lo hi):=by
 delta cutV cutD;rw[r.1];exact (r.drop _).take _
end
end PV
theorem L2.Room.unitsW {k:Nat}{A:PySem.Around}(r:L2.Room k A):A.units+190<PySem.cLine:=by have:=r.un;omega
namespace PV
open PySem PySem.Spec L2
open PyProof.Rows hiding St
section
variable {G:Gx}{a b c:Expr}{fa fb fc:FE}{p2:Pos}
section
open Builtin.Str
theorem Xi (n:Nat) (v:Option Int) (d:Nat) (hd:d<=n):(match v with | none=>(d:Int) | some i=>max 0 (min (if i<0 then i+(n:Int) else i) (n:Int)))=(HT.sIx n d v:Int):=by
 cases v with
 | none=>rfl
 | some i=>
  simp only[HT.sIx];split<;>omega
theorem oY (n d:Nat) (v:Option Int) (hd:d<=n):HT.sIx n d v<=n:=by
 cases v with
 | none=>exact hd
 | some i=>simp only[HT.sIx];split<;>omega
theorem ZC (lo hi:Option Int) (n:Nat):strSliceIndices lo hi 1 n=(List.range (HT.sIx n n hi-HT.sIx n 0 lo)).map (λ k=>HT.sIx n 0 lo+k):=by
 have h1:=Xi n lo 0 (z0P _);have h2:=Xi n hi n (z04 _);have hp:((1:Int) > 0):=by decide
 have e:strSliceIndices lo hi 1 n=sliceRange (HT.sIx n 0 lo:Int) (HT.sIx n n hi:Int) 1:=by
  unfold strSliceIndices;simp only[hp,if_true];exact congrFun (congr (congrArg sliceRange h1) h2) 1
 rw[e];unfold sliceRange;simp only[hp,if_true];generalize HT.sIx n 0 lo=a;generalize HT.sIx n n hi=b;have hc:(if (a:Int)<(b:Int) then ((b:Int)-a+1-1)/1 else 0).toNat=b-a:=by
  split
  ·rw[Int.ediv_one];omega
  ·omega
 rw[hc];apply List.map_congr_left;intro k _;omega
theorem dw (x:Str) (lo hi:Option Int):Txt.slice x lo hi=cutS x lo hi:=by
 have hb:=oY x.length x.length hi (z04 _);have hn:x.cps.toList.length=x.length:=by simp[Str.length]
 unfold Txt.slice cutS cutD;rw[ZC,hn];generalize HT.sIx x.length 0 lo=a at *;generalize HT.sIx x.length x.length hi=b at *;rw[z02,List.length_range];split
 ·rename_i h;simp only[z0x,z0N] at h;have hab:b-a=x.length:=h.2
  by_cases h0:x.length=0
  ·have:x.cps.toList=[]:=List.length_eq_zero_iff.mp (by omega);cases x with
   | mk c=>
    simp at this;subst this;simp
  ·have ha:a=0:=by omega
   subst ha;have:b=x.length:=by omega
   subst this;rw[List.drop_zero,Nat.sub_zero,List.take_of_length_le (by omega)]
 ·congr 1;apply congrArg;apply List.ext_getElem?;intro i;rw[List.filterMap_map];have key:∀ m,m<=b-a->(List.filterMap ((λ k=>x.cps[k]?) ∘ λ k=>a+k) (List.range m))=((x.cps.toList.drop a).take m):=by
   intro m
   induction m with
   | zero=>intro _;simp
   | succ m ih=>
    intro hm;rw[List.range_succ,List.filterMap_append,ih (by omega)];have hlt:a+m<x.cps.size:=by have:x.length=x.cps.size:=rfl;omega
    rw[List.take_succ_eq_append_getElem (by simp;omega)];simp[hlt]
  rw[key _ (z04 _)]
end
def rSlS:V->Option Int->Option Int->Hp->VK->Prop:=λ x lo hi H Q=>∃ z,x=.str z/\z.length<=sizeLine/\Q (.str (Txt.slice z lo hi)) H
theorem ud:SlR X rSlS:=by
 intro π s σ H x v vl vu lo hi sl Q I rx hs pl pu h;obtain⟨z,rfl,hz,q⟩:=h;obtain⟨t,rfl⟩:=rx;obtain⟨o,e1,e2,e3⟩:=hs;have fin:∀ t' k,EP X π σ Q (.str (Txt.slice z lo hi) t') { s with toks:=k }:=λ t' k=>⟨.str _,H,I.tok _,⟨t',rfl⟩,q⟩;have hl:=z0a (Txt.slice_le z lo hi) hz;refine⟨"str",_,PySem.F.slot_str_getitem.lookup,typeIs_str _ _ _,?_⟩;cases pl with
 | none=>
  cases pu with
  | none=>exact wpAny_getItem_str_slice (l:=none) (u:=none) (st:=none) ⟨o,e1,e2,e3⟩ rfl (post_val_or_str ⟨hl,fin⟩)
  | int j uj=>exact wpAny_getItem_str_slice (l:=none) (u:=some (j,uj)) (st:=none) ⟨o,e1,e2,e3⟩ rfl (post_val_or_str ⟨hl,fin⟩)
 | int i ui=>
  cases pu with
  | none=>exact wpAny_getItem_str_slice (l:=some (i,ui)) (u:=none) (st:=none) ⟨o,e1,e2,e3⟩ rfl (post_val_or_str ⟨hl,fin⟩)
  | int j uj=>exact wpAny_getItem_str_slice (l:=some (i,ui)) (u:=some (j,uj)) (st:=none) ⟨o,e1,e2,e3⟩ rfl (post_val_or_str ⟨hl,fin⟩)
def rSl (K:zFr):V->Option Int->Option Int->Hp->VK->Prop:=λ x lo hi H Q=>rSlL K x lo hi H Q∨(rSlT K x lo hi H Q∨rSlS x lo hi H Q)
theorem ue:SlR X (rSl X.K):=n6.or (uQ.or ud)
theorem Du {lo hi:Option Expr}{gl gh:FO}(hG:G.K=X.K) (ha:PU X G a fa) (hl:PFO X G lo gl) (hh:PFO X G hi gh):PF X G (.Subscript a (.Slice lo hi none p2) pos) (slF fa gl gh):=λ A=>Ca (gk (ue (X:=X)) (@ha A) (@hl A) (@hh A))<|by
 rintro σ H Q ⟨ρ,d,o,e,k⟩
 unfold slF at e;cases e1:fa ρ with
 | none=>simp[e1] at e
 | some x=>
  cases e2:gl ρ with
  | none=>simp[e1,e2] at e
  | some l=>
   cases e3:gh ρ with
   | none=>simp[e1,e2,e3] at e
   | some h=>
    have e':slD x l h=some d:=by simpa [e1,e2,e3] using e
    refine⟨ρ,x,o,e1,λ v H1 s1 r1=>⟨ρ,l,o.mono s1,e2,λ H2 s2=>⟨ρ,h,(o.mono s1).mono s2,e3,λ H3 s3=>?_⟩⟩⟩;have r3:=(r1.mono s2).mono s3;have o3:=((o.mono s1).mono s2).mono s3;have s0:=s1.trans (s2.trans s3);unfold slD at e';split at e'
    ·cases e';obtain⟨p,xs,rfl,h1,r⟩:=r3.lst;exact .inl ⟨p,xs,rfl,by rw[<-hG];exact h1,λ q hq=>k _ _ (s0.trans (BR hq _)) (Ec o3.live hq (r.cut _ _))⟩
    ·split at e'
     ·cases e'
     ·rename_i hw;cases e';obtain⟨p,xs,rfl,h1,r⟩:=r3.tup;exact .inr (.inl ⟨p,xs,rfl,by rw[<-hG];exact h1,by rw[r.1];exact hw,λ q hq=>k _ _ (s0.trans (BR hq _)) (Kq o3.live hq (r.cut _ _))⟩)
    ·split at e'
     ·rename_i hz;cases e';refine .inr (.inr ⟨_,r3.str,hz,?_⟩);rw[dw];exact k _ _ s0 (.str _)
     ·cases e'
    ·cases e'
theorem WR {u:V}{d:D}(r:RepT G A H v d) (h:flV d=some u):v=u/\Ke v=true:=by
 cases d with
 | non=>cases h;rw[r.non];exact⟨rfl,rfl⟩
 | bl b=>cases h;rw[r.bl];exact⟨rfl,rfl⟩
 | int b=>cases h;rw[r.int];exact⟨rfl,rfl⟩
 | str b=>cases h;rw[r.str];exact⟨rfl,rfl⟩
 | _=>cases h
theorem Xj {H:Hp}:∀ {ds:List D}{xs us:List V},RepL G H xs ds->flVs ds=some us->xs=us/\xs.all Ke=true
 | [],xs,us,r,h=>by cases h;rw[r.nil_inv];exact⟨rfl,rfl⟩
 | d::ds,xs,us,r,h=>by
  obtain⟨x,ys,rfl,r1,r2⟩:=r.uncons;unfold flVs at h;cases e1:flV d with
  | none=>simp[e1] at h
  | some v=>
   cases e2:flVs ds with
   | none=>simp[e1,e2] at h
   | some vs=>
    simp[e1,e2] at h;subst h;have q:Rep G (hid [] H) x d:=r1.mono λ b o z=>z;obtain⟨z1,z2⟩:=WR (A:=[]) (.inl q) e1;obtain⟨z3,z4⟩:=Xj r2 e2;subst z1;subst z3;exact⟨rfl,by rw[z1k,z2,z4];rfl⟩
def rInA (K:zFr) (neg:Bool):R2:=λ x y H Q=>rIn K neg x y H Q∨∃ i j,x=.str i/\y=.str j/\Q (.bl (if neg then !(!(Builtin.Str.occurrences j i 0 j.length 1).isEmpty) else !(Builtin.Str.occurrences j i 0 j.length 1).isEmpty)) H
theorem ZD:OpR X (compareOp .In) (rInA X.K false):=dZ.or dU
theorem d7:OpR X (compareOp .NotIn) (rInA X.K true):=Vj.or Vf
theorem jF (neg:Bool):Dh G (rInA G.K neg) (inD neg):=by
 intro A H x y dx dy d Q lv rx ry h k;have seq:∀ {ds:List D}{p:Addr}{xs:List V},y=.ref p->(SqL G.K H p xs∨SqT G.K H p xs)->RepL G (hid A H) xs ds->((flV dx).bind λ v=>(flVs ds).map λ vs=>D.bl (if neg then !inV v vs else inV v vs))=some d->rIn G.K neg x y H Q:=λ {ds p xs} ey hq r h=>by
  cases e1:flV dx with
  | none=>simp[e1] at h
  | some v=>
   cases e2:flVs ds with
   | none=>simp[e1,e2] at h
   | some vs=>
    rw[e1,e2] at h;cases h;obtain⟨z1,z2⟩:=WR rx e1;obtain⟨z3,z4⟩:=Xj r e2;subst z1;subst z3;exact⟨p,xs,ey,hq,z2,z4,k _ H (Same.refl H) (.bl _)⟩
 unfold inD at h;split at h
 ·cases h;exact .inr ⟨_,_,rx.str,ry.str,k _ H (Same.refl H) (.bl _)⟩
 ·obtain⟨p,xs,e,h1,r⟩:=ry.lst;exact .inl (seq e (.inl h1) r h)
 ·obtain⟨p,xs,e,h1,r⟩:=ry.tup;exact .inl (seq e (.inr h1) r h)
 ·cases h
def eAt (f:D->D->Option Bool) (xs ys:List D) (j:Nat):Bool:=match xs[j]?,ys[j]? with | some x,some y=>(f x y).getD false | _,_=>false
theorem Ph {f:D->D->Option Bool}:∀ {xs ys:List D}{b:Bool},allO f xs ys=some b->xs.length=ys.length/\(∀ (j:Nat) x y,xs[j]?=some x->ys[j]?=some y->f x y=some (eAt f xs ys j))/\b=(List.range xs.length).all (eAt f xs ys)
 | [],[],b,h=>by cases h;exact⟨rfl,λ j x y h=>by simp at h,rfl⟩
 | [],_::_,b,h=>by cases h
 | _::_,[],b,h=>by cases h
 | x::xs,y::ys,b,h=>by
  unfold allO at h;split at h
  ·rename_i a c e1 e2;cases h;obtain⟨h1,h2,h3⟩:=Ph e2;refine⟨by simp[h1],λ j u v hu hv=>?_,?_⟩
   ·cases j with
    | zero=>simp at hu hv;subst hu;subst hv;rw[e1];simp[eAt,e1]
    | succ j=>
     have:=h2 j u v (by simpa using hu) (by simpa using hv);rw[this];simp[eAt]
   ·rw[z0s,List.range_succ_eq_map,z1k,List.all_map];have z:eAt f (x::xs) (y::ys) 0=a:=by simp[eAt,e1]
    rw[z,h3];rfl
  ·cases h
theorem jG {u:V}(h:Ke u=true):eqV u u=true:=by
 cases u<;>simp[eqV]<;>cases h
theorem RM {d:D}{u:V}(r:Rep G H v d) (h:flV d=some u):v=u/\Ke v=true:=WR (A:=[]) (.inl (r.mono λ b o z=>by rw[Bp List.not_mem_nil];exact z)) h
section
theorem Xk (I:Inv X π σ H s) (hG:G.K=X.K):∀ (n:Nat) {x y:D}{v:V}{b:Bool},eqK n x y=some b->Rep G H v x->Rep G H v y->b=true:=by
 have flat:∀ {x y:D}{v:V}{b:Bool},flD x y=some b->Rep G H v x->Rep G H v y->b=true:=λ {x y v b} h rx ry=>by
  unfold flD at h;cases e1:flV x with
  | none=>simp[e1] at h
  | some u=>
   cases e2:flV y with
   | none=>simp[e1,e2] at h
   | some w=>
    simp[e1,e2] at h;obtain⟨z1,z2⟩:=RM rx e1;obtain⟨z3,_⟩:=RM ry e2;rw[<-h,<-z1,<-z3];exact jG z2
 intro n
 induction n with
 | zero=>intro x y v b h rx ry;exact flat h rx ry
 | succ n ih=>
  have items:∀ {xs:List V}{ds es:List D}{b:Bool},allO (eqK n) ds es=some b->RepL G H xs ds->RepL G H xs es->b=true:=λ {xs ds es b} h r1 r2=>by
   obtain⟨h1,h2,h3⟩:=Ph h;rw[h3,z0L];intro j hj;have hj':j<ds.length:=z0B.mp hj;have hx:xs[j]?=some (xs[j]'(by rw[r1.1];exact hj')):=by simp[r1.1,hj']
   have hd:ds[j]?=some ds[j]:=by simp[hj']
   have he:es[j]?=some (es[j]'(by omega)):=z1a (by omega);exact ih (h2 j _ _ hd he) (r1.2 j _ _ hx hd) (r2.2 j _ _ hx he)
  intro x y v b h rx ry;unfold eqK eqS at h;split at h
  ·split at h
   ·cases rx with
    | lst h1 l1 r1=>
     cases ry with
     | lst h2 l2 r2=>
      have e:=I.list_inj (by rw[<-hG];exact h1) (by rw[<-hG];exact h2);subst e;exact items h ⟨l1,r1⟩ ⟨l2,r2⟩
   ·rename_i hne;cases rx with
    | lst h1 l1 r1=>
     cases ry with
     | lst h2 l2 r2=>
      have e:=I.list_inj (by rw[<-hG];exact h1) (by rw[<-hG];exact h2);subst e;exact absurd (l1.symm.trans l2) hne
  ·split at h
   ·cases rx with
    | tup h1 l1 r1=>
     cases ry with
     | tup h2 l2 r2=>
      have e:=I.tuple_inj (by rw[<-hG];exact h1) (by rw[<-hG];exact h2);subst e;exact items h ⟨l1,r1⟩ ⟨l2,r2⟩
   ·cases h
  ·exact flat h rx ry
theorem Jk {A:Around}{ds es:List D}{b:Bool}{jts:List Value}(ih:∀ {x y:D}{v w:V}{u1 u2:Value}{b:Bool},eqK n x y=some b->Rep G H v x->Rep G H w y->RelV v u1->RelV w u2->SeqAt.EqAt A s u1 u2 b)
  (h:allO (eqK n) ds es=some b) (r1:RepL G H xs ds) (r2:RepL G H ys es) (v1:Vals xs its) (v2:Vals ys jts) :
  its.toArray.size=jts.toArray.size/\b=(List.range its.toArray.size).all (eAt (eqK n) ds es)/\∀ j (h1:j<its.toArray.size) (h2:j<jts.toArray.size),SeqAt.EqAt A s its.toArray[j] jts.toArray[j] (eAt (eqK n) ds es j):=by
 obtain⟨h1,h2,h3⟩:=Ph h;have l1:=v1.length;have l2:=v2.length;have q1:=r1.1;have q2:=r2.1;have z1:its.toArray.size=ds.length:=by rw[z0e];omega
 refine⟨by rw[z0e,z0e];omega,by rw[z1];exact h3,λ j j1 j2=>?_⟩;rw[z0e] at j1 j2;have jx:j<xs.length:=by omega
 have jy:j<ys.length:=by omega
 have hx:xs[j]?=some xs[j]:=by simp[jx]
 have hy:ys[j]?=some ys[j]:=by simp[jy]
 have hd:ds[j]?=some (ds[j]'(by omega)):=z1a (by omega);have he:es[j]?=some (es[j]'(by omega)):=z1a (by omega);obtain⟨u,eu,ru⟩:=v1.get hx;obtain⟨w,ew,rw'⟩:=v2.get hy;have a1:its.toArray[j]=u:=by simpa [z1a j1] using eu
 have a2:jts.toArray[j]=w:=by simpa [z1a j2] using ew
 rw[a1,a2];exact ih (h2 j _ _ hd he) (r1.2 j _ _ hx hd) (r2.2 j _ _ hy he) ru rw'
theorem WT {ds es:List D}{jts:List Value}(h:ds.length≠es.length) (r1:RepL G H xs ds) (r2:RepL G H ys es) (v1:Vals xs its) (v2:Vals ys jts):(its.toArray.size != jts.toArray.size)=true:=by
 have l1:=v1.length;have l2:=v2.length;have q1:=r1.1;have q2:=r2.1;rw[z0e,z0e];exact bne_iff_ne.mpr (by omega)
theorem Pj (I:Inv X π σ H s) (hG:G.K=X.K):∀ (n:Nat) (A:Around),A.units+n<cLine->∀ {x y:D}{v w:V}{u1 u2:Value}{b:Bool},eqK n x y=some b->Rep G H v x->Rep G H w y->RelV v u1->RelV w u2->SeqAt.EqAt A s u1 u2 b:=by
 have flat:∀ {A:Around}{x y:D}{v w:V}{u1 u2:Value}{b:Bool},flD x y=some b->Rep G H v x->Rep G H w y->RelV v u1->RelV w u2->SeqAt.EqAt A s u1 u2 b:=λ {A x y v w u1 u2 b} h rx ry q1 q2=>by
  unfold flD at h;cases e1:flV x with
  | none=>simp[e1] at h
  | some u=>
   cases e2:flV y with
   | none=>simp[e1,e2] at h
   | some w=>
    simp[e1,e2] at h;obtain⟨z1,z2⟩:=RM rx e1;obtain⟨z3,z4⟩:=RM ry e2;rw[<-h,<-z1,<-z3];exact gr q1 q2 z2 z4
 intro n
 induction n with
 | zero=>intro A hu x y v w u1 u2 b h rx ry q1 q2;exact flat h rx ry q1 q2
 | succ n ih=>
  intro A hu x y v w u1 u2 b h rx ry q1 q2;have h':=h;have hu1:A.in1.units+n<cLine:=by show A.units+1+n<cLine;omega
  have hu0:A.units<cLine:=by omega
  unfold eqK eqS at h;split at h
  ·cases rx with
   | @lst a _ _ h1 l1 r1=>
    cases ry with
    | @lst c _ _ h2 l2 r2=>
     obtain rfl:u1=.ref a:=q1;obtain rfl:u2=.ref c:=q2;obtain⟨its,v1,p1,_⟩:=I.list (by rw[<-hG];exact h1);obtain⟨jts,v2,p2,_⟩:=I.list (by rw[<-hG];exact h2)
     by_cases hac:a=c
     ·subst hac;have:=Xk I hG (n+1) h' (.lst h1 l1 r1) (.lst h2 l2 r2);subst this;exact SeqAt.EqAt.same _
     ·split at h
      ·obtain⟨z1,z2,z3⟩:=Jk (λ q=>ih A.in1 hu1 q) h ⟨l1,r1⟩ ⟨l2,r2⟩ v1 v2;rw[z2];exact SeqAt.EqAt.of_refs hac (SeqAt.RcAt.lists p1.isList p2.isList z1 hu0 z3)
      ·rename_i hne;cases h;exact SeqAt.EqAt.of_refs hac (SeqAt.RcAt.lists_lengths p1.isList p2.isList (WT hne ⟨l1,r1⟩ ⟨l2,r2⟩ v1 v2) hu0)
  ·cases rx with
   | @tup a _ _ h1 l1 r1=>
    cases ry with
    | @tup c _ _ h2 l2 r2=>
     obtain rfl:u1=.ref a:=q1;obtain rfl:u2=.ref c:=q2;obtain⟨its,v1,p1,_⟩:=I.tuple (by rw[<-hG];exact h1);obtain⟨jts,v2,p2,_⟩:=I.tuple (by rw[<-hG];exact h2)
     by_cases hac:a=c
     ·subst hac;have:=Xk I hG (n+1) h' (.tup h1 l1 r1) (.tup h2 l2 r2);subst this;exact SeqAt.EqAt.same _
     ·split at h
      ·obtain⟨z1,z2,z3⟩:=Jk (λ q=>ih A.in1 hu1 q) h ⟨l1,r1⟩ ⟨l2,r2⟩ v1 v2;have q:=SeqAt.RcAt.tuples (show s.heap.IsTuple a its.toArray from p1) (show s.heap.IsTuple c jts.toArray from p2) hu0 z3;rw[z1,Nat.min_self,z0Z,Bool.and_true,<-z1,<-z2] at q;exact SeqAt.EqAt.of_refs hac q
      ·cases h
  ·exact flat h rx ry q1 q2
end
def rEqP (G:Gx) (neg:Bool):R2:=λ x y H Q=>∃ (A:List Addr) (ds es:List D) (b:Bool),eqvD (.lst ds) (.lst es)=some b/\((RepT G A H x (.lst ds)/\RepT G A H y (.lst es))∨(ds.length=es.length/\RepT G A H x (.tup ds)/\RepT G A H y (.tup es)))/\Q (.bl (if neg then !b else b)) H
theorem uf (hG:G.K=X.K) (hu:X.A.units+190<cLine):OpR X (compareOp .Eq) (rEqP G false):=by
 intro π s σ H x y v u Q I rx ry h;obtain⟨A,ds,es,b,e,hr,k⟩:=h;have fin:EP X π σ Q (.bool b) s:=⟨.bl b,H,I,rfl,k⟩;simp only[eqvD] at e
 rcases hr with ⟨r1,r2⟩ | ⟨hl,r1,r2⟩
 ·obtain⟨a,xs,rfl,h1,q1⟩:=r1.lst;obtain⟨c,ys,rfl,h2,q2⟩:=r2.lst;cases rx;cases ry;obtain⟨its,v1,p1,_⟩:=I.list (by rw[<-hG];exact h1);obtain⟨jts,v2,p2,_⟩:=I.list (by rw[<-hG];exact h2);split at e
  ·obtain⟨z1,z2,z3⟩:=Jk (λ q=>Pj I hG 180 X.A.in1 (by show X.A.units+1+180<cLine;omega) q) e (q1.mono BK) (q2.mono BK) v1 v2;exact SeqAt.RcAt.lists p1.isList p2.isList z1 (by omega) z3 _ _ _ _ (by rw[<-z2];exact fin)
  ·rename_i hne;cases e;exact SeqAt.RcAt.lists_lengths p1.isList p2.isList (WT hne q1 q2 v1 v2) (by omega) _ _ _ _ fin
 ·obtain⟨a,xs,rfl,h1,q1⟩:=r1.tup;obtain⟨c,ys,rfl,h2,q2⟩:=r2.tup;cases rx;cases ry;obtain⟨its,v1,p1,_⟩:=I.tuple (by rw[<-hG];exact h1);obtain⟨jts,v2,p2,_⟩:=I.tuple (by rw[<-hG];exact h2);rw[if_pos hl] at e;obtain⟨z1,z2,z3⟩:=Jk (λ q=>Pj I hG 180 X.A.in1 (by show X.A.units+1+180<cLine;omega) q) e (q1.mono BK) (q2.mono BK) v1 v2;have q:=SeqAt.RcAt.tuples (show s.heap.IsTuple a its.toArray from p1) (show s.heap.IsTuple c jts.toArray from p2) (by omega) z3;rw[z1,Nat.min_self,z0Z,Bool.and_true,<-z1,<-z2] at q;exact q _ _ _ _ fin
theorem ug (hG:G.K=X.K) (hu:X.A.units+190<cLine):OpR X (compareOp .NotEq) (rEqP G true):=by
 intro π s σ H x y v u Q I rx ry h;obtain⟨A,ds,es,b,e,hr,k⟩:=h;have fin:EP X π σ Q (.bool (!b)) s:=⟨.bl (!b),H,I,rfl,k⟩;simp only[eqvD] at e
 rcases hr with ⟨r1,r2⟩ | ⟨hl,r1,r2⟩
 ·obtain⟨a,xs,rfl,h1,q1⟩:=r1.lst;obtain⟨c,ys,rfl,h2,q2⟩:=r2.lst;cases rx;cases ry;obtain⟨its,v1,p1,_⟩:=I.list (by rw[<-hG];exact h1);obtain⟨jts,v2,p2,_⟩:=I.list (by rw[<-hG];exact h2);split at e
  ·obtain⟨z1,z2,z3⟩:=Jk (λ q=>Pj I hG 180 X.A.in1 (by show X.A.units+1+180<cLine;omega) q) e (q1.mono BK) (q2.mono BK) v1 v2;exact SeqAt.RcNeAt.lists p1.isList p2.isList z1 (by omega) z3 _ _ _ _ (by rw[<-z2];exact fin)
  ·rename_i hne;cases e;exact SeqAt.RcNeAt.lists_lengths p1.isList p2.isList (WT hne q1 q2 v1 v2) (by omega) _ _ _ _ fin
 ·obtain⟨a,xs,rfl,h1,q1⟩:=r1.tup;obtain⟨c,ys,rfl,h2,q2⟩:=r2.tup;cases rx;cases ry;obtain⟨its,v1,p1,_⟩:=I.tuple (by rw[<-hG];exact h1);obtain⟨jts,v2,p2,_⟩:=I.tuple (by rw[<-hG];exact h2);rw[if_pos hl] at e;obtain⟨z1,z2,z3⟩:=Jk (λ q=>Pj I hG 180 X.A.in1 (by show X.A.units+1+180<cLine;omega) q) e (q1.mono BK) (q2.mono BK) v1 v2;have q:=SeqAt.RcNeAt.tuples (show s.heap.IsTuple a its.toArray from p1) (show s.heap.IsTuple c jts.toArray from p2) (by omega) z3;rw[z1,Nat.min_self,z0Z,Bool.and_true,<-z1,<-z2] at q;exact q _ _ _ _ fin
def rEqA (G:Gx) (neg:Bool):R2:=λ x y H Q=>(λ x y H Q=>scal x y=true/\Q (.bl (if neg then !decide (x=y) else decide (x=y))) H) x y H Q∨rEqP G neg x y H Q
theorem ZF (hG:G.K=X.K) (hu:X.A.units+190<cLine):OpR X (compareOp .Eq) (rEqA G false):=wH.or (uf hG hu)
theorem jH (hG:G.K=X.K) (hu:X.A.units+190<cLine):OpR X (compareOp .NotEq) (rEqA G true):=wI.or (ug hG hu)
theorem WW {α β:Type} [DecidableEq α] [DecidableEq β] {f:α->β}(h:∀ a b,f a=f b->a=b) (a b:α):decide (f a=f b)=decide (a=b):=by
 by_cases e:a=b
 ·subst e;simp
 ·rw[z0J e,z0J λ z=>e (h a b z)]
theorem WX (neg:Bool):Dh G (rEqA G neg) (eqD neg):=by
 intro A H x y dx dy d Q lv rx ry h k;unfold eqD at h;cases e:eqvD dx dy with
 | none=>simp[e] at h
 | some b=>
  simp only[e,z0k] at h;cases h;unfold eqvD at e;split at e
  ·cases e;rw[rx.int,ry.int];refine .inl ⟨rfl,?_⟩;rw[WW (f:=V.int) (λ a b z=>by cases z;rfl)];exact k _ H (Same.refl H) (.bl _)
  ·cases e;rw[rx.str,ry.str];refine .inl ⟨rfl,?_⟩;rw[WW (f:=V.str) (λ a b z=>by cases z;rfl)];exact k _ H (Same.refl H) (.bl _)
  ·cases e;rw[rx.bl,ry.bl];refine .inl ⟨rfl,?_⟩;rw[WW (f:=V.bl) (λ a b z=>by cases z;rfl)];exact k _ H (Same.refl H) (.bl _)
  ·exact .inr ⟨A,_,_,b,e,.inl ⟨rx,ry⟩,k _ H (Same.refl H) (.bl _)⟩
  ·split at e
   ·rename_i hl;exact .inr ⟨A,_,_,b,(by simp only[eqvD];rw[if_pos hl];exact e),.inr ⟨hl,rx,ry⟩,k _ H (Same.refl H) (.bl _)⟩
   ·cases e
  ·cases e
def SndC (G:Gx) (r:List V->Hp->VK->Prop) (g:D->Option D):Prop:=∀ (A:List Addr) (H:Hp) (x:V) (dx d:D) (Q:VK),(∀ a∈A,Nt (H a))->RepT G A H x dx->g dx=some d->(∀ v H',Same H H'->Rep G (hid A H') v d->Q v H')->r [x] H Q
def aq (G:Gx) (r:List V->Hp->VK->Prop) (g:D->D->Option D):Prop:=∀ (A:List Addr) (H:Hp) (x y:V) (dx dy d:D) (Q:VK),(∀ a∈A,Nt (H a))->RepT G A H x dx->RepT G A H y dy->g dx dy=some d->(∀ v H',Same H H'->Rep G (hid A H') v d->Q v H')->r [x,y] H Q
theorem JF {g:D->Option D}{ρ:Rho}{d:D}(h:uF g fa ρ=some d):∃ x,fa ρ=some x/\g x=some d:=by
 unfold uF at h;cases e:fa ρ with
 | none=>simp[e] at h
 | some x=>exact⟨x,rfl,by simpa [e] using h⟩
theorem jJ {g:D->Option D}(s:SndC G r g) {A:List Addr}{σ:St}{H:Hp}{Q:VK}(h:tF G A (uF g fa) σ H Q):tCB r (QZ (tT G A fa) tNil) σ H Q:=by
 obtain⟨ρ,d,o,e,k⟩:=h;obtain⟨x,e1,e2⟩:=JF e;exact⟨ρ,x,o,e1,λ v H1 s1 r1=>s A H1 v x d Q (o.mono s1).live r1 e2 λ w H2 s2 r2=>k w H2 (s1.trans s2) r2⟩
theorem oZ {g:D->D->Option D}(s:aq G r g) {A:List Addr}{σ:St}{H:Hp}{Q:VK}(h:tF G A (bF g fa fb) σ H Q):tCB r (QZ (tT G A fa) (QZ (tT G A fb) tNil)) σ H Q:=by
 obtain⟨ρ,d,o,e,k⟩:=h;obtain⟨x,y,e1,e2,e3⟩:=WP e;exact⟨ρ,x,o,e1,λ v H1 s1 r1=>⟨ρ,y,o.mono s1,e2,λ u H2 s2 r2=>s A H2 v u x y d Q ((o.mono s1).mono s2).live (r1.mono s2) r2 e3 λ w H3 s3 r3=>k w H3 (s1.trans (s2.trans s3)) r3⟩⟩
theorem DG {x:Str}{p:Pos}{id:String}{g:D->Option D}(hc:Eb X (.builtin id) r) (s:SndC G r g) (hg:Gl X x) (hm:X.mg x=none) (hv:bootBuiltins x=some (.builtin id)) (ha:PU X G a fa)
  (hn:x≠"__name__":=by decide) (hdb:(x==("__debug__":Str))=false:=by decide) (he:starEach [a] X.env=[(false,eval a X.env)]:=by rfl):PF X G (.Call (.Name x p) [a] [] pos) (uF g fa):=
 λ A=>Ca (Kl hc hg hm hv (BZ (@ha A) Cz he) hn hdb he rfl) λ _ _ _ h=>jJ s h
theorem Nk {x:Str}{p:Pos}{id:String}{g:D->D->Option D}(hc:Eb X (.builtin id) r) (s:aq G r g) (hg:Gl X x) (hm:X.mg x=none) (hv:bootBuiltins x=some (.builtin id)) (ha:PU X G a fa) (hb:PU X G b fb)
  (hn:x≠"__name__":=by decide) (hdb:(x==("__debug__":Str))=false:=by decide) (he:starEach [a,b] X.env=(false,eval a X.env)::starEach [b] X.env:=by rfl) (he2:starEach [b] X.env=[(false,eval b X.env)]:=by rfl):PF X G (.Call (.Name x p) [a,b] [] pos) (bF g fa fb):=
 λ A=>Ca (Kl hc hg hm hv (BZ (@ha A) (BZ (@hb A) Cz he2) he) hn hdb he (by rw[he2];rfl)) λ _ _ _ h=>oZ s h
theorem Jl {x:Str}{p:Pos}{T:String}{g:D->Option D}(hc:Eb X (.type T) r) (s:SndC G r g) (hg:Gl X x) (hm:X.mg x=none) (hv:bootBuiltins x=some (.type T)) (ha:PU X G a fa)
  (hn:x≠"__name__":=by decide) (hdb:(x==("__debug__":Str))=false:=by decide) (he:starEach [a] X.env=[(false,eval a X.env)]:=by rfl):PF X G (.Call (.Name x p) [a] [] pos) (uF g fa):=
 λ A=>Ca (O_ hc hg hm hv (BZ (@ha A) Cz he) hn hdb he rfl) λ _ _ _ h=>jJ s h
theorem Li:SndC G (λ xs H Q=>∃ x n,xs=[x]/\LenV G.K x H n/\Q (.int n) H) lenD:=by
 intro A H x dx d Q lv rx h k;unfold lenD at h;split at h
 ·split at h
  ·rename_i hz;cases h;rw[rx.str];exact⟨_,_,rfl,⟨hz,rfl⟩,k _ H (Same.refl H) (.int _)⟩
  ·cases h
 ·cases h;obtain⟨p,xs,rfl,h1,r⟩:=rx.lst;exact⟨_,_,rfl,.inl ⟨xs,h1,rfl⟩,by rw[r.1];exact k _ H (Same.refl H) (.int _)⟩
 ·cases h;obtain⟨p,xs,rfl,h1,r⟩:=rx.tup;exact⟨_,_,rfl,.inr ⟨xs,h1,rfl⟩,by rw[r.1];exact k _ H (Same.refl H) (.int _)⟩
 ·cases h
theorem Cm (hG:G.K=X.K):Eb X (.builtin "len") (λ xs H Q=>∃ x n,xs=[x]/\LenV G.K x H n/\Q (.int n) H):=by rw[hG];exact gR
theorem R6:aq G (λ xs H Q=>∃ i j,xs=[.int i,.int j]/\Q (.int (if j > i then j else i)) H) maxD:=by
 intro A H x y dx dy d Q lv rx ry h k;obtain⟨i,j,rfl,rfl,h⟩:=Nh h;cases h;exact⟨i,j,by rw[rx.int,ry.int],k _ H (Same.refl H) (.int _)⟩
theorem jK:aq G (λ xs H Q=>∃ i j,xs=[.int i,.int j]/\Q (.int (if j<i then j else i)) H) minD:=by
 intro A H x y dx dy d Q lv rx ry h k;obtain⟨i,j,rfl,rfl,h⟩:=Nh h;cases h;exact⟨i,j,by rw[rx.int,ry.int],k _ H (Same.refl H) (.int _)⟩
theorem R7:SndC G (λ xs H Q=>∃ p ys,xs=[.ref p]/\(SqL G.K H p ys∨SqT G.K H p ys)/\∀ l,H l=none->Q (.ref l) (upd H l (.lst ys))) Us:=by
 intro A H x dx d Q lv rx h k;unfold Us at h;split at h
 ·cases h;obtain⟨p,xs,rfl,h1,r⟩:=rx.lst;exact⟨p,xs,rfl,.inl h1,λ l hl=>k _ _ (BR hl _) (Ec lv hl r)⟩
 ·cases h;obtain⟨p,xs,rfl,h1,r⟩:=rx.tup;exact⟨p,xs,rfl,.inr h1,λ l hl=>k _ _ (BR hl _) (Ec lv hl r)⟩
 ·cases h
theorem IW (ha:PU X G a fa):PF X G (.UnaryOp .USub a pos) (uF negD fa):=λ A=>Ca (wG uM (@ha A))<|by
 rintro σ H Q ⟨ρ,d,o,e,k⟩
 obtain⟨x,e1,e2⟩:=JF e;refine⟨ρ,x,o,e1,λ v H1 s1 r1=>?_⟩;unfold negD at e2;split at e2
 ·cases e2;exact⟨_,r1.int,k _ H1 s1 (.int _)⟩
 ·cases e2
end
def rW (G:Gx) (F2 H H':Hp) (x:V) (d:D):Prop:=Same H H'/\∀ B:List Addr,(∀ a∈B,Nt (H a))->Same F2 (hid B H)->Rep G (hid B H') x d
theorem Pk {G:Gx}{x:V}{d:D}(h:H'=H/\Rep G F2 x d):rW G F2 H H' x d:=by
 obtain⟨rfl,r⟩:=h;exact⟨Same.refl _,λ B _ sm=>r.mono sm⟩
structure Src (G:Gx) (J:It) (ds:List D) (F1 F2:Hp):Prop where
 go:∀ i H,Same F1 H->i<ds.length->J.go i H
 yld:∀ i H x H' d,Same F1 H->ds[i]?=some d->J.yld i H x H'->rW G F2 H H' x d
 stop:∀ i H,Same F1 H->ds.length<=i->J.stop i H
def tI (G:Gx) (A:List Addr) (top:Bool) (f:FI):TI:=λ σ H R=>∃ ρ ds,Okp G A σ H ρ/\f ρ=some ds/\∀ J H1,Same H H1->Src G J ds (if top then H1 else hid A H1) (hid A H1)->R J H1
def PFI (X:Cx) (G:Gx) (top:Bool) (tg e:Expr) (f:FI):Prop:=∀ ⦃A⦄,PI X tg e (tI G A top f)
theorem R8 {t t':TI}(h:PI X tg e t) (w:∀ σ H Q,t' σ H Q->t σ H Q):PI X tg e t':=λ π s σ H Q I q=>h π s σ H Q I (w σ H Q q)
theorem piOr {t t':TI}(h:PI X tg e t) (h':PI X tg e t'):PI X tg e (λ σ H R=>t σ H R∨t' σ H R):=λ π s σ H Q I q=>by
 rcases q with q | q
 ·exact h π s σ H Q I q
 ·exact h' π s σ H Q I q
section
variable {G:Gx}{a b c:Expr}{fa fb fc:FE}{p2:Pos}
theorem au {ds:List D}(h:SqT G.K F1 p xs) (r:RepL G F2 xs ds):Src G (Itt G.K p) ds F1 F2 where
 go:=λ i H s hi=>⟨xs,xs[i]'(by rw[r.1];exact hi),IV s h,by simp[r.1,hi]⟩
 yld:=λ i H x H' d s hd y=>Pk ⟨y.1,r.2 i x d (y.2 xs (IV s h)) hd⟩
 stop:=λ i H s hi=>⟨xs,IV s h,by rw[r.1];exact hi⟩
theorem oh (hG:G.K=X.K) (h:PF X G a fa):PFI X G false tg a (seqI fa):=λ A=>R8 (piOr (Z6 (@h A)) (gK (@h A)))<|by
 rintro σ H R ⟨ρ,ds,o,e,k⟩
 unfold seqI at e;split at e
 ·rename_i ds' e1;cases e;refine .inl ⟨ρ,_,o,e1,λ v H1 s1 r1=>?_⟩;cases r1 with
  | lst h l r=>exact⟨_,rfl,⟨_,by rw[<-hG];exact BK.seq h⟩,by rw[<-hG];exact k _ H1 s1 { go:=λ i H s hi=>⟨_,_,s.seq h,by simp[l,hi];rfl⟩,yld:=λ i H x H' d s hd y=>Pk ⟨y.1,r i x d (y.2 _ (s.seq h)) hd⟩,stop:=λ i H s hi=>⟨_,s.seq h,by rw[l];exact hi⟩ }⟩
 ·rename_i ds' e1;cases e;refine .inr ⟨ρ,_,o,e1,λ v H1 s1 r1=>?_⟩;cases r1 with
  | tup h l r=>exact⟨_,rfl,⟨_,by rw[<-hG];exact IV BK h⟩,by rw[<-hG];exact k _ H1 s1 (au h ⟨l,r⟩)⟩
 ·cases e
theorem RN (hG:G.K=X.K) (h:PU X G a fa):PFI X G true tg a (seqI fa):=λ A=>R8 (piOr (Z6 (@h A)) (gK (@h A)))<|by
 rintro σ H R ⟨ρ,ds,o,e,k⟩
 unfold seqI at e;split at e
 ·rename_i ds' e1;cases e;refine .inl ⟨ρ,_,o,e1,λ v H1 s1 r1=>?_⟩;obtain⟨p,xs,rfl,h,r⟩:=r1.lst;exact⟨_,rfl,⟨_,by rw[<-hG];exact h⟩,by rw[<-hG];exact k _ H1 s1 { go:=λ i H s hi=>⟨xs,xs[i]'(by rw[r.1];exact hi),s.seq h,by simp[r.1,hi]⟩,yld:=λ i H x H' d s hd y=>Pk ⟨y.1,r.2 i x d (y.2 _ (s.seq h)) hd⟩,stop:=λ i H s hi=>⟨_,s.seq h,by rw[r.1];exact hi⟩ }⟩
 ·rename_i ds' e1;cases e;refine .inr ⟨ρ,_,o,e1,λ v H1 s1 r1=>?_⟩;obtain⟨p,xs,rfl,h,r⟩:=r1.tup;exact⟨_,rfl,⟨_,by rw[<-hG];exact h⟩,by rw[<-hG];exact k _ H1 s1 (au h r)⟩
 ·cases e
theorem jL {d:D}(h:(rngD n)[i]?=some d):d=.int i:=by
 unfold rngD at h;rw[z0g] at h;cases e:(List.range n)[i]? with
 | none=>rw[e] at h;cases h
 | some j=>
  rw[e] at h;have:=(z0C.mp e);obtain⟨hi,ej⟩:=this;rw[List.getElem_range] at ej;subst ej;exact (z0h h).symm
theorem ou:Src G (Itr 0 n) (rngD n) F1 F2 where
 go:=λ i H s hi=>by unfold rngD at hi;show i<n;simpa using hi
 yld:=λ i H x H' d s hd y=>by
  obtain⟨y1,y2⟩:=y;rw[jL hd,y2,Int.zero_add];exact Pk ⟨y1,.int _⟩
 stop:=λ i H s hi=>by unfold rngD at hi;show n<=i;simpa using hi
theorem Dd {top:Bool}{p:Pos}(hg:Gl X "range") (hm:X.mg "range"=none) (h:PU X G a fa) (hs:starEach [a] X.env=[(false,eval a X.env)]:=by rfl):PFI X G top tg (.Call (.Name "range" p) [a] [] pos) (rngI fa):=λ A=>R8 (dO hg hm (BZ (@h A) Cz hs) hs)<|by
 rintro σ H R ⟨ρ,ds,o,e,k⟩
 unfold rngI at e;split at e
 ·rename_i j e1;split at e
  ·rename_i hj;cases e;exact⟨ρ,_,o,e1,λ v H1 s1 r1=>⟨j,by rw[r1.int],hj.1,hj.2,k _ H1 s1 ou⟩⟩
  ·cases e
 ·cases e
end
structure OkW (G:Gx) (A0:List Addr) (He:Hp) (A:List Addr) (σ:St) (H:Hp) (ρ:Rho):Prop where
 same:Same He H
 sub:∀ a∈A0,a∈A
 fr:∀ a∈A,a∈A0∨He a=none
 l0:∀ a∈A0,He a≠none
 ok:Okp G A σ H ρ
 ow0:∀ (i:Nat) (d:D) (a:Addr),ρ[i]?=some (.ow d)->σ[i]?=some (some (.ref a))->a∉A0
 lt:∀ (x:Addr) (d:D),G.lent=some x->ρ[0]?=some (.ow d)->σ[0]?=some (some (.ref x))
def OkS (G:Gx) (A0:List Addr) (He:Hp) (σ:St) (H:Hp) (ρ:Rho):Prop:=∃ A,OkW G A0 He A σ H ρ
def R9 (G:Gx) (A0:List Addr) (He:Hp) (D:Ends):Out->Prop
 | .nx ρ=>∀ σ H,OkS G A0 He σ H ρ->D.nx σ H
 | .rt d ρ=>∀ v σ H A,OkW G A0 He A σ H ρ->Rep G (hid A H) v d->D.rt v H
 | .bk ρ=>∀ σ H,OkS G A0 He σ H ρ->D.bk σ H
 | .ct ρ=>∀ σ H,OkS G A0 He σ H ρ->D.ct σ H
def tS (G:Gx) (A0:List Addr) (He:Hp) (g:FS):TS:=λ D σ H=>∃ ρ o,OkS G A0 He σ H ρ/\g ρ=some o/\R9 G A0 He D o
def PSD (X:Cx) (G:Gx) (st:Stmt) (g:FS):Prop:=∀ ⦃A0⦄ He,PS X st (tS G A0 He g)
def PSDs (X:Cx) (G:Gx) (st:List Stmt) (g:FS):Prop:=∀ ⦃A0⦄ He,PSs X st (tS G A0 He g)
theorem Okp.set {G:Gx}{A:List Addr}{σ:St}{H:Hp}{ρ:Rho}{v:V}{d:D}(o:Okp G A σ H ρ) (r:Rep G (hid A H) v d) (i:Nat):Okp G A (σ.set i (some v)) H (ρ.set i (.fz d)):=by
 have key:∀ (j:Nat) (z:Slot),(ρ.set i (.fz d))[j]?=some z->(j=i/\z=.fz d/\i<ρ.length)∨(j≠i/\ρ[j]?=some z):=λ j z h=>by
  by_cases hj:j=i
  ·subst hj
   by_cases hl:j<ρ.length
   ·rw[z12 hl] at h;exact .inl ⟨rfl,(z0h h).symm,hl⟩
   ·rw[z1P (by simpa using z1f.mp hl)] at h;cases h
  ·rw[z0v (Ne.symm hj)] at h;exact .inr ⟨hj,h⟩
 have keyS:∀ (j:Nat),j≠i->(σ.set i (some v))[j]?=σ[j]?:=λ j hj=>z0v (Ne.symm hj);refine⟨by rw[z0W,z0W];exact o.len,o.live,λ j e h=>?_,λ j e h=>?_,λ j k e f p h1 h2 h3 h4=>?_⟩
 ·rcases key j _ h with ⟨hj,hz,hl⟩ | ⟨hj,hz⟩
  ·cases hz;subst hj;exact⟨v,by rw[z12 (by rw[o.len];exact hl)],r⟩
  ·obtain⟨u,q1,q2⟩:=o.fz j e hz;exact⟨u,by rw[keyS j hj];exact q1,q2⟩
 ·rcases key j _ h with ⟨hj,hz,hl⟩ | ⟨hj,hz⟩
  ·cases hz
  ·obtain⟨u,q1,q2⟩:=o.ow j e hz;exact⟨u,by rw[keyS j hj];exact q1,q2⟩
 ·rcases key j _ h1 with ⟨_,hz,_⟩ | ⟨hj,hz⟩
  ·cases hz
  ·rcases key k _ h2 with ⟨_,hz',_⟩ | ⟨hk,hz'⟩
   ·cases hz'
   ·rw[keyS j hj] at h3;rw[keyS k hk] at h4;exact o.inj j k e f p hz hz' h3 h4
theorem OkW.mono {G:Gx}{A0:List Addr}{He:Hp}{A:List Addr}{σ:St}{H H':Hp}{ρ:Rho}(o:OkW G A0 He A σ H ρ) (s:Same H H'):OkW G A0 He A σ H' ρ:=⟨o.same.trans s,o.sub,o.fr,o.l0,o.ok.mono s,o.ow0,o.lt⟩
theorem OkW.set {G:Gx}{A0:List Addr}{He:Hp}{A:List Addr}{σ:St}{H:Hp}{ρ:Rho}{v:V}{d:D}(o:OkW G A0 He A σ H ρ) (r:Rep G (hid A H) v d) (i:Nat):OkW G A0 He A (σ.set i (some v)) H (ρ.set i (.fz d)):=⟨o.same,o.sub,o.fr,o.l0,o.ok.set r i,λ j e a h1 h2=>by
  have hj:j≠i:=by
   intro z;subst z
   by_cases hl:j<ρ.length
   ·rw[z12 hl] at h1;cases h1
   ·rw[z1P (by simpa using z1f.mp hl)] at h1;cases h1
  rw[z0v (Ne.symm hj)] at h1 h2;exact o.ow0 j e a h1 h2,λ x e hx h0=>by
  by_cases hi:i=0
  ·subst hi;cases ρ with
   | nil=>cases h0
   | cons a r=>cases h0
  ·rw[z0v hi] at h0 ⊢;exact o.lt x e hx h0⟩
theorem OkW.base {G:Gx}{ρ:Rho}(o:OkW G A0 Hf A σ H ρ) (s:Same He Hf) (l0:∀ a∈A0,He a≠none):OkW G A0 He A σ H ρ:=
 ⟨s.trans o.same,o.sub,λ a ha=>(o.fr a ha).imp id λ z=>s.free z,l0,o.ok,o.ow0,o.lt⟩
theorem OkW.here {G:Gx}{ρ:Rho}(o:OkW G A0 He A σ H ρ):Same He (hid (A.filter λ a=>decide (a∉A0)) H)/\OkW G A0 (hid (A.filter λ a=>decide (a∉A0)) H) A σ H ρ:=by
 have hb:∀ b,b∈(A.filter λ a=>decide (a∉A0))↔b∈A/\b∉A0:=λ b=>by simp[z0K]
 have s1:Same He (hid (A.filter λ a=>decide (a∉A0)) H):=λ b u h=>by
  rw[Bp]
  ·exact o.same b u h
  ·intro z;obtain⟨z1,z2⟩:=(hb b).mp z
   rcases o.fr b z1 with q | q
   ·exact z2 q
   ·rw[q] at h;cases h
 refine⟨s1,BK,o.sub,λ a ha=>?_,λ a ha h=>?_,o.ok,o.ow0,o.lt⟩
 ·by_cases hz:a∈A0
  ·exact .inl hz
  ·right;delta hid;rw[if_pos ((hb a).mpr ⟨ha,hz⟩)]
 ·rw[Bp (λ z=>((hb a).mp z).2 ha)] at h;exact (o.ok.live a (o.sub a ha)).ne h
theorem OkW.plain {G:Gx}{ρ:Rho}(sub:∀ a∈A0,a∈B) (o:OkW G A0 (hid (B.filter λ a=>decide (a∉A0)) H1) A σ H ρ):Same (hid B H1) (hid A H):=λ b u h=>by
 unfold hid at h;split at h
 ·cases h
 ·rename_i hb;have e:hid (B.filter λ a=>decide (a∉A0)) H1 b=some u:=by
   rw[Bp (λ z=>hb (z0K.mp z).1)];exact h
  rw[Bp]
  ·exact o.same b u e
  ·intro z
   rcases o.fr b z with q | q
   ·exact hb (sub b q)
   ·rw[q] at e;cases e
section
variable {G:Gx}{a b c:Expr}{fa fb fc:FE}{ga:FT}{p2:Pos}{st:Stmt}{rest:List Stmt}{g gs gb:FS}
theorem Ar:PSDs X G [] nxF:=by
 rintro A0 He π s σ H D I ⟨ρ,o,ok,e,k⟩
 cases e;exact Ve π s σ H D I (k σ H ok)
theorem Ab (h1:PSD X G st g) (h2:PSDs X G rest gs):PSDs X G (st::rest) (seqF g gs):=by
 rintro A0 He π s σ H D I ⟨ρ,o,ok,e,k⟩
 refine FW (@h1 A0 He) (@h2 A0 He) π s σ H D I ?_;unfold seqF at e;split at e
 ·rename_i ρ' e1;exact⟨ρ,_,ok,e1,λ σ' H' ok'=>⟨ρ',o,ok',e,k⟩⟩
 ·rename_i hno;refine⟨ρ,o,ok,e,?_⟩;cases o with
  | nx ρ'=>exact absurd e (hno ρ')
  | rt d ρ'=>exact k
  | bk ρ'=>exact k
  | ct ρ'=>exact k
theorem Af (h1:PSD X G st g):PSDs X G [st] g:=λ A0 He=>I_ (@h1 A0 He)
theorem A_ {s2:List Stmt}(ht:PFT X G c ga) (h1:PSDs X G s1 g) (h2:PSDs X G s2 gs):PSD X G (.If c s1 s2 pos) (ifS ga g gs):=by
 rintro A0 He π s σ H D I ⟨ρ,o,⟨A,w⟩,e,k⟩
 refine gF (@ht A) (@h1 A0 He) (@h2 A0 He) π s σ H D I ?_;unfold ifS at e;split at e
 ·rename_i e1;exact⟨ρ,_,w.ok,e1,λ H1 s1=>iteT ⟨ρ,o,⟨A,w.mono s1⟩,e,k⟩⟩
 ·rename_i e1;exact⟨ρ,_,w.ok,e1,λ H1 s1=>iteF ⟨ρ,o,⟨A,w.mono s1⟩,e,k⟩⟩
 ·cases e
theorem jM {ρ:Rho}{o:Out}{D:Ends}(w:OkW G A0 He A σ H ρ) (e:setF i fa ρ=some o) (k:R9 G A0 He D o):tAsg (tF G A fa) (Kd i) D σ H:=by
 unfold setF at e;cases e1:fa ρ with
 | none=>simp[e1] at e
 | some d=>
  simp only[e1,z0k] at e;cases e;exact⟨ρ,d,w.ok,e1,λ v H1 s1 r1=>k _ _ ⟨A,(w.mono s1).set r1 i⟩⟩
theorem o7 {x:Str}{p:Pos}(h:∀ te,PE X a te->PS X (.Assign [.Name x p] a pos) (tAsg te (Kd i))) (ha:PF X G a fa):PSD X G (.Assign [.Name x p] a pos) (setF i fa):=λ A0 He π s σ H D I ⟨ρ,o,⟨A,w⟩,e,k⟩=>
 h _ (@ha A) π s σ H D I (jM w e k)
theorem Ak (ha:PF X G a fa):PSD X G (.Return (some a) pos) (retF fa):=by
 rintro A0 He π s σ H D I ⟨ρ,o,⟨A,w⟩,e,k⟩
 refine uD (@ha A) π s σ H D I ?_;unfold retF at e;cases e1:fa ρ with
 | none=>simp[e1] at e
 | some d=>
  simp only[e1,z0k] at e;cases e;exact⟨ρ,d,w.ok,e1,λ v H1 s1 r1=>k v σ H1 A (w.mono s1) r1⟩
theorem Jm (ha:PF X G a fa) (hs:swapsWith a none pos.line X.env=pure false:=by rfl):PSD X G (.Expr a pos) (JB fa):=by
 rintro A0 He π s σ H D I ⟨ρ,o,⟨A,w⟩,e,k⟩
 refine HB (@ha A) hs π s σ H D I ?_;unfold JB at e;cases e1:fa ρ with
 | none=>simp[e1] at e
 | some d=>
  simp only[e1,z0k] at e;cases e;exact⟨ρ,d,w.ok,e1,λ v H1 s1 r1=>k _ _ ⟨A,w.mono s1⟩⟩
theorem Pn:PSD X G st badF:=by rintro A0 He π s σ H D I ⟨ρ,o,ok,e,k⟩;cases e
def tGD (G:Gx) (A0:List Addr) (He:Hp) (g:FG):TG:=λ v σ H Q=>∃ A ρ d ρ',OkW G A0 He A σ H ρ/\Rep G (hid A H) v d/\g d ρ=some ρ'/\∀ σ' H',OkS G A0 He σ' H' ρ'->Q σ' H'
def PGD (X:Cx) (G:Gx) (tg:Expr) (g:FG):Prop:=∀ ⦃A0⦄ He,PG X tg (tGD G A0 He g)
theorem Cr (h:PG X tg (Kd i)):PGD X G tg (CT i):=by
 rintro A0 He π s σ H v u Q I r ⟨A,ρ,d,ρ',w,rv,e,k⟩
 cases e;exact h π s σ H v u Q I r (k _ _ ⟨A,w.set rv i⟩)
theorem R9.base {A0:List Addr}{He Hf:Hp}{D:Ends}{o:Out}(k:R9 G A0 He D o) (s:Same He Hf) (l0:∀ a∈A0,He a≠none):R9 G A0 Hf D o:=by
 cases o with
 | nx ρ=>exact λ σ H ⟨A,w⟩=>k σ H ⟨A,w.base s l0⟩
 | rt d ρ=>exact λ v σ H A w r=>k v σ H A (w.base s l0) r
 | bk ρ=>exact λ σ H ⟨A,w⟩=>k σ H ⟨A,w.base s l0⟩
 | ct ρ=>exact λ σ H ⟨A,w⟩=>k σ H ⟨A,w.base s l0⟩
theorem Er {it:Expr}{src:FI}{fg:FG}(hp:PassesOwn (model X.prog X.w) X.A X.env X.xe) (hc:X.calm=true) (hi:PFI X G false tg it src) (hg:PGD X G tg fg) (hb:PSDs X G body gb)
  (hs:∀ x,foldedSetIterable it X.env x=pure x:=by intro _;rfl):PSD X G (.For tg it body [] pos) (forS src fg gb):=by
 rintro A0 He π s σ H D I ⟨ρ,o,⟨A,w⟩,e,k⟩
 cases e1:src ρ with
 | none=>simp[forS,e1] at e
 | some ds=>
  have e':forF (λ d ρ=>(fg d ρ).bind gb) ds ρ=some o:=by
   have e2:forF (tgB fg gb) ds ρ=some o:=by simpa [forS,e1] using e
   exact e2
  have hb':PSs X body (λ D σ H=>∃ A0 He,tS G A0 He gb D σ H):=λ π s σ H D I ⟨A0,He,q⟩=>@hb A0 He π s σ H D I q;have hg':PG X tg (λ v σ H Q=>∃ A0 He,tGD G A0 He fg v σ H Q):=λ π s σ H v u Q I r ⟨A0,He,q⟩=>@hg A0 He π s σ H v u Q I r q;refine Yr hp hc (@hi A) hg' hb' hs π s σ H D I ⟨ρ,ds,w.ok,e1,λ J H1 s1 sr=>?_⟩;obtain⟨sHe,w2⟩:=(w.mono s1).here;have k2:=k.base sHe w.l0;generalize hHf:hid (A.filter λ a=>decide (a∉A0)) H1=Hf at sHe w2 k2;refine⟨λ i m σ' H'=>m=ds.length-i/\i<=ds.length/\∃ ρ',OkS G A0 Hf σ' H' ρ'/\forF (λ d ρ=>(fg d ρ).bind gb) (ds.drop i) ρ'=some o,⟨ds.length,by simp,z0P _,ρ,⟨A,w2⟩,by simpa using e'⟩,?_⟩;rintro i m σ3 H3 ⟨rfl,hil,ρ3,⟨B,w3⟩,e3⟩;have pl:Same (hid A H1) (hid B H3):=by rw[<-hHf] at w3;exact OkW.plain w.sub w3
  by_cases hlt:i<ds.length
  ·right;have hd:ds[i]?=some ds[i]:=by simp[hlt]
   have ed:ds.drop i=ds[i]::ds.drop (i+1):=z1A hlt;rw[ed] at e3;unfold forF at e3;refine⟨sr.go i H3 (pl.trans BK) hlt,λ σ' H'=>∃ ρ',OkS G A0 Hf σ' H' ρ'/\forF (λ d ρ=>(fg d ρ).bind gb) (ds.drop (i+1)) ρ'=some o,λ σ' H' q=>⟨ds.length-(i+1),by omega,rfl,hlt,q⟩,λ x H' y=>?_⟩;obtain⟨sy,rx⟩:=sr.yld i H3 x H' _ (pl.trans BK) hd y;refine⟨A0,Hf,B,ρ3,ds[i],?_⟩;cases e4:fg ds[i] ρ3 with
   | none=>simp[e4] at e3
   | some ρ4=>
    refine⟨ρ4,w3.mono sy,rx B w3.ok.live pl,rfl,λ σ5 H5 ok5=>⟨A0,Hf,ρ4,?_⟩⟩;cases e5:gb ρ4 with
    | none=>simp[e4,e5] at e3
    | some o5=>
     refine⟨o5,ok5,rfl,?_⟩;cases o5 with
     | nx ρ5=>
      simp only[e4,e5,z0c] at e3;exact λ σ' H' ok'=>⟨ρ5,ok',e3⟩
     | ct ρ5=>
      simp only[e4,e5,z0c] at e3;exact λ σ' H' ok'=>⟨ρ5,ok',e3⟩
     | bk ρ5=>
      simp only[e4,e5,z0c] at e3;cases e3;exact λ σ' H' ok'=>k2 σ' H' ok'
     | rt d5 ρ5=>
      simp only[e4,e5,z0c] at e3;cases e3;exact k2
  ·left;have ei:i=ds.length:=by omega
   subst ei;rw[List.drop_length] at e3;cases e3;exact⟨sr.stop _ H3 (pl.trans BK) (z04 _),k2 σ3 H3 ⟨B,w3⟩⟩
theorem d8 (n:Nat) (hp:PassesOwn (model X.prog X.w) X.A X.env X.xe) (ht:PFT X G c ga) (hb:PSDs X G body gb):PSD X G (.While c body [] pos) (JT ga gb n):=by
 rintro A0 He π s σ H D I ⟨ρ,o,ok,e,k⟩
 have ht':PT X c (λ σ H Q=>∃ A,tFT G A ga σ H Q):=λ π s σ H Q I ⟨A,q⟩=>@ht A π s σ H Q I q;refine gJ hp ht' (@hb A0 He) π s σ H D I ⟨λ m σ' H'=>∃ ρ',OkS G A0 He σ' H' ρ'/\JT ga gb m ρ'=some o,⟨n,ρ,ok,e⟩,?_⟩;rintro m σ1 H1 ⟨ρ1,⟨A,w1⟩,e1⟩;cases m with
 | zero=>cases e1
 | succ m=>
  unfold JT at e1;cases e2:ga ρ1 with
  | none=>simp[e2] at e1
  | some t=>
   refine⟨A,ρ1,t,w1.ok,e2,λ H2 s2=>?_⟩;cases t with
   | false=>
    refine iteF ?_;simp only[e2] at e1;cases e1;exact k σ1 H2 ⟨A,w1.mono s2⟩
   | true=>
    refine iteT ⟨λ σ' H'=>∃ ρ',OkS G A0 He σ' H' ρ'/\JT ga gb m ρ'=some o,λ σ' H' q=>⟨m,z1M m,q⟩,ρ1,?_⟩;simp only[e2] at e1;cases e3:gb ρ1 with
    | none=>simp[e3] at e1
    | some o3=>
     refine⟨o3,⟨A,w1.mono s2⟩,rfl,?_⟩;cases o3 with
     | nx ρ5=>simp only[e3] at e1;exact λ σ' H' ok'=>⟨ρ5,ok',e1⟩
     | ct ρ5=>simp only[e3] at e1;exact λ σ' H' ok'=>⟨ρ5,ok',e1⟩
     | bk ρ5=>simp only[e3] at e1;cases e1;exact λ σ' H' ok'=>k σ' H' ok'
     | rt d5 ρ5=>simp only[e3] at e1;cases e1;exact k
end
def spD (G:Gx) (g:List D->Option D):Sp:=λ vs H Q _=>∃ A ds d,(∀ a∈A,Nt (H a))/\RepL G (hid A H) vs ds/\g ds=some d/\∀ v H',Same H H'->Rep G (hid A H') v d->Q v H'
section
variable {G:Gx}{a:Expr}{es:List Expr}{fs:FA}{p:Pos}
theorem wg {k:Nat}{f:Addr}{g:List D->Option D}{x:Str}(F:FnOk X.prog X.w X.K X.mg X.base CX0 k f fd ps (spD G g)) (hr:Room k X.A) (hg:Gl X x) (hm:X.mg x=some (.ref f)) (hk:PySem.W.keepIn X.K (.ref f)=true)
  (hb:Binds X.K fd ps []) (ha:PFA X G (a::es) fs) (hdb:(x==("__debug__":Str))=false:=by decide) (he:starEach (a::es) X.env=(false,eval a X.env)::starEach es X.env:=by rfl) (hpl:(backTo pos (starEach es X.env)).any (·.1)=false:=by rfl) :
  PF X G (.Call (.Name x p) (a::es) [] pos) (An g fs):=λ A=>Ca (aC F hr hg hm hk hb .nil iV (@ha A) hdb he hpl)<|by
 rintro σ H Q ⟨ρ,d,o,e,k⟩
 unfold An at e;cases e1:fs ρ with
 | none=>simp[e1] at e
 | some ds=>
  have e':g ds=some d:=by simpa [e1] using e
  refine⟨ρ,ds,o,e1,λ vs H1 s1 r1=>⟨A,ds,d,(o.mono s1).live,by rw[z0t];exact r1,e',λ v H2 s2 r2=>k v H2 (s1.trans s2) r2⟩⟩
end
theorem R_ {G:Gx}{ds:List D}(live:∀ a∈A,Nt (H a)) (r:RepL G (hid A H) vs ds) (hn:vs.length<=N.length):OkS G A H (start N vs) H (FN N.length ds):=by
 have key:∀ (i:Nat) (z:Slot),(FN N.length ds)[i]?=some z->(∃ d,z=.fz d/\ds[i]?=some d)∨z=.un:=λ i z h=>by
  unfold FN at h
  by_cases hi:i<ds.length
  ·rw[z1b (by simpa using hi),z0g] at h;cases e:ds[i]? with
   | none=>rw[e] at h;cases h
   | some d=>rw[e] at h;exact .inl ⟨d,(z0h h).symm,rfl⟩
  ·rw[z1j (by simpa using z1f.mp hi),List.getElem?_replicate] at h;split at h
   ·exact .inr (z0h h).symm
   ·cases h
 refine⟨A,Same.refl H,λ _ h=>h,λ a h=>.inl h,λ a ha=>(live a ha).ne,⟨?_,live,λ i d h=>?_,λ i d h=>?_,λ i j d e a h _ _ _=>?_⟩,λ i d a h _=>?_,λ x d _ h=>?_⟩
 ·delta L2.start FN;rw[z0u,z0u,z02,z02,List.length_replicate,List.length_replicate,r.1]
 ·rcases key i _ h with ⟨d',e,hd⟩ | e
  ·cases e;obtain⟨v,h1,h2⟩:=r.get hd;refine⟨v,?_,h2⟩;delta L2.start;rw[z1b (by rw[z02];exact (z0C.mp h1).1),z0g,h1];rfl
  ·cases e
 ·rcases key i _ h with ⟨d',e,hd⟩ | e
  ·cases e
  ·cases e
 ·rcases key i _ h with ⟨d',e,hd⟩ | e
  ·cases e
  ·cases e
 ·rcases key i _ h with ⟨d',e,hd⟩ | e
  ·cases e
  ·cases e
 ·rcases key 0 _ h with ⟨d',e,hd⟩ | e
  ·cases e
  ·cases e
section
variable {G:Gx}{a b c:Expr}{fa fb fc:FE}{p2 px:Pos}{t:Str}{elt iter:Expr}{ifs:List Expr}{ga:FT}{fe:FE}{src:FI}
def PFTs (X:Cx) (G:Gx) (ifs:List Expr) (f:FT):Prop:=∀ ⦃A⦄,PTs X ifs (tFT G A f)
theorem Dv:PFTs X G [] allT:=by
 rintro A π s σ H Q I ⟨ρ,b,o,e,k⟩
 cases e;exact oH π s σ H Q I (k H (Same.refl H))
theorem Ga (h:PFT X G a ga):PFTs X G [a] ga:=λ A=>oJ (@h A)
theorem Okp.fill {Hc:Hp}{ρ:Rho}(o:Okp G A σ H ρ) (s:Same H Hc) (hp:H p=none) (hc:Nt (Hc p)):Okp G (p::A) σ Hc ρ:=by
 have sm:Same (hid A H) (hid (p::A) Hc):=λ b u h=>by
  unfold hid at h;split at h
  ·cases h
  ·rename_i hb;rw[Bp]
   ·exact s b u h
   ·intro z
    rcases z0d.mp z with z | z
    ·rw[z,hp] at h;cases h
    ·exact hb z
 refine⟨o.len,λ a ha=>?_,λ i d h=>?_,λ i d h=>?_,o.inj⟩
 ·rcases z0d.mp ha with z | z
  ·rw[z];exact hc
  ·exact (o.mono s).live a z
 ·obtain⟨v,h1,h2⟩:=o.fz i d h;exact⟨v,h1,h2.mono sm⟩
 ·obtain⟨a,h1,h2,h3⟩:=o.ow i d h;refine⟨a,h1,z0b _ h2,?_⟩;cases d with
  | lst ds=>obtain⟨xs,q1,q2⟩:=h3;exact⟨xs,s _ _ q1,q2.mono sm⟩
  | dk ds=>obtain⟨xs,q1,q2,q3⟩:=h3;exact⟨xs,s _ _ q1,q2,q3.mono sm⟩
  | dt ds=>obtain⟨xs,q1,q2,q3⟩:=h3;exact⟨xs,s _ _ q1,q2,q3.mono sm⟩
  | ob c gs=>obtain⟨C,dx,xs,q1,q2,q3⟩:=h3;exact⟨C,dx,xs,s _ _ q1,q2,q3.mono sm⟩
  | _=>exact h3.elim
theorem Okp.snoc {ρ:Rho}{d:D}(o:Okp G A σ H ρ) (r:Rep G (hid A H) v d):Okp G A (σ++[some v]) H (ρ++[.fz d]):=by
 have key:∀ (j:Nat) (z:Slot),(ρ++[.fz d])[j]?=some z->(j=ρ.length/\z=.fz d)∨(j<ρ.length/\ρ[j]?=some z):=λ j z h=>by
  by_cases hj:j<ρ.length
  ·rw[z1b hj] at h;exact .inr ⟨hj,h⟩
  ·rw[z1j (z1f.mp hj)] at h;cases q:j-ρ.length with
   | zero=>rw[q] at h;exact .inl ⟨by omega,(z0h h).symm⟩
   | succ n=>rw[q] at h;cases h
 have keyS:∀ (j:Nat),j<ρ.length->(σ++[some v])[j]?=σ[j]?:=λ j hj=>z1b (by rw[o.len];exact hj);refine⟨by rw[z0u,z0u,o.len];rfl,o.live,λ j e h=>?_,λ j e h=>?_,λ j k e f p h1 h2 h3 h4=>?_⟩
 ·rcases key j _ h with ⟨hj,hz⟩ | ⟨hj,hz⟩
  ·cases hz;subst hj;exact⟨v,by rw[z1j (by rw[o.len];exact z04 _),o.len,Nat.sub_self];rfl,r⟩
  ·obtain⟨u,q1,q2⟩:=o.fz j e hz;exact⟨u,by rw[keyS j hj];exact q1,q2⟩
 ·rcases key j _ h with ⟨hj,hz⟩ | ⟨hj,hz⟩
  ·cases hz
  ·obtain⟨u,q1,q2⟩:=o.ow j e hz;exact⟨u,by rw[keyS j hj];exact q1,q2⟩
 ·rcases key j _ h1 with ⟨_,hz⟩ | ⟨hj,hz⟩
  ·cases hz
  ·rcases key k _ h2 with ⟨_,hz'⟩ | ⟨hk,hz'⟩
   ·cases hz'
   ·rw[keyS j hj] at h3;rw[keyS k hk] at h4;exact o.inj j k e f p hz hz' h3 h4
theorem az {Q:VK}(h:tF G A (BJ src ga fe) σ H Q):aj (tI G A true src) (λ σ H Q=>∃ A,tFT G A ga σ H Q) (λ σ H Q=>∃ A,tF G A fe σ H Q) σ H Q:=by
 obtain⟨ρ,d,o,e,k⟩:=h;unfold BJ at e;cases e1:src ρ with
 | none=>simp[e1] at e
 | some ds=>
  rw[e1] at e;have e':(if ds.length<=sizeLine then (Bo ρ ga fe ds).map D.lst else none)=some d:=e;split at e'
  ·rename_i hz;cases e2:Bo ρ ga fe ds with
   | none=>simp[e2] at e'
   | some out=>
    simp only[e2,z0k] at e';cases e';refine⟨ρ,ds,o,e1,λ J H1 s1 sr p hp=>?_⟩;have o1:=o.mono s1;have npA:p∉A:=λ z=>(o1.live p z).ne hp;refine⟨λ i m ys Hc=>m=ds.length-i/\i<=ds.length/\Hc p=some (.lst ys)/\Same H1 Hc/\ys.length<=i/\∃ es rest,RepL G (hid (p::A) Hc) ys es/\Bo ρ ga fe (ds.drop i)=some rest/\es++rest=out,
     ⟨ds.length,by simp,z0P _,Ai,BR hp _,z04 _,[],out,RepL.nil,by simpa using e2,rfl⟩,?_⟩
    rintro i m ys Hc ⟨rfl,hil,hpc,sc,hy,es,rest,rr,er,eo⟩
    by_cases hlt:i<ds.length
    ·right;have hd:ds[i]?=some ds[i]:=by simp[hlt]
     have ed:ds.drop i=ds[i]::ds.drop (i+1):=z1A hlt;rw[ed] at er;unfold Bo at er;refine⟨sr.go i Hc sc hlt,λ x H' y=>?_⟩;obtain⟨sy,rx⟩:=sr.yld i Hc x H' _ sc hd y;have okc:Okp G (p::A) σ Hc ρ:=o1.fill sc hp (by rw[hpc];exact Nt.lst);have sm:Same (hid A H1) (hid (p::A) Hc):=λ b u h=>by
      unfold hid at h;split at h
      ·cases h
      ·rename_i hb;rw[Bp]
       ·exact sc b u h
       ·intro z
        rcases z0d.mp z with z | z
        ·rw[z,hp] at h;cases h
        ·exact hb z
     have ok2:=(okc.mono sy).snoc (rx _ okc.live sm);have hpc:=sy _ _ hpc;have rr:=rr.mono (BV sy);have sc:=sc.trans sy;cases eg:ga (ρ++[.fz ds[i]]) with
     | none=>simp[eg] at er
     | some b=>
      refine⟨p::A,_,b,ok2,eg,λ H2 s2=>?_⟩;cases b with
      | false=>
       refine iteF ⟨ds.length-(i+1),by omega,rfl,hlt,s2 _ _ hpc,sc.trans s2,Nat.le_succ_of_le hy,es,rest,rr.mono (BV s2),by simpa [eg] using er,eo⟩
      | true=>
       simp only[eg] at er;cases ee:fe (ρ++[.fz ds[i]]) with
       | none=>simp[ee] at er
       | some yd=>
        cases ec:Bo ρ ga fe (ds.drop (i+1)) with
        | none=>simp[ee,ec] at er
        | some rest'=>
         simp only[ee,ec,z0c,z0k] at er;cases er;refine iteT ⟨p::A,_,yd,ok2.mono s2,ee,λ yv H3 s3 r3=>?_⟩;have hp3:=s3 _ _ (s2 _ _ hpc);refine⟨hp3,by omega,ds.length-(i+1),by omega,rfl,hlt,Ai,λ b u q=>?_,by rw[z0u];simp;omega,es++[yd],rest',?_,ec,by rw[List.append_assoc];exact eo⟩
         ·have hb:b≠p:=Aw q hp;rw[Al hb];exact s3 _ _ (s2 _ _ (sc _ _ q))
         ·rw[CQ z0i];exact (rr.mono (BV (s2.trans s3))).append (.cons r3 .nil)
    ·left;have ei:i=ds.length:=by omega
     subst ei;rw[List.drop_length] at er;simp only[Bo] at er;cases er;rw[z0t] at eo;subst eo;refine⟨sr.stop _ Hc sc (z04 _),k _ Hc (s1.trans sc) ?_⟩;have q:=rr.mono (GR (A:=A) λ a ha=>z0b _ ha);exact .lst (.of (by rw[Bp npA];exact hpc)) q.1 q.2
  ·cases e'
theorem Do (N':List Str) (eN:Bv t X.N++[t]=N') (c:CompOk X scope t) (hc:X.calm=true) (hi:PFI X G true (.Name t px) iter src) (hI:∀ s2 H2 fp,PFTs { Fo X scope t s2 H2 fp with N:=N' } G ifs ga) (hE:∀ s2 H2 fp,PF { Fo X scope t s2 H2 fp with N:=N' } G elt fe)
  (hs:∀ x,foldedSetIterable iter X.env x=pure x:=by intro _;rfl):PF X G (.ListComp elt [⟨.Name t px,iter,ifs,0⟩] scope pos) (BJ src ga fe):=by
 subst eN;intro A;refine Ca (oK (tc:=λ σ H Q=>∃ A,tFT G A ga σ H Q) (te:=λ σ H Q=>∃ A,tF G A fe σ H Q) c hc (@hi A) (λ s2 H2 fp=>?_) (λ s2 H2 fp=>?_) hs) λ _ _ _ h=>az h
 ·exact λ π s σ H Q I ⟨A,q⟩=>hI s2 H2 fp π s σ H Q I q
 ·exact λ π s σ H Q I ⟨A,q⟩=>hE s2 H2 fp π s σ H Q I q
theorem Ks {y:Str}(N':List Str) (eN:Bv t X.N++[t]=N') (c:CompOk X scope t) (hc:X.calm=true) (hN:X.N.Nodup) (hi':X.N[i]?=some y) (hx:Loc X.env.scope y) (hi:PFI X G true (.Name t px) iter src)
  (hI:∀ s2 H2 fp,PFTs { Fo X scope t s2 H2 fp with N:=N' } G ifs ga) (hE:∀ s2 H2 fp,PF { Fo X scope t s2 H2 fp with N:=N' } G elt fe) (hsw:swapsWith (.ListComp elt [⟨.Name t px,iter,ifs,0⟩] scope pos) (some (.Name y py)) spos.line X.env=pure true:=by rfl)
  (hf:X.fn y=true∨X.env.scope.names.lookup y=some .local :=by first | exact .inl rfl | exact .inr rfl | assumption) (hs:∀ x,foldedSetIterable iter X.env x=pure x:=by intro _;rfl) :
  PSD X G (.Assign [.Name y py] (.ListComp elt [⟨.Name t px,iter,ifs,0⟩] scope pos) spos) (setF i (BJ src ga fe)):=by
 subst eN;intro A0 He π s σ H D I ⟨ρ,o,⟨A,w⟩,e,k⟩;refine ak (tc:=λ σ H Q=>∃ A,tFT G A ga σ H Q) (te:=λ σ H Q=>∃ A,tF G A fe σ H Q) c hc hN hi' hx (@hi A) (λ s2 H2 fp=>?_) (λ s2 H2 fp=>?_) hsw hf hs π s σ H D I (az (jM w e k))
 ·exact λ π s σ H Q I ⟨A,q⟩=>hI s2 H2 fp π s σ H Q I q
 ·exact λ π s σ H Q I ⟨A,q⟩=>hE s2 H2 fp π s σ H Q I q
end
section
variable {A:Around}{R:Result->Shared->Prop}{I:Addr}{wr:List Addr}{P:Nat->Value->Prop}{Sx:Nat->Heap->Prop}
end
section
variable {A:Around}{l:Addr}{xs:Array (Int×Tok)}
end
section
variable {G:Gx}{a b:Expr}{fa fb:FE}{p kpos:Pos}
theorem Np {H:Hp}:∀ {ds:List D}{xs:List V}{ns:List Str},RepL G H xs ds->Ha ds=some ns->xs=ns.map V.str
 | [],xs,ns,r,h=>by cases h;rw[r.nil_inv];rfl
 | d::ds,xs,ns,r,h=>by
  obtain⟨x,ys,rfl,r1,r2⟩:=r.uncons;cases d with
  | str i=>
   simp only[Ha] at h;cases e:Ha ds with
   | none=>simp[e] at h
   | some ms=>
    simp only[e,z0k] at h;cases h;cases r1;rw[Np r2 e];rfl
  | _=>simp[Ha] at h
theorem SJ:∀ {us:List Value},Vals (ns.map V.str) us->StrsAre us ns:=by
 induction ns with
 | nil=>intro us r;cases r;exact .nil
 | cons n ns ih=>
  intro us r;rw[z03] at r;cases r with
  | cons r1 r2=>
   obtain⟨tk,rfl⟩:=r1;exact .cons n tk (ih r2)
theorem o8:MtR X "str.join" (λ x vs H Q=>∃ z p ys,x=.str z/\vs=[.ref p]/\(SqL X.K H p (ys.map V.str)∨SqT X.K H p (ys.map V.str))/\(ys.map (·.length)).sum+ys.length*z.length<=16777216/\Q (.str (Txt.join z ys)) H):=by
 intro π s σ H x xs v us Q I rx rs h;obtain⟨z,p,ys,rfl,rfl,hs,hz,k⟩:=h;obtain⟨t,rfl⟩:=rx;obtain⟨u,rfl,ru⟩:=vals1 rs;cases ru
 rcases hs with hs | hs
 ·obtain⟨its,rv,pl,_⟩:=I.list hs;exact join_list pl.isList (by simpa using SJ rv) hz λ t' tk=>⟨.str _,H,I.tok _,⟨t',rfl⟩,k⟩
 ·obtain⟨its,rv,pl,_⟩:=I.tuple hs;exact join_tuple (show s.heap.IsTuple p its.toArray from pl) (by simpa using SJ rv) hz λ t' tk=>⟨.str _,H,I.tok _,⟨t',rfl⟩,k⟩
theorem o9 (hG:G.K=X.K) (ha:PU X G a fa) (hb:PU X G b fb) (hbase:attributeBase a "join" X.env (eval a X.env)=eval a X.env:=by rfl)
  (hfew:((backTo pos (starEach [b] X.env)).all (λ x=>!x.1)&&(backToKw pos (keywordEach [] X.env)).all (λ x=>x.1.isSome)&&decide ([b].length+([]:List Keyword).length+(if ([]:List Keyword).isEmpty then 0 else 1)<30))=true:=by rfl)
  (hline:(apos.endLine==pos.line)=true:=by rfl) (hs:starEach [b] X.env=[(false,eval b X.env)]:=by rfl) :
  PF X G (.Call (.Attribute a "join" apos) [b] [] pos) (bF aH fa fb):=λ A=>Ca (iB PySem.F.plainAttrs_str PySem.F.slot_str_join PySem.F.type_str_join o8 (@ha A) (BZ (@hb A) Cz hs) hbase hfew hline hs rfl)<|by
 rintro σ H Q ⟨ρ,d,o,e,k⟩
 obtain⟨dx,dy,e1,e2,e3⟩:=WP e;unfold aH at e3;split at e3
 ·rename_i z ds;cases ei:Ha ds with
  | none=>simp[ei] at e3
  | some ys=>
   simp only[ei,z0c] at e3;split at e3
   ·rename_i hz;cases e3;refine⟨ρ,_,o,e1,λ v H1 s1 r1=>?_⟩;cases r1.str;refine⟨rfl,ρ,_,o.mono s1,e2,λ u H2 s2 r2=>?_⟩;obtain⟨q,xs,rfl,h1,rr⟩:=r2.lst;have ex:=Np rr ei;subst ex;exact⟨z,q,ys,rfl,rfl,by rw[<-hG];exact .inl h1,hz,by rw[show Txt.join z ys=Str.join z ys from StrLaws.glued_eq_join z ys];exact k _ H2 (s1.trans s2) (.str _)⟩
   ·cases e3
 ·rename_i z ds;cases ei:Ha ds with
  | none=>simp[ei] at e3
  | some ys=>
   simp only[ei,z0c] at e3;split at e3
   ·rename_i hz;cases e3;refine⟨ρ,_,o,e1,λ v H1 s1 r1=>?_⟩;cases r1.str;refine⟨rfl,ρ,_,o.mono s1,e2,λ u H2 s2 r2=>?_⟩;obtain⟨q,xs,rfl,h1,rr⟩:=r2.tup;have ex:=Np rr ei;subst ex;exact⟨z,q,ys,rfl,rfl,by rw[<-hG];exact .inr h1,hz,by rw[show Txt.join z ys=Str.join z ys from StrLaws.glued_eq_join z ys];exact k _ H2 (s1.trans s2) (.str _)⟩
   ·cases e3
 ·cases e3
theorem o_ (K:zFr) (n T:String):PySem.W.kitOne K (.type n) (.type T)=PySem.W.kitOne [] (.type n) (.type T):=rfl
def TyX (K:zFr) (H:Hp) (x:V) (n:String):Prop:=
 TyOf K H x (.type n)∨(n="list"/\∃ a xs,x=.ref a/\SqL K H a xs)∨(n="tuple"/\∃ a xs,x=.ref a/\SqT K H a xs)
theorem uh {d:D}{n:String}(r:RepT G A H v d) (h:tyD d=some n):TyX G.K H v n:=by
 cases d with
 | non=>cases h;rw[r.non];exact .inl .non
 | bl b=>cases h;rw[r.bl];exact .inl (.bl b)
 | int b=>cases h;rw[r.int];exact .inl (.int b)
 | str b=>cases h;rw[r.str];exact .inl (.str b)
 | lst ds=>cases h;obtain⟨a,xs,e,q,_⟩:=r.lst;exact .inr (.inl ⟨rfl,a,xs,e,q⟩)
 | tup ds=>cases h;obtain⟨a,xs,e,q,_⟩:=r.tup;exact .inr (.inr ⟨rfl,a,xs,e,q⟩)
 | _=>cases h
theorem jN (T:String):Eb X (.builtin "isinstance") (λ xs H Q=>∃ x n b,xs=[x,.ty T]/\TyX X.K H x n/\PySem.W.kitOne X.K (.type n) (.type T)=some b/\Q (.bl b) H):=by
 intro π s σ H xs us Q I r h;obtain⟨x,n,b,rfl,ty,e,k⟩:=h;obtain⟨u,c,rfl,ru,rc⟩:=vals2 r;cases rc
 rcases ty with ty | ⟨rfl,a,ys,rfl,q⟩ | ⟨rfl,a,ys,rfl,q⟩
 ·exact dX I ru ty e λ tk=>⟨.bl b,H,I.tok _,rfl,k⟩
 ·cases ru;obtain⟨its,_,p,_⟩:=I.list q;obtain⟨o,ho,hc,_⟩:=p.isList;exact z0G PySem.W.kitx_list I.kIn ⟨o,ho,hc⟩ e (λ z=>nomatch z) λ tk=>⟨.bl b,H,I.tok _,rfl,k⟩
 ·cases ru;obtain⟨its,_,p,_⟩:=I.tuple q;obtain⟨o,ho,hc,_⟩:=(show s.heap.IsTuple a its.toArray from p);exact z0G PySem.W.kitx_tuple I.kIn ⟨o,ho,hc⟩ e (λ z=>nomatch z) λ tk=>⟨.bl b,H,I.tok _,rfl,k⟩
def WY (T:String):Bool:=(["NoneType","bool","int","str","list","tuple"]:List String).all λ n=>PySem.W.kitOne [] (.type n) (.type T)==some (n==T||(n=="bool"&&T=="int"))
theorem d9 {T:String}(h:WY T=true) {d:D}{n:String}(e:tyD d=some n):PySem.W.kitOne [] (.type n) (.type T)=some (n==T||(n=="bool"&&T=="int")):=by
 unfold WY at h;rw[z0L] at h;have m:n∈(["NoneType","bool","int","str","list","tuple"]:List String):=by
  cases d<;>simp[tyD] at e<;>subst e<;>simp
 simpa using h n m
theorem ul {x t:Str}{T:String}(hT:WY T=true) (hG:G.K=X.K) (hg:Gl X x) (hm:X.mg x=none) (hv:bootBuiltins x=some (.builtin "isinstance")) (ht:Gl X t) (hmt:X.mg t=none) (hvt:bootBuiltins t=some (.type T)) (ha:PU X G a fa)
  (hn:x≠"__name__":=by decide) (hdb:(x==("__debug__":Str))=false:=by decide) (hnt:t≠"__name__":=by decide) (hdt:(t==("__debug__":Str))=false:=by decide) (he:starEach [a,.Name t tp] X.env=(false,eval a X.env)::starEach [.Name t tp] X.env:=by rfl) (he2:starEach [.Name t tp] X.env=[(false,eval (.Name t tp) X.env)]:=by rfl) :
  PF X G (.Call (.Name x p) [a,.Name t tp] [] pos) (uF (isiD T) fa):=λ A=>Ca (Kl (jN T) hg hm hv (BZ (@ha A) (BZ (Z5 (v:=.ty T) ht hmt hvt rfl hnt hdt) Cz he2) he) hn hdb he (by rw[he2];rfl))<|by
 rintro σ H Q ⟨ρ,d,o,e,k⟩
 obtain⟨dx,e1,e2⟩:=JF e;unfold isiD at e2;cases et:tyD dx with
 | none=>simp[et] at e2
 | some n=>
  simp only[et,z0k] at e2;cases e2;exact⟨ρ,dx,o,e1,λ v H1 s1 r1=>⟨v,n,_,rfl,by rw[<-hG];exact uh r1 et,by rw[o_];exact d9 hT et,k _ H1 s1 (.bl _)⟩⟩
theorem jO:WY "bool"=true:=by decide +kernel
end
theorem G5:bootBuiltins "len"=some (.builtin "len"):=by decide +kernel
theorem ZG:bootBuiltins "max"=some (.builtin "max"):=by decide +kernel
theorem um:bootBuiltins "min"=some (.builtin "min"):=by decide +kernel
theorem Bu:bootBuiltins "isinstance"=some (.builtin "isinstance"):=by decide +kernel
theorem Pq:bootBuiltins "sorted"=some (.builtin "sorted"):=by decide +kernel
theorem pA:bootBuiltins "bool"=some (.type "bool"):=by decide +kernel
theorem Nq:bootBuiltins "list"=some (.type "list"):=by decide +kernel
theorem pB:bootBuiltins "dict"=some (.type "dict"):=by decide +kernel
theorem ZJ:bootBuiltins "set"=some (.type "set"):=by decide +kernel
def Wa (N:List Str) (sc scope:Scope) (t:Str):Bool:=
 scope.names.all (λ y=>y.2 != .cell)&&scope.kind==.function&&scope.names.all (λ y=>y.2 != .local ||scope.names.lookup y.1==some .local)&&scope.names.lookup t==some .local
  && scope.names.all (λ y=>y.2 != .local ||y.1==t||!N.contains y.1)&&scope.names.all (λ y=>y.2 != .free ||sc.names.lookup y.1==some .cell ||sc.names.lookup y.1==some .free)&&scope.names.all (λ y=>y.1 != Str.empty)&&decide (Bv t N++[t]).Nodup
theorem d_ {t:Str}(hN:X.N=N) (hs:X.env.scope=sc) (h:Wa N sc scope t=true):CompOk X scope t:=by
 unfold Wa at h;simp only[z0x,z0L,z1Q,z0N,bne_iff_ne,Bool.or_eq_true,ne_eq] at h;obtain⟨⟨⟨⟨⟨⟨⟨h1,h2⟩,h3⟩,h4⟩,h5⟩,h6⟩,h7⟩,h8⟩:=h;refine⟨h1,h2,λ y hy e=>?_,h4,λ y hy e=>?_,λ y hy e=>?_,h7,by rw[hN];exact h8⟩
 ·rcases h3 y hy with z | z
  ·exact absurd e z
  ·exact z
 ·rcases h5 y hy with (z | z) | z
  ·exact absurd e z
  ·exact .inl z
  ·right;rw[hN];simpa using z
 ·have hk:∀ x,X.env.kindOf x=sc.names.lookup x:=λ x=>by rw[<-hs];rfl
  rw[hk]
  rcases h6 y hy with (z | z) | z
  ·exact absurd e z
  ·exact .inl z
  ·exact .inr z
theorem RP {K:zFr}{base:Heap}{G:Gx}{k:Nat}{f:Addr}:FnOk P w K mg base CX0 k f fd ps (spD G λ _=>none):=by
 have no:∀ vs H Q E,¬ spD G (λ _=>none) vs H Q E:=λ vs H Q E ⟨_,_,_,_,_,e,_⟩=>nomatch e;exact⟨λ vs H Q E h=>absurd h (no vs H Q E),λ A outer s H args us vs Q E _ _ _ _ h=>absurd h (no vs H Q E)⟩
theorem U3 {G:Gx}{sl:Array (Option Value)}{its:Array Value}{xs:List Str}(h:G.K.lookup a=some ⟨.type "tuple",od,.seq its n,sl⟩) (hz:its.size<=sizeLine) (r:Vals (xs.map V.str) its.toList):Rep G (λ _=>none) (.ref a) (.tup (xs.map .str)):=by
 refine .tup (xs:=xs.map V.str) (.inr ⟨_,its,n,h,rfl,rfl,hz,r⟩) (by simp) λ i x d h1 h2=>?_;rw[z0g] at h1 h2;cases e:xs[i]? with
 | none=>rw[e] at h1;cases h1
 | some z=>rw[e] at h1 h2;cases h1;cases h2;exact .str z
end PV
namespace PySem
theorem Wb (l:Addr) (items:Array Value) (n:Nat) (b:Addr) (items2:Array Value) (n2:Nat) (dd2:Option Addr) (sl2:Array (Option Value)) (hc0:¬(!items.isEmpty&&Builtin.List.listTooLong (items.size+items2.size))=true) (hc1:items.size<=sizeLine) (hs2:items.size+items2.size<=sizeLine+1) :
  Meets (Builtin.«list.extend» ⟨[.ref l,.ref b],[]⟩) (λ _ R s=>s.heap.get? l=some { cls:=.type "list",dict:=none,data:=.seq items n,slots:=#[] }/\s.heap.get? b=some { cls:=.type "list",dict:=dd2,data:=.seq items2 n2,slots:=sl2 }/\R (.ok (.ret Value.none)) { s with heap:=s.heap.update l (Obj.mapSeq λ x=>x++items2),toks:=s.toks }):=
 .of_wp λ prog w A R s h=>by
  obtain⟨hp,g,d,tk,os⟩:=s;obtain⟨hl,hb,h⟩:=h;have f1:=AutoSeq1.idx_int;have f2:=AutoSeq1.sub_tuple_tuple;have f3:=AutoSeq1.sub_list_list;have f4:=AutoSeq1.sub_tuple_list;have f5:=AutoSeq1.sub_list_tuple;have both:=(Array.size_append (xs:=items) (ys:=items2))▸hs2
  wp_walk using (wpAny_updateSeq hl rfl (hz:=hc1) (_hz':=both)),AutoSeq1.wpAny_loadPart' hl,AutoSeq1.wpAny_loadPart' hb;exact⟨_,rfl,h⟩
end PySem
namespace PV
open PySem PySem.Spec L2
open PyProof.Rows hiding St
section
variable {G:Gx}{a b c:Expr}{fa fb fc:FE}{p2 px:Pos}{es:List Expr}{fs:FA}
def tN (G:Gx) (A:List Addr) (f:FE):TE:=λ σ H Q=>∃ ρ d,Okp G A σ H ρ/\f ρ=some d/\∀ p H',Same H H'->H p=none->Top G (p::A) H' p d->Q (.ref p) H'
def PN (X:Cx) (G:Gx) (e:Expr) (f:FE):Prop:=∀ ⦃A⦄,PE X e (tN G A f)
theorem Jo (s:Same H H') (hp:H p=none):Same (hid A H) (hid (p::A) H'):=λ b u h=>by
 unfold hid at h;split at h
 ·cases h
 ·rename_i hb;rw[Bp]
  ·exact s b u h
  ·intro z
   rcases z0d.mp z with z | z
   ·rw[z,hp] at h;cases h
   ·exact hb z
theorem jP (h:PFA X G es fs):PN X G (.List es pos) (lstF fs):=λ A=>Ca (gY (@h A))<|by
 rintro σ H Q ⟨ρ,d,o,e,k⟩
 unfold lstF at e;cases e1:fs ρ with
 | none=>simp[e1] at e
 | some ds=>
  rw[e1] at e;have e':(if ds.length<=sizeLine then some (D.lst ds) else none)=some d:=e;split at e'
  ·rename_i hz;cases e';exact⟨ρ,ds,o,e1,λ vs H1 s1 r1=>⟨by rw[r1.1];exact hz,λ p hp=>k p _ (s1.trans (BR hp _)) (s1.free hp) ⟨vs,Ai,r1.mono (Jo (BR hp _) hp)⟩⟩⟩
  ·cases e'
theorem Top.live {d:D}(t:Top G A H q d):Nt (H q):=by
 cases d with
 | lst ds=>obtain⟨xs,q1,q2⟩:=t;rw[q1];exact Nt.lst
 | dk ds=>obtain⟨xs,q1,q2,q3⟩:=t;rw[q1];exact Nt.dK
 | dt ds=>obtain⟨xs,q1,q2,q3⟩:=t;rw[q1];exact Nt.dT
 | ob c gs=>obtain⟨C,dx,xs,q1,q2,q3⟩:=t;rw[q1];exact Nt.ins
 | _=>exact t.elim
theorem DK {α:Type}{l:List α}{x z:α}(h:(l.set i x)[j]?=some z):(j=i/\z=x/\i<l.length)∨(j≠i/\l[j]?=some z):=by
 by_cases hj:j=i
 ·subst hj
  by_cases hl:j<l.length
  ·rw[z12 hl] at h;exact .inl ⟨rfl,(z0h h).symm,hl⟩
  ·rw[z1P (by simpa using z1f.mp hl)] at h;cases h
 ·rw[z0v (Ne.symm hj)] at h;exact .inr ⟨hj,h⟩
theorem OkW.setW {ρ:Rho}{d:D}(w:OkW G A0 He A σ H ρ) (s:Same H H') (hp:H p=none) (t:Top G (p::A) H' p d) (i:Nat) (hi0:i≠0):OkW G A0 He (p::A) (σ.set i (some (.ref p))) H' (ρ.set i (.ow d)):=by
 have hf:=w.ok.fill (Hc:=H') s hp t.live;have hep:He p=none:=w.same.free hp;have npA:p∉A:=λ z=>(w.ok.live p z).ne hp;refine⟨w.same.trans s,λ a ha=>z0b _ (w.sub a ha),λ a ha=>?_,w.l0,⟨by rw[z0W,z0W];exact hf.len,hf.live,λ j e h=>?_,λ j e h=>?_,λ j k e f q h1 h2 h3 h4=>?_⟩,λ j e q h1 h2=>?_,λ x e hx h0=>by rw[z0v hi0] at h0 ⊢;exact w.lt x e hx h0⟩
 ·rcases z0d.mp ha with z | z
  ·rw[z];exact .inr hep
  ·exact w.fr a z
 ·rcases DK h with ⟨_,hz,_⟩ | ⟨hj,hz⟩
  ·cases hz
  ·obtain⟨v,q1,q2⟩:=hf.fz j e hz;exact⟨v,by rw[z0v (Ne.symm hj)];exact q1,q2⟩
 ·rcases DK h with ⟨hj,hz,hl⟩ | ⟨hj,hz⟩
  ·cases hz;subst hj;exact⟨p,by rw[z12 (by rw[w.ok.len];exact hl)],z0i,t⟩
  ·obtain⟨v,q1,q2,q3⟩:=hf.ow j e hz;exact⟨v,by rw[z0v (Ne.symm hj)];exact q1,q2,q3⟩
 ·have no:∀ (m:Nat) (g:D),ρ[m]?=some (.ow g)->σ[m]?=some (some (.ref q))->q≠p:=λ m g a1 a2 z=>by
   obtain⟨v,b1,b2,_⟩:=w.ok.ow m g a1;rw[a2] at b1;cases b1;exact npA (z▸b2)
  rcases DK h1 with ⟨hj,_,hl⟩ | ⟨hj,hz⟩
  ·rcases DK h2 with ⟨hk,_,_⟩ | ⟨hk,hz'⟩
   ·rw[hj,hk]
   ·exfalso;subst hj;rw[z12 (by rw[w.ok.len];exact hl)] at h3;cases h3;rw[z0v (Ne.symm hk)] at h4;exact no k f hz' h4 rfl
  ·rcases DK h2 with ⟨hk,_,hl⟩ | ⟨hk,hz'⟩
   ·exfalso;subst hk;rw[z12 (by rw[w.ok.len];exact hl)] at h4;cases h4;rw[z0v (Ne.symm hj)] at h3;exact no j e hz h3 rfl
   ·rw[z0v (Ne.symm hj)] at h3;rw[z0v (Ne.symm hk)] at h4;exact w.ok.inj j k e f q hz hz' h3 h4
 ·rcases DK h1 with ⟨hj,_,hl⟩ | ⟨hj,hz⟩
  ·subst hj;rw[z12 (by rw[w.ok.len];exact hl)] at h2;cases h2;exact λ z=>w.l0 p z hep
  ·rw[z0v (Ne.symm hj)] at h2;exact w.ow0 j e q hz h2
theorem a_ {ρ:Rho}{o:Out}{D:Ends}(hi0:i≠0) (w:OkW G A0 He A σ H ρ) (e:setW i fa ρ=some o) (k:R9 G A0 He D o):tAsg (tN G A fa) (Kd i) D σ H:=by
 unfold setW at e;cases e1:fa ρ with
 | none=>simp[e1] at e
 | some d=>
  simp only[e1,z0k] at e;cases e;exact⟨ρ,d,w.ok,e1,λ p H1 s1 hp t=>k _ _ ⟨p::A,w.setW s1 hp t i hi0⟩⟩
theorem jQ {x:Str}{p:Pos}(h:∀ te,PE X a te->PS X (.Assign [.Name x p] a pos) (tAsg te (Kd i))) (ha:PN X G a fa) (hi0:i≠0:=by decide):PSD X G (.Assign [.Name x p] a pos) (setW i fa):=λ A0 He π s σ H D I ⟨ρ,o,⟨A,w⟩,e,k⟩=>
 h _ (@ha A) π s σ H D I (a_ hi0 w e k)
theorem OkW.wr {ρ:Rho}{d0 d:D}(w:OkW G A0 He A σ H ρ) (hi:ρ[i]?=some (.ow d0)) (hs:σ[i]?=some (some (.ref p))) (t:Top G A (upd H p o) p d):OkW G A0 He A σ (upd H p o) (ρ.set i (.ow d)):=by
 obtain⟨q,h1,hA,_⟩:=w.ok.ow i d0 hi;rw[hs] at h1;cases h1;have hep:He p=none:=by
  rcases w.fr p hA with z | z
  ·exact absurd z (w.ow0 i d0 p hi hs)
  ·exact z
 have eh:hid A (upd H p o)=hid A H:=CQ hA;refine⟨λ b u h=>by rw[Al (Aw h hep)];exact w.same b u h,w.sub,w.fr,w.l0,⟨by rw[z0W];exact w.ok.len,λ b hb=>?_,λ j e h=>?_,λ j e h=>?_,λ j k e f q g1 g2 g3 g4=>?_⟩,λ j e q g1 g2=>?_,λ x e hx h0=>?_⟩
 ·by_cases z:b=p
  ·rw[z];exact t.live
  ·rw[Al z];exact w.ok.live b hb
 ·rcases DK h with ⟨_,hz,_⟩ | ⟨hj,hz⟩
  ·cases hz
  ·rw[eh];exact w.ok.fz j e hz
 ·rcases DK h with ⟨hj,hz,hl⟩ | ⟨hj,hz⟩
  ·cases hz;subst hj;exact⟨p,hs,hA,t⟩
  ·obtain⟨q,q1,q2,q3⟩:=w.ok.ow j e hz;have nq:q≠p:=λ z=>hj (w.ok.inj j i e d0 p hz hi (z▸q1) hs);refine⟨q,q1,q2,?_⟩;cases e with
   | lst ds=>obtain⟨xs,a1,a2⟩:=q3;exact⟨xs,by rw[Al nq];exact a1,by rw[eh];exact a2⟩
   | dk ds=>obtain⟨xs,a1,a2,a3⟩:=q3;exact⟨xs,by rw[Al nq];exact a1,a2,by rw[eh];exact a3⟩
   | dt ds=>obtain⟨xs,a1,a2,a3⟩:=q3;exact⟨xs,by rw[Al nq];exact a1,a2,by rw[eh];exact a3⟩
   | ob c gs=>obtain⟨C,dx,xs,a1,a2,a3⟩:=q3;exact⟨C,dx,xs,by rw[Al nq];exact a1,a2,by rw[eh];exact a3⟩
   | _=>exact q3.elim
 ·have up:∀ (m:Nat) (g:D),(ρ.set i (.ow d))[m]?=some (.ow g)->∃ g',ρ[m]?=some (.ow g'):=λ m g z=>by
   rcases DK z with ⟨hm,_,_⟩ | ⟨_,hz⟩
   ·exact⟨d0,by rw[hm];exact hi⟩
   ·exact⟨g,hz⟩
  obtain⟨e',z1⟩:=up j e g1;obtain⟨f',z2⟩:=up k f g2;exact w.ok.inj j k e' f' q z1 z2 g3 g4
 ·rcases DK g1 with ⟨hj,_,_⟩ | ⟨hj,hz⟩
  ·subst hj;exact w.ow0 j d0 q hi g2
  ·exact w.ow0 j e q hz g2
 ·rcases DK h0 with ⟨hj,_,_⟩ | ⟨_,hz⟩
  ·exact w.lt x d0 hx (by rw[hj];exact hi)
  ·exact w.lt x e hx hz
theorem Pr {ρ:Rho}{d:D}(h:ownO ρ i=some d):ρ[i]?=some (.ow d):=by
 unfold ownO at h;split at h
 ·rename_i e;cases h;exact e
 ·cases h
theorem U4 {g:D->D->Option D}{ρ:Rho}{o:Out}(h:mutF g i fa ρ=some o):∃ v x y,fa ρ=some v/\ρ[i]?=some (.ow x)/\g x v=some y/\o=.nx (ρ.set i (.ow y)):=by
 unfold mutF at h;cases e1:fa ρ with
 | none=>simp[e1] at h
 | some v=>
  cases e2:ownO ρ i with
  | none=>simp[e1,e2] at h
  | some x=>
   cases e3:g x v with
   | none=>simp[e1,e2,e3] at h
   | some y=>
    simp[e1,e2,e3] at h;exact⟨v,x,y,rfl,Pr e2,e3,h.symm⟩
theorem pC {x:Str}(hv:PE X (.Name x xpos) (tVar i)) (ha:PF X G a fa)
  (hbase:attributeBase (.Name x xpos) "append" X.env (eval (.Name x xpos) X.env)=eval (.Name x xpos) X.env:=by rfl)
  (hfew:((backTo pos (starEach [a] X.env)).all (λ x=>!x.1)&&(backToKw pos (keywordEach [] X.env)).all (λ x=>x.1.isSome)&&decide ([a].length+([]:List Keyword).length+(if ([]:List Keyword).isEmpty then 0 else 1)<30))=true:=by rfl)
  (hline:(apos.endLine==pos.line)=true:=by rfl) (hs:starEach [a] X.env=[(false,eval a X.env)]:=by rfl) (hsw:swapsWith (.Call (.Attribute (.Name x xpos) "append" apos) [a] [] pos) none p2.line X.env=pure false:=by rfl) :
  PSD X G (.Expr (.Call (.Attribute (.Name x xpos) "append" apos) [a] [] pos) p2) (mutF appL i fa):=by
 rintro A0 He π s σ H D I ⟨ρ,o,⟨A,w⟩,e,k⟩
 obtain⟨v,x0,y,e1,hi,e2,rfl⟩:=U4 e;refine HB (iB PySem.F.plainAttrs_list PySem.F.slot_list_append PySem.F.type_list_append Uo hv (BZ (@ha A) Cz hs) hbase hfew hline hs rfl) hsw π s σ H D I ?_;unfold appL at e2;split at e2
 ·rename_i ds;split at e2
  ·rename_i hz;cases e2;obtain⟨p,h1,hA,xs,h2,r⟩:=w.ok.ow i _ hi;refine⟨_,h1,.inl ⟨rfl,xs,.of h2⟩,ρ,v,w.ok,e1,λ u H1 s1 r1=>⟨p,xs,u,rfl,rfl,s1 _ _ h2,by rw[r.1];exact hz,?_⟩⟩;have w1:=w.mono s1;refine k _ _ ⟨A,w1.wr hi h1 ⟨xs++[u],Ai,?_⟩⟩;rw[CQ hA];exact (r.mono (BV s1)).append (.cons r1 .nil)
  ·cases e2
 ·cases e2
theorem ZK:MtM X "list.extend" (λ x vs H Q=>∃ l b xs zs,x=.ref l/\vs=[.ref b]/\H l=some (.lst xs)/\SqL X.K H b zs/\xs.length+zs.length<=sizeLine/\Q .non (upd H l (.lst (xs++zs)))):=by
 intro π s σ H x vs v us Q I rx rv h;obtain⟨l,b,xs,zs,rfl,rfl,hH,hB,hz,q⟩:=h;cases rx;obtain⟨u,rfl,ru⟩:=rv.one;cases ru;obtain⟨z,its,n,r,hl,e⟩:=I.lstM hH;obtain⟨its2,r2,pl2,z2⟩:=I.list hB;obtain⟨⟨cls2,dd2,data2,sl2⟩,ho2,hc2,n2,hd2⟩:=pl2.isList;simp only at hc2 hd2;subst hc2 hd2;have e1:=r.length;have e2:=r2.length;have hsz:its.toArray.size+its2.toArray.size<=sizeLine:=by rw[z0e,z0e];omega
 have hlong:¬ (!its.toArray.isEmpty&&Builtin.List.listTooLong (its.toArray.size+its2.toArray.size))=true:=by
  rw[iC hsz,Bool.and_false];exact z0j
 refine call_meets F.slot_list_extend ⟨_,e,rfl⟩ F.entry_list_extend (F.args_list_extend_2 _ _)
  (Wb l its.toArray n b its2.toArray n2 dd2 sl2 hlong (by rw[z0e];omega) (by omega)) ⟨e,ho2,?_⟩
 refine⟨.non,_,I.lset (its':=its++its2) hH e (by simp) (r.append r2) ?_,rfl,q⟩;rw[z0u];omega
theorem pD (hG:G.K=X.K) {i:Nat}{x:Str}{xpos apos:Pos}(hv:PE X (.Name x xpos) (tVar i)) (ha:PF X G a fa)
  (hbase:attributeBase (.Name x xpos) "extend" X.env (eval (.Name x xpos) X.env)=eval (.Name x xpos) X.env:=by rfl)
  (hfew:((backTo pos (starEach [a] X.env)).all (λ x=>!x.1)&&(backToKw pos (keywordEach [] X.env)).all (λ x=>x.1.isSome)&&decide ([a].length+([]:List Keyword).length+(if ([]:List Keyword).isEmpty then 0 else 1)<30))=true:=by rfl)
  (hline:(apos.endLine==pos.line)=true:=by rfl) (hs:starEach [a] X.env=[(false,eval a X.env)]:=by rfl) (hsw:swapsWith (.Call (.Attribute (.Name x xpos) "extend" apos) [a] [] pos) none p2.line X.env=pure false:=by rfl) :
  PSD X G (.Expr (.Call (.Attribute (.Name x xpos) "extend" apos) [a] [] pos) p2) (mutF extL i fa):=by
 rintro A0 He π s σ H D I ⟨ρ,o,⟨A,w⟩,e,k⟩
 obtain⟨v,x0,y,e1,hi,e2,rfl⟩:=U4 e;refine HB (iB PySem.F.plainAttrs_list PySem.F.slot_list_extend PySem.F.type_list_extend ZK hv (BZ (@ha A) Cz hs) hbase hfew hline hs rfl) hsw π s σ H D I ?_;unfold extL at e2;split at e2
 ·rename_i ds es';split at e2
  ·rename_i hz;cases e2;obtain⟨p,h1,hA,xs,h2,r⟩:=w.ok.ow i _ hi;refine⟨_,h1,.inl ⟨rfl,xs,.of h2⟩,ρ,_,w.ok,e1,λ u H1 s1 r1=>?_⟩;cases r1 with
   | @lst q zs _ hq lq rq=>
    refine⟨p,q,xs,zs,rfl,rfl,s1 _ _ h2,by rw[<-hG];exact BK.seq hq,by rw[r.1,lq];exact hz,?_⟩;have w1:=w.mono s1;refine k _ _ ⟨A,w1.wr hi h1 ⟨xs++zs,Ai,?_⟩⟩;rw[CQ hA];exact (r.mono (BV s1)).append ⟨lq,rq⟩
  ·cases e2
 ·cases e2
theorem Inv.frzK {kvs:List (Key×V)}(I:Inv X π σ H s) (e:H p=some (.dK kvs)):∃ o,Inv X π σ (upd H p (.frz o (.dK kvs))) s:=by
 obtain⟨z,hd,vs,rel,dd⟩:=rH I.hok e;obtain⟨o,es,ep,ho,h2⟩:=id dd;exact⟨o,Q0 (h':=s.heap) (t':=s.toks) I (by rw[e];exact True.intro) ⟨rfl,λ _ _=>rfl⟩ ⟨o,ho⟩ ⟨ho,z,hd,vs,rel,dd⟩⟩
theorem Inv.frzT (I:Inv X π σ H s) (e:H p=some (.dT kvs)):∃ o,Inv X π σ (upd H p (.frz o (.dT kvs))) s:=by
 obtain⟨z,hd,vs,rel,o,es,ep,ho,h3,h4,h5,h6⟩:=I.hok p _ e;refine⟨o,Q0 (h':=s.heap) (t':=s.toks) I (by rw[e];exact True.intro) ⟨rfl,λ _ _=>rfl⟩ ⟨o,ho⟩ ⟨ho,z,hd,vs,KT.keeps rel λ c ys ec=>?_,o,es,ep,ho,h3,h4,h5,h6⟩⟩;rw[Al (rC ec e (λ z=>nomatch z))];exact ec
theorem OkW.frzC {ρ:Rho}{d:D}(w:OkW G A0 He A σ H ρ) (hi:ρ[i]?=some (.ow d)) (h1:σ[i]?=some (some (.ref p))) (hA:p∈A) (hh:∀ b,b≠p->H' b=H b)
  (rp:Same (hid A H) (hid (A.filter λ b=>decide (b≠p)) H')->hid (A.filter λ b=>decide (b≠p)) H' p=H' p->Rep G (hid (A.filter λ b=>decide (b≠p)) H') (.ref p) d):OkS G A0 He σ H' (ρ.set i (.fz d)):=by
 have hn:=w.ow0 i d p hi h1;have hmem:∀ b,b∈A.filter (λ b=>decide (b≠p))↔b∈A/\b≠p:=λ b=>by simp[z0K]
 have sm:Same (hid A H) (hid (A.filter λ b=>decide (b≠p)) H'):=λ b o h=>by
  unfold hid at h ⊢;split at h
  ·cases h
  ·rename_i hb;have hbp:b≠p:=λ z=>hb (z▸hA);rw[if_neg (λ z=>hb ((hmem b).mp z).1),hh b hbp];exact h
 have rp:=rp sm (Bp λ z=>((hmem p).mp z).2 rfl);have hep:He p=none:=(w.fr p hA).resolve_left hn;refine⟨A.filter λ b=>decide (b≠p),λ b o h=>?_,λ b hb=>(hmem b).mpr ⟨w.sub b hb,λ z=>hn (z▸hb)⟩,λ b hb=>w.fr b ((hmem b).mp hb).1,w.l0,⟨by rw[z0W];exact w.ok.len,λ b hb=>?_,λ j e h=>?_,λ j e h=>?_,λ j k e f q g1 g2 g3 g4=>?_⟩,λ j e q g1 g2=>?_,λ x e hx h0=>?_⟩
 ·have hbp:b≠p:=λ z=>by rw[z,hep] at h;cases h
  rw[hh b hbp];exact w.same b o h
 ·obtain⟨z1,z2⟩:=(hmem b).mp hb;rw[hh b z2];exact w.ok.live b z1
 ·rcases DK h with ⟨hj,hz,_⟩ | ⟨hj,hz⟩
  ·cases hz;subst hj;exact⟨_,h1,rp⟩
  ·obtain⟨v,q1,q2⟩:=w.ok.fz j e hz;exact⟨v,q1,q2.mono sm⟩
 ·rcases DK h with ⟨_,hz,_⟩ | ⟨hj,hz⟩
  ·cases hz
  ·obtain⟨q,q1,q2,q3⟩:=w.ok.ow j e hz;have nq:q≠p:=λ z=>hj (w.ok.inj j i e d p hz hi (z▸q1) h1);refine⟨q,q1,(hmem q).mpr ⟨q2,nq⟩,?_⟩;cases e with
   | lst ds=>obtain⟨xs,a1,a2⟩:=q3;exact⟨xs,by rw[hh q nq];exact a1,a2.mono sm⟩
   | dk ds=>obtain⟨xs,a1,a2,a3⟩:=q3;exact⟨xs,by rw[hh q nq];exact a1,a2,a3.mono sm⟩
   | dt ds=>obtain⟨xs,a1,a2,a3⟩:=q3;exact⟨xs,by rw[hh q nq];exact a1,a2,a3.mono sm⟩
   | ob c gs=>obtain⟨C,dx,xs,a1,a2,a3⟩:=q3;exact⟨C,dx,xs,by rw[hh q nq];exact a1,a2,a3.mono sm⟩
   | _=>exact q3.elim
 ·rcases DK g1 with ⟨_,hz,_⟩ | ⟨_,z1⟩
  ·cases hz
  ·rcases DK g2 with ⟨_,hz,_⟩ | ⟨_,z2⟩
   ·cases hz
   ·exact w.ok.inj j k e f q z1 z2 g3 g4
 ·rcases DK g1 with ⟨_,hz,_⟩ | ⟨_,z1⟩
  ·cases hz
  ·exact w.ow0 j e q z1 g2
 ·rcases DK h0 with ⟨_,hz,_⟩ | ⟨_,z1⟩
  ·cases hz
  ·exact w.lt x e hx z1
theorem OkS.frz {π:zP}{s:Shared}{A0:List Addr}{He:Hp}{σ:St}{H:Hp}{ρ:Rho}(I:Inv X π σ H s) (w:OkS G A0 He σ H ρ) (i:Nat):∃ H',Inv X π σ H' s/\OkS G A0 He σ H' (frz1 ρ i):=by
 delta frz1;split
 ·rename_i d hi;obtain⟨A,w⟩:=w;obtain⟨p,h1,hA,t⟩:=w.ok.ow i d hi;cases d with
  | lst ds=>
   obtain⟨xs,a1,a2⟩:=t;exact⟨H,I,w.frzC hi h1 hA (λ _ _=>rfl) λ sm hp=>.lst (.of (by rw[hp];exact a1)) (a2.mono sm).1 (a2.mono sm).2⟩
  | dk ds=>
   obtain⟨xs,a1,a2,a3⟩:=t;obtain⟨o,I'⟩:=Inv.frzK I a1;exact⟨_,I',w.frzC hi h1 hA (λ b hb=>Al hb) λ sm hp=>.dk (by rw[hp];exact Ai) a2 (a3.mono sm).2⟩
  | dt ds=>
   obtain⟨xs,a1,a2,a3⟩:=t;obtain⟨o,I'⟩:=Inv.frzT I a1;exact⟨_,I',w.frzC hi h1 hA (λ b hb=>Al hb) λ sm hp=>.dt (by rw[hp];exact Ai) a2 (a3.mono sm).2⟩
  | ob c gs=>
   obtain⟨C,dx,xs,a1,a2,a3⟩:=t;exact⟨H,I,w.frzC hi h1 hA (λ _ _=>rfl) λ sm hp=>.ob a2.1 (by rw[hp];exact a1) a2.2 (a3.mono sm).2⟩
  | _=>exact t.elim
 ·exact⟨H,I,w⟩
theorem bA {π:zP}{s:Shared}{A0:List Addr}{He:Hp}{σ:St}:∀ (is:List Nat) {H:Hp}{ρ:Rho},Inv X π σ H s->OkS G A0 He σ H ρ->∃ H',Inv X π σ H' s/\OkS G A0 He σ H' (is.foldl frz1 ρ)
 | [],H,_,I,w=>⟨H,I,w⟩
 | i::r,_,_,I,w=>let ⟨_,I1,w1⟩:=w.frz I i;bA r I1 w1
theorem Pu {st:Stmt}{g:FS}(is:List Nat) (h:PSD X G st g):PSD X G st (fzS is g):=λ A0 He π s σ H D I ⟨ρ,o,ok,e,k⟩=>
 let ⟨H',I',ok'⟩:=bA is I ok
 @h A0 He π s σ H' D I' ⟨is.foldl frz1 ρ,o,ok',e,k⟩
end
section
variable {G:Gx}{a b c:Expr}{fa fb fc:FE}{p2 px:Pos}{t:Str}{elt iter:Expr}{ifs:List Expr}{ga:FT}{fe:FE}{src:FI}
theorem jR {Q:VK}(h:tN G A (BJ src ga fe) σ H Q):aj (tI G A true src) (λ σ H Q=>∃ A,tFT G A ga σ H Q) (λ σ H Q=>∃ A,tF G A fe σ H Q) σ H Q:=by
 obtain⟨ρ,d,o,e,k⟩:=h;unfold BJ at e;cases e1:src ρ with
 | none=>simp[e1] at e
 | some ds=>
  rw[e1] at e;have e':(if ds.length<=sizeLine then (Bo ρ ga fe ds).map D.lst else none)=some d:=e;split at e'
  ·rename_i hz;cases e2:Bo ρ ga fe ds with
   | none=>simp[e2] at e'
   | some out=>
    simp only[e2,z0k] at e';cases e';refine⟨ρ,ds,o,e1,λ J H1 s1 sr p hp=>?_⟩;have o1:=o.mono s1;have npA:p∉A:=λ z=>(o1.live p z).ne hp;refine⟨λ i m ys Hc=>m=ds.length-i/\i<=ds.length/\Hc p=some (.lst ys)/\Same H1 Hc/\ys.length<=i/\∃ es rest,RepL G (hid (p::A) Hc) ys es/\Bo ρ ga fe (ds.drop i)=some rest/\es++rest=out,
     ⟨ds.length,by simp,z0P _,Ai,BR hp _,z04 _,[],out,RepL.nil,by simpa using e2,rfl⟩,?_⟩
    rintro i m ys Hc ⟨rfl,hil,hpc,sc,hy,es,rest,rr,er,eo⟩
    by_cases hlt:i<ds.length
    ·right;have hd:ds[i]?=some ds[i]:=by simp[hlt]
     have ed:ds.drop i=ds[i]::ds.drop (i+1):=z1A hlt;rw[ed] at er;unfold Bo at er;refine⟨sr.go i Hc sc hlt,λ x H' y=>?_⟩;obtain⟨sy,rx⟩:=sr.yld i Hc x H' _ sc hd y;have okc:Okp G (p::A) σ Hc ρ:=o1.fill sc hp (by rw[hpc];exact Nt.lst);have sm:Same (hid A H1) (hid (p::A) Hc):=λ b u h=>by
      unfold hid at h;split at h
      ·cases h
      ·rename_i hb;rw[Bp]
       ·exact sc b u h
       ·intro z
        rcases z0d.mp z with z | z
        ·rw[z,hp] at h;cases h
        ·exact hb z
     have ok2:=(okc.mono sy).snoc (rx _ okc.live sm);have hpc:=sy _ _ hpc;have rr:=rr.mono (BV sy);have sc:=sc.trans sy;cases eg:ga (ρ++[.fz ds[i]]) with
     | none=>simp[eg] at er
     | some b=>
      refine⟨p::A,_,b,ok2,eg,λ H2 s2=>?_⟩;cases b with
      | false=>
       refine iteF ⟨ds.length-(i+1),by omega,rfl,hlt,s2 _ _ hpc,sc.trans s2,Nat.le_succ_of_le hy,es,rest,rr.mono (BV s2),by simpa [eg] using er,eo⟩
      | true=>
       simp only[eg] at er;cases ee:fe (ρ++[.fz ds[i]]) with
       | none=>simp[ee] at er
       | some yd=>
        cases ec:Bo ρ ga fe (ds.drop (i+1)) with
        | none=>simp[ee,ec] at er
        | some rest'=>
         simp only[ee,ec,z0c,z0k] at er;cases er;refine iteT ⟨p::A,_,yd,ok2.mono s2,ee,λ yv H3 s3 r3=>?_⟩;have hp3:=s3 _ _ (s2 _ _ hpc);refine⟨hp3,by omega,ds.length-(i+1),by omega,rfl,hlt,Ai,λ b u q=>?_,by rw[z0u];simp;omega,es++[yd],rest',?_,ec,by rw[List.append_assoc];exact eo⟩
         ·have hb:b≠p:=Aw q hp;rw[Al hb];exact s3 _ _ (s2 _ _ (sc _ _ q))
         ·rw[CQ z0i];exact (rr.mono (BV (s2.trans s3))).append (.cons r3 .nil)
    ·left;have ei:i=ds.length:=by omega
     subst ei;rw[List.drop_length] at er;simp only[Bo] at er;cases er;rw[z0t] at eo;subst eo;exact⟨sr.stop _ Hc sc (z04 _),k p Hc (s1.trans sc) (s1.free hp) ⟨ys,hpc,rr⟩⟩
  ·cases e'
theorem eE {y:Str}(N':List Str) (eN:Bv t X.N++[t]=N') (c:CompOk X scope t) (hc:X.calm=true) (hN:X.N.Nodup) (hi':X.N[i]?=some y) (hx:Loc X.env.scope y) (hi:PFI X G true (.Name t px) iter src)
  (hI:∀ s2 H2 fp,PFTs { Fo X scope t s2 H2 fp with N:=N' } G ifs ga) (hE:∀ s2 H2 fp,PF { Fo X scope t s2 H2 fp with N:=N' } G elt fe) (hsw:swapsWith (.ListComp elt [⟨.Name t px,iter,ifs,0⟩] scope pos) (some (.Name y py)) spos.line X.env=pure true:=by rfl)
  (hf:X.fn y=true∨X.env.scope.names.lookup y=some .local :=by first | exact .inl rfl | exact .inr rfl | assumption) (hs:∀ x,foldedSetIterable iter X.env x=pure x:=by intro _;rfl) (hi0:i≠0:=by decide) :
  PSD X G (.Assign [.Name y py] (.ListComp elt [⟨.Name t px,iter,ifs,0⟩] scope pos) spos) (setW i (BJ src ga fe)):=by
 subst eN;intro A0 He π s σ H D I ⟨ρ,o,⟨A,w⟩,e,k⟩;refine ak (tc:=λ σ H Q=>∃ A,tFT G A ga σ H Q) (te:=λ σ H Q=>∃ A,tF G A fe σ H Q) c hc hN hi' hx (@hi A) (λ s2 H2 fp=>?_) (λ s2 H2 fp=>?_) hsw hf hs π s σ H D I (jR (a_ hi0 w e k))
 ·exact λ π s σ H Q I ⟨A,q⟩=>hI s2 H2 fp π s σ H Q I q
 ·exact λ π s σ H Q I ⟨A,q⟩=>hE s2 H2 fp π s σ H Q I q
end
end PV
namespace PV
open PySem PySem.Spec
section
variable {A:Around}
def btx (w:World):Bool:=w.params.followText "set-order"
def keyOf (e:Int×Value):Str:=match e.2 with | .str k _=>k | _=>Str.empty
def EntS (w:World) (e:Int×Value) (k:Str):Prop:=e.1=hashStr w k/\∃ t,e.2=.str k t
abbrev kS (prog:Program) (w:World):=PySem.strKind prog w
structure FX (w:World) (es:Array (Int×Value)) (t:SetTable) (ks:List Str):Prop where
 ent:∀ e∈es.toList,EntS w e (keyOf e)
 perm:(es.toList.map keyOf).Perm ks
 nd:ks.Nodup
 sz:es.size<scanBound
 fits:t.fits es.size=true
 led:btx w=false->t.led=true
 plain:es.size≠0->t.plain=false
def ObX (h:Heap) (a:Addr) (es:Array (Int×Value)) (t:SetTable):Prop:=∃ o ep,h.get? a=some o/\o.ExactSet/\o.data=.set es ep t
def SetX (w:World) (h:Heap) (a:Addr) (ks:List Str):Prop:=∃ es t,ObX h a es t/\FX w es t ks
theorem SetX.keep (x:SetX w h a ks) (e:∀ o,h.get? a=some o->h'.get? a=some o):SetX w h' a ks:=by
 obtain⟨es,t,⟨o,ep,g,q⟩,f⟩:=x;exact⟨es,t,⟨o,ep,e o g,q⟩,f⟩
theorem SetX.typeIs (x:SetX w s.heap a ks):s.TypeIs (.ref a) "set":=
 let ⟨_,_,⟨o,_,g,q,_⟩,_⟩:=x;⟨o,g,q.1⟩
theorem SM {k:Str}{v:Value}:(kS prog w).is k v=true↔∃ t,v=.str k t:=
 ⟨λ h=>Value.isStrOf_shape h,by rintro ⟨t,q⟩;subst q;show Value.isStrOf k (.str k t)=true;simp[Value.isStrOf,Value.isStr]⟩
theorem FX.elems {t:SetTable}(f:FX w es t ks):ElemsOf (kS prog w) es.toList:=λ e m=>
 let ⟨q1,u,q2⟩:=f.ent e m;⟨⟨keyOf e,SM.mpr ⟨u,q2⟩,q1⟩,by rw[q2];rfl⟩
theorem FX.len {t:SetTable}(f:FX w es t ks):es.size=ks.length:=by simpa using f.perm.length_eq
theorem key_is {e:Int×Value}{k:Str}{u:Tok}(h:e.2=.str k u):keyOf e=k:=by delta keyOf;rw[h]
theorem eF (t:SetTable) (es:Array (Int×Value)) (n:Int) (x:Value):(layNew t es n x).2.1.led=t.led/\(t.plain=false->(layNew t es n x).2.1.plain=false):=by
 unfold layNew;cases t.freeSlot n with
 | none=>exact⟨rfl,λ _=>rfl⟩
 | some p=>
  obtain⟨j,b⟩:=p;simp only[SetTable.orStandIn]
  by_cases q:((t.put j).1.fits (SetTable.insertAt es (t.put j).2 (n,x)).size)=true
  ·rw[if_pos q];exact⟨rfl,id⟩
  ·rw[if_neg q];exact⟨rfl,λ _=>rfl⟩
theorem Xl (t:SetTable) (es:Array (Int×Value)) (n:Nat):(relayAll t es n).2.1.led=t.led/\(t.plain=false->(relayAll t es n).2.1.plain=false):=by
 have inner:∀ t' ord,t.relaid (es.map (·.1)) n=some (t',ord)->t'.led=t.led/\t'.plain=t.plain:=λ t' ord z=>by
  unfold SetTable.relaid SetTable.laid at z;cases q:SetTable.layClean (SetTable.sizeAbove n-1) (es.map (·.1)) with
  | none=>simp[q] at z
  | some ow=>simp[q] at z;rw[<-z.1];exact⟨rfl,rfl⟩
 unfold relayAll;cases q:t.relaid (es.map (·.1)) n with
 | none=>exact⟨rfl,λ _=>rfl⟩
 | some p=>
  obtain⟨t',ord⟩:=p;obtain⟨i1,i2⟩:=inner t' ord q
  by_cases z:(coversAll ord es.size&&t'.fits (ord.filterMap (es[·]?)).size)=true
  ·simp only[z,if_true];exact⟨i1,λ y=>i2.trans y⟩
  ·simp only[z,if_false];exact⟨rfl,λ _=>rfl⟩
theorem FX.relay {t:SetTable}(f:FX w es t ks) (n:Nat):FX w (relayAll t es n).1 (relayAll t es n).2.1 ks:=by
 have p:=relayAll_perm t es n;have l:(relayAll t es n).1.size=es.size:=by simpa using p.length_eq
 obtain⟨m1,m2⟩:=Xl t es n;exact⟨λ e m=>f.ent e (p.mem_iff.mp m),(p.map keyOf).trans f.perm,f.nd,l▸f.sz,relayAll_fits t es n,λ b=>m1.trans (f.led b),λ z=>m2 (f.plain (l▸z))⟩
theorem jT {es':Array (Int×Value)}{t t':SetTable}{Q:Unit->Shared->Prop}(x:ObX s.heap a es t) (z:es'.size<scanBound) (k:∀ h',Heap.SameBut a s.heap h'->ObX h' a es' t'->Q () { s with heap:=h' }):wpAny (model prog w) A (storeSet a es' t') Q E s:=by
 obtain⟨o,ep,g,q,d⟩:=x;refine wpAny_storeSet_of g d (k _ (Heap.SameBut.update _ _ _) ⟨{ o with data:=.set es' (ep+1) t' },ep+1,?_,q,rfl⟩) (fits_of_scanBound z);have u:=z18 (Obj.putSet es' t') g (by rw[putSet_of es' t' d];rfl)
 rwa [putSet_of es' t' d] at u
def addK (ks:List Str) (k:Str):List Str:=if k∈ks then ks else ks++[k]
theorem FX.more {es1:Array (Int×Value)}{t t1:SetTable}{k:Str}{u:Tok}(f:FX w es t ks) (nk:k∉ks) (p:es1.toList.Perm (es.toList++[(hashStr w k,.str k u)])) (r:ks.length+1<scanBound) (q1:t1.fits es1.size=true) (q2:t1.led=t.led) (q3:t1.plain=false):FX w es1 t1 (addK ks k):=by
 have l:es1.size=es.size+1:=by simpa using p.length_eq
 delta addK;rw[if_neg nk];refine⟨λ e m=>(z0p.mp (p.mem_iff.mp m)).elim (f.ent e) λ m=>?_,?_,z0M.mpr ⟨f.nd,by simp,λ x hx y hy e=>nk ?_⟩,by rw[l,f.len];exact r,q1,λ b=>q2.trans (f.led b),λ _=>q3⟩
 ·cases z1B.mp m;exact⟨rfl,u,rfl⟩
 ·have:=p.map keyOf;rw[z0H] at this;exact this.trans (f.perm.append_right _)
 ·cases z1B.mp hy;rw[<-e];exact hx
theorem addX {k:Str}{u:Tok}{Q:Bool->Shared->Prop}(x:SetX w s.heap a ks) (r:ks.length+1<scanBound) (c:∀ b h',Heap.SameBut a s.heap h'->SetX w h' a (addK ks k)->Q b { s with heap:=h' }):wpAny (model prog w) A (setAddHashed a (.str k u) (hashStr w k)) Q E s:=by
  obtain⟨es,t,ob,f⟩:=x;obtain⟨o,ep,g,ex,d⟩:=id ob;have el:ElemsOf (kS prog w) es.toList:=f.elems;have iss:(kS prog w).is k (.str k u)=true:=SM.mpr ⟨u,rfl⟩;show wpAny _ A (setAddHashed a (.str k u) ((kS prog w).hash k)) Q E s;unfold setAddHashed setAddHashedIn setAddByScan;refine z0z (z00 (z1R g d f.fits ?_));dsimp only;rw[if_pos (show byScan (.str k u) es=true from byScan_of rfl f.sz el)];refine z00 (z00 (wpAny_rule (z00 (wpAny_setScan_of iss g d f.fits el ?_))))
  rcases Option.eq_none_or_eq_some (es.toList.findIdx? λ e=>(kS prog w).is k e.2) with no | ⟨j,yes⟩
  · have nk:k∉ks:=λ m=>by
      obtain⟨e,m,ek⟩:=z07.mp (f.perm.mem_iff.mpr m);obtain⟨_,v,ev⟩:=f.ent e m;have z:=List.findIdx?_eq_none_iff.mp no e m;rw[SM.mpr ⟨v,ek▸ev⟩] at z;cases z
    rw[no];have p:=layNew_perm t es ((kS prog w).hash k) (.str k u);have q:=layNew_fits t es ((kS prog w).hash k) (.str k u);obtain⟨m1,m2⟩:=eF t es ((kS prog w).hash k) (.str k u);dsimp only;generalize layNew t es ((kS prog w).hash k) (.str k u)=y at p q m1 m2 ⊢;obtain⟨es1,t1,du,gv⟩:=y;rw[Array.toList_push] at p;have quiet:∀ (b:Bool) (z:Shared) (R:Unit->Shared->Prop),R () z->wpAny (model prog w) A (match b with | true=>rule "set.scan.the-table-gave-way" | false=>pure ()) R E z:=λ b z R y=>match b with
      | true=>wpAny_rule y
      | false=>z01 y
    refine z00 (quiet gv _ _ ?_);have rest:∀ t2:SetTable,FX w es1 t2 (addK ks k)->wpAny (model prog w) A (do
        storeSet a es1 t2
        if (!du&&t2.tooFull)=true then
          (match (relayAll t2 es1 (SetTable.grown es1.size)).2.2 with | true=>rule "set.scan.the-table-gave-way" | false=>pure ())
          storeSet a (relayAll t2 es1 (SetTable.grown es1.size)).1 (relayAll t2 es1 (SetTable.grown es1.size)).2.1
          return some true
        else return some true) (λ v z=>match v with | some v=>wpAny (model prog w) A (pure v) Q E z | none=>False) E s:=λ t2 f2=>by
      refine z00 (jT ob f2.sz λ h1 b1 o1=>?_)
      by_cases full:(!du&&t2.tooFull)=true
      · rw[if_pos full]
        refine z00 (quiet _ _ _ (z00 (jT o1 (f2.relay _).sz λ h2 b2 o2=>z01 (z01 (c _ h2 (b1.trans b2) ⟨_,_,o2,f2.relay _⟩)))))
      · rw[if_neg full]
        exact z01 (z01 (c _ h1 b1 ⟨_,_,o1,f2⟩))
    have shut:∀ (v:Option Bool) (z:Shared),(match v with | some v=>wpAny (model prog w) A (pure v) Q E z | none=>False)->wpAny (model prog w) A (match v with | some added=>pure added | none=>setAddHashedIn a (.str k u) ((kS prog w).hash k) 99999) Q E z:=λ v z y=>match v with
      | some _=>y
      | none=>y.elim
    cases tp:t1.plain with
    | true=>
      rw[if_pos rfl,show hashByValue 8 (.str k u)=pure false from hashByValue_scannable 8 rfl];exact z00 (z01 (z0D (rest { t1 with plain:=false } (f.more nk p r (SetTable.fits_plain_off q) m1 rfl)) (λ v z y=>shut v z y) λ _ _ y=>y))
    | false=>
      rw[if_neg z0j];exact z00 (z01 (z0D (rest t1 (f.more nk p r q m1 tp)) (λ v z y=>shut v z y) λ _ _ y=>y))
  · rw[yes]
    obtain⟨hj,isj,_⟩:=List.findIdx?_eq_some_iff_getElem.mp yes;obtain⟨v,ev⟩:=SM.mp isj;have kk:k∈ks:=f.perm.mem_iff.mp (z07.mpr ⟨_,z1x hj,key_is ev⟩);have:=c false s.heap (Heap.SameBut.refl a _) (by delta addK;rw[if_pos kk];exact⟨es,t,ob,f⟩);exact z01 (z01 this)
end
section
variable {A:Around}{R:Result->Shared->Prop}{I:Addr}{wr:List Addr}{P:Nat->Value->Prop}{Sx:Nat->Heap->Prop}
def metX (val:Nat->Str) (i:Nat):List Str:=((List.range i).map val).foldl addK []
theorem U5 (val:Nat->Str) (i:Nat):metX val (i+1)=addK (metX val i) (val i):=by simp[metX,List.range_succ,List.foldl_append]
theorem Xm (val:Nat->Str):∀ i,(metX val i).length<=i
 | 0=>z04 _
 | i+1=>by
  have q:=Xm val i;rw[U5];delta addK;split<;>simp<;>omega
theorem wk (W:Walks prog w A.in1 I fp wr n P Sx) {S:Addr}(nS:S∉fp) (val:Nat->Str) (hv:∀ i v,P i v->∃ u,v=.str (val i) u) (hb:n+1<scanBound) :
    ∀ (m i:Nat) (s:Shared),i+m=n->Sx i s.heap->SetX w s.heap S (metX val i) ->
      (∀ h' tk,(∀ b o,b∉wr->b≠S->s.heap.get? b=some o->h'.get? b=some o)->SetX w h' S (metX val n)->R (.ok (.ret .none)) { s with heap:=h',toks:=tk }) ->
      codeAny (model prog w) A (.builtin "set.update.loop" ⟨[.ref S,.ref I],[]⟩) R s:=by
  have nW:S∉wr:=λ z=>nS (W.sub S z);have turn:∀ {s:Shared},wpAny (model prog w) A.in1 (do
        let some x <-pyNext (.ref I) | ret .none
        let _ <-holding [x] (setAdd S x)
        again (.builtin "set.update.loop" ⟨[.ref S,.ref I],[]⟩))
      (λ fin s'=>match fin with | .done f=>R (.ok f) s' | .again c'=>c'.quiet=true/\codeAny (model prog w) A c' R s') (λ e s'=>R (.error e) s') s->codeAny (model prog w) A (.builtin "set.update.loop" ⟨[.ref S,.ref I],[]⟩) R s:=λ q=>by
    refine codeAny_builtin PyProof.Rows.F.entry_set_update_loop ?_;rw[Around.under_plainId PyProof.Rows.F.plain_set_update_loop _];exact q
  intro m
  induction m with
  | zero=>
    intro i s e st x k;have:i=n:=by omega
    subst this;exact turn (z00 (W.done s _ _ st λ h' tk kp=>z01 (k h' tk (λ b o nb _ q=>kp b o nb q) (x.keep λ o q=>kp S o nW q))))
  | succ m ih=>
    intro i s e st x k;refine turn (z00 (W.item i s _ _ (by omega) st λ v h1 tk pv st1 kp=>?_));obtain⟨u,rfl⟩:=hv i v pv;have x1:SetX w h1 S (metX val i):=x.keep λ o q=>kp S o nW q;have hl:=Xm val i;refine z00 (z0z (z0z (z00 ((kS prog w).pyHash (k:=val i) (SM.mpr ⟨u,rfl⟩) ?_))));refine addX (s:={ s with heap:=h1,toks:=tk+1 }) (w:=w) x1 (by omega) λ b h2 sb x2=>z01 ⟨plainId_quiet PyProof.Rows.F.plain_set_update_loop _,?_⟩;rw[<-U5] at x2;refine ih (i+1) { s with heap:=h2,toks:=tk+1 } (by omega) (W.frame _ _ _ st1 λ b m o q=>(sb.2 b λ z=>nS (z▸m)).trans q) x2 λ h3 t3 kp3 x3=>?_;exact k h3 t3 (λ b o nb nS' q=>kp3 b o nb nS' ((sb.2 b nS').trans (kp b o nb q))) x3
end
section
variable {A:Around}
theorem wu {T nid iid:String}{as:List Value}{Q1:zQ}(ft:TypeCalled T nid iid) (hc:checkTypeCall T ⟨as,[]⟩=pure ()) (hn:codeAny (model prog w) A.in1 (.call (.builtin nid) ⟨.type T::as,[]⟩) (wants Q1 E) s)
  (hi:∀ ob s1,Q1 ob s1->s1.TypeIs ob T/\codeAny (model prog w) A.in1 (.call (.builtin iid) ⟨ob::as,[]⟩) (wants (λ r s2=>r=.none/\Q ob s2) E) s1):wpAny (model prog w) A (call (.type T) as) Q E s:=by
 obtain⟨m0,mr,g1⟩:=ft.mro;have g2:=ft.made;have g3:=ft.sub;have g4:=ft.notType;have g5:=ft.canCreate;refine z14 (codeAny_of_tree (show wpAny _ _ (callAny (.type T) _) _ _ _ from z01 ⟨Code.quiet_builtin _ (by decide +kernel),codeAny_builtin F.entry_type_call ?_⟩));rw[Around.under_plain (weight_type_call_type T as []) (units_type_call_type T as [])]
 repeat (any_goals (first | assumption | wp_step))
 refine z0O hn λ r s1 q1=>?_
 match r,q1 with
 | .error _,q1=>exact q1
 | .ok .next,q1=>exact q1.elim
 | .ok .brk,q1=>exact q1.elim
 | .ok .cont,q1=>exact q1.elim
 | .ok (.ret ob),q1=>
  obtain⟨ty,run⟩:=hi ob s1 q1;have g6:=ft.init.lookup;have g7:=ft.init.bind ob
  repeat (any_goals (first | assumption | wp_step))
  refine z0O run λ r2 s2 q2=>?_
  match r2,q2 with
  | .error _,q2=>exact q2
  | .ok .next,q2=>exact q2.elim
  | .ok .brk,q2=>exact q2.elim
  | .ok .cont,q2=>exact q2.elim
  | .ok (.ret v),⟨e,q2⟩=>
   subst e
   repeat (any_goals (first | assumption | wp_step))
structure TextsAt (prog:Program) (w:World) (T:String) (l:Addr) (n:Nat) (val:Nat->Str) (h0:Heap):Prop where
 ty:∀ s:Shared,(∀ o,h0.get? l=some o->s.heap.get? l=some o)->s.TypeIs (.ref l) T
 ns:isSubtype (.type T) (.type "set")=pure false
 nf:isSubtype (.type T) (.type "frozenset")=pure false
 nd:(Value.type T==Value.type "dict")=false
 lt:l<h0.objs.size
 it:∀ (A:Around) (E:zQ) (s:Shared) (Q:zQ),A.handled=none->(∀ o,h0.get? l=some o->s.heap.get? l=some o)->l<s.heap.objs.size ->
  (∀ (oI:Obj) (Sx:Nat->Heap->Prop) (P:Nat->Value->Prop),(∀ A':Around,A'.handled=none->Walks prog w A' s.heap.objs.size [s.heap.objs.size,l] [s.heap.objs.size] n P Sx)->Sx 0 (s.heap.push oI)->(∀ i v,P i v->∃ u,v=.str (val i) u)->Q (.ref s.heap.objs.size) { s with heap:=s.heap.push oI }) ->
  wpAny (model prog w) A (pyIter (.ref l)) Q E s
theorem pF (v:Value) {Q:zQ}(k:Q (.ref s.heap.objs.size) { s with heap:=s.heap.push { cls:=.type "set",dict:=none,data:=.set #[] 0 (.fresh 0 0 (!btx w)) } }):codeAny (model prog w) A (.call (.builtin "set.__new__") ⟨[.type "set",v],[]⟩) (wants Q E) s:=by
 have sb:isSubtype (.type "set") (.type "set")=pure true:=by rw[z1q];kernel_rfl
 refine codeAny_of_tree (show wpAny _ A.in1 (do checkBuiltinCall "set.__new__" ⟨[.type "set",v],[]⟩;again (.builtin "set.__new__" ⟨[.type "set",v],[]⟩)) _ _ s from ?_);refine z00 (wpAny_of_eq (F.newCall_set_1 v) (z01 ⟨plainId_quiet F.plain_set_new _,codeAny_builtin F.entry_set_new ?_⟩));rw[Around.under_plainId F.plain_set_new _];unfold Builtin.«set.__new__» Builtin.Frozenset.newClass;obtain⟨h,g,d,tk,os⟩:=s
 wp_walk
 refine wpAny_askSetting (z01 ?_);dsimp only [newObj];exact z00 (wpAny_alloc (z01 (z01 k)))
theorem eG (h:Heap):SetX w (h.push { cls:=.type "set",dict:=none,data:=.set #[] 0 (.fresh 0 0 (!btx w)) }) h.objs.size []:=
 ⟨#[],_,⟨_,0,z0f _ rfl,⟨rfl,rfl,rfl⟩,rfl⟩,λ e m=>by simp at m,by simp,by simp,by decide,by rfl,λ b=>by simp[SetTable.fresh,b],λ z=>by simp at z⟩
theorem uo {T:String}{l:Addr}{val:Nat->Str}(hh:A.handled=none) (X:TextsAt prog w T l n val s.heap) (hb:n+1<scanBound)
  (k:∀ h' tk,SetX w h' s.heap.objs.size (metX val n)->(∀ b o,s.heap.get? b=some o->h'.get? b=some o)->Q (.ref s.heap.objs.size) { s with heap:=h',toks:=tk }):wpAny (model prog w) A (call (.type "set") [.ref l]) Q E s:=by
 refine wu (Q1:=λ ob s1=>ob=.ref s.heap.objs.size/\s1={ s with heap:=s.heap.push { cls:=.type "set",dict:=none,data:=.set #[] 0 (.fresh 0 0 (!btx w)) } }) F.called_set (F.typeCall_set_1 _) (pF _ ⟨rfl,rfl⟩) λ ob s1 ⟨e1,e2⟩=>?_;subst e1 e2;have ob:=z0f s.heap (o:={ cls:=.type "set",dict:=none,data:=.set #[] 0 (.fresh 0 0 (!btx w)) }) rfl;refine⟨⟨_,ob,rfl⟩,z1C F.called_set.init.plain F.entry_set_init (check_set_init_1 ⟨_,ob,rfl⟩ ?_)⟩;have kl:∀ o,s.heap.get? l=some o->(s.heap.push { cls:=.type "set",dict:=none,data:=.set #[] 0 (.fresh 0 0 (!btx w)) }).get? l=some o:=λ o q=>z05 _ q;have ty:=X.ty { s with heap:=s.heap.push { cls:=.type "set",dict:=none,data:=.set #[] 0 (.fresh 0 0 (!btx w)) } } kl;have s1:=X.ns;have s2:=X.nf;have s3:=X.nd;unfold Builtin.«set.__init__» noKeywords Builtin.Frozenset.updateFrom;generalize hp:pyIter=PI
 wp_walk
 subst hp;refine X.it _ _ _ _ (by simp[hh]) kl (by rw[z13];exact z1p X.lt) λ oI Sx P W st hv=>?_;refine z00 (wpAny_runValue ?_);have szI:(s.heap.push { cls:=.type "set",dict:=none,data:=.set #[] 0 (.fresh 0 0 (!btx w)) }).objs.size=s.heap.objs.size+1:=z13 _ _;have x0:SetX w ((s.heap.push { cls:=.type "set",dict:=none,data:=.set #[] 0 (.fresh 0 0 (!btx w)) }).push oI) s.heap.objs.size (metX val 0):=(eG s.heap).keep λ o q=>z05 _ q;refine wk (W _ (by simp[hh])) (S:=s.heap.objs.size) (λ z=>?_) val hv hb n 0 _ (by omega) st x0 λ h' tk kp x=>?_
 ·rcases z0d.mp z with z | z
  ·rw[szI] at z;exact absurd z (z08 (z1M _))
  ·exact absurd (z1B.mp z) (Nat.ne_of_gt X.lt)
 ·show wpAny _ _ _ _ _ _;refine z01 (show wpAny _ _ (ret Value.none) _ _ _ from z01 ⟨rfl,k h' tk x λ b o q=>?_⟩);have lb:b<s.heap.objs.size:=z06 q;exact kp b o (λ z=>by have e:=z1B.mp z;rw[szI] at e;exact absurd e (z08 (z1p lb))) (z08 lb) (z05 _ (z05 _ q))
end
theorem HD:PySem.Slot "set_iterator" "__next__" "set_iterator.__next__":=
 .of (owner:="set_iterator") (n:="__next__") (by rw[typeLookup_type,builtinLookup_eq_fast];kernel_rfl) (by decide +kernel) (by decide +kernel) (by decide +kernel) (by first | exact .inl (by decide +kernel) | exact .inr (by decide +kernel)) (by rw[z1q];kernel_rfl)
theorem Nr:entryFor table "set_iterator.__next__"=some Builtin.«set_iterator.__next__»:=entryFor_of_tree (by kernel_rfl)
theorem jU:Manifest.owners.lookup (String.ofList ['r','o','t','a','r','e','t','i','_','t','e','s'].reverse)=some Manifest.sig_set_iterator:=by kernel_rfl
theorem RQ (a:Value):argsOk "set_iterator.__next__" ⟨[a],[]⟩:=by
 unfold argsOk;rw[signature?_of (id:="set_iterator.__next__") (n:=['_','_','t','x','e','n','_','_']) (o:=['r','o','t','a','r','e','t','i','_','t','e','s']) (by kernel_rfl) jU]
 kernel_rfl
section
variable {A:Around}{I T:Addr}{first:Value}{t:SetTable}
def ItX (h:Heap) (I q:Addr) (first:Value) (j n ep:Nat):Prop:=∃ o,h.get? I=some o/\o.cls=.type "set_iterator"/\o.data=.fields #[first,.int j 0,.ref q,.int n 0,.int ep 0]
def Jp (h:Heap) (q:Addr) (es:Array (Int×Value)) (ep:Nat) (t:SetTable):Prop:=∃ o,h.get? q=some o/\o.ExactSet/\o.data=.set es ep t
theorem ItX.ty (x:ItX s.heap I q first j n ep):s.TypeIs (.ref I) "set_iterator":=let ⟨o,g,c,_⟩:=x;⟨o,g,c⟩
theorem ItX.put0 (x:ItX h I q first j n ep) (f2:Value):ItX (h.update I (Obj.mapFields (·.setIfInBounds 0 f2))) I q f2 j n ep:=by
 obtain⟨o,g,c,d⟩:=x;exact⟨_,z18 _ g (Obj.isFreed_of_fields (z1O d _)),(Obj.cls_mapFields ..).trans c,by rw[z1O d];simp⟩
theorem ItX.put1 (x:ItX h I q first j n ep):ItX (h.update I (Obj.mapFields (·.setIfInBounds 1 (rawInt ((j:Int)+1))))) I q first (j+1) n ep:=by
 obtain⟨o,g,c,d⟩:=x;exact⟨_,z18 _ g (Obj.isFreed_of_fields (z1O d _)),(Obj.cls_mapFields ..).trans c,by rw[z1O d];simp[rawInt]⟩
theorem Lj {a:Addr}(z:s.heap=h) (x:ItX h I q first j n ep) {i:Nat}(hi:i<5) {v:Value}{Q:Unit->Shared->Prop}(k:Q () { s with heap:=h.update I (Obj.mapFields (·.setIfInBounds i v)) }):wpAny (model prog w) A (setField (.ref I) i v) Q E s:=by
 subst z;obtain⟨o,g,_,d⟩:=x;exact z0Y g d (by simpa using hi) k
theorem pG {sl:Int}{v:Value}{nx:Nat}{Q:Option Value->Shared->Prop}(x:ItX s.heap I q (.int sl 0) j n ep) (y:Jp s.heap q es ep t) (hf:t.fits es.size=true) (hn:es.size=n)
  (hx:∀ (B:Around) (E2:zQ) (R:Option (Value×Nat)->Shared->Prop),R (some (v,nx)) s->wpAny (model prog w) B (setNext q sl.toNat j ep) R E2 s)
  (k:∀ h',Heap.SameBut I s.heap h'->ItX h' I q (.int nx 0) (j+1) n ep->Q (some v) { s with heap:=h' }):wpAny (model prog w) A (pyNext (.ref I)) Q E s:=by
 obtain⟨o,g,c,d⟩:=id x;obtain⟨oq,gq,_,dq⟩:=y;unfold pyNext;refine z00 (wpAny_attempt (z1w (name:=Str.ofString "__next__") x.ty HD (z17 HD x.ty Nr ?_ (RQ _))));unfold Builtin.«set_iterator.__next__»;refine z00 (z01 (z00 (wpAny_fieldsOf g d ?_)));dsimp only;refine z00 (wpAny_setEntries_of gq dq hf ?_);rw[if_neg (by rw[hn];simp),z0r,z0r];refine z00 (hx _ _ _ ?_);refine z00 (Lj (a:=I) rfl x (by decide) (z00 (Lj (a:=I) rfl (x.put0 (rawInt nx)) (by decide) (z01 ⟨v,rfl,z01 ?_⟩))));exact k _ ((Heap.SameBut.update ..).trans (Heap.SameBut.update ..)) (x.put0 (rawInt nx)).put1
theorem bB {Q:Option Value->Shared->Prop}{z:Shared}(hh:A.handled=none) (k:∀ h',(∀ b o,z.heap.get? b=some o->h'.get? b=some o)->Q none { z with heap:=h' }) :
  wpAny (model prog w) A.in1 (newExc (.type "StopIteration") [] >>= λ e=>(raiseNew e:Sem Fin)) (λ fin s'=>∃ v,fin=Fin.done (Flow.ret v)/\wpAny (model prog w) A (pure (some v)) Q E s')
   (λ e s'=>wpAny (model prog w) A (isInstance e (.type "StopIteration") >>= λ b=>if b=true then pure none else throw e) Q E s') z:=by
 refine z00 ?_;simp only[newExc,newTuple];refine z00 (z0R ?_ (by size_fits));refine z00 (m:=firstArgMember _ _) (wpAny_of_eq (a:=Value.none) (by first | rfl | (simp only[firstArgMember];rfl)) (z0R ?_ (by size_fits)));unfold raiseNew;refine z00 (wpAny_handled ?_);rw[show A.in1.handled=none from hh];refine z00 (z01 (wpAny_throw ?_));have ty:∀ (h0:Heap) (ob:Obj),ob.cls=.type "StopIteration"->ob.isFreed=false->Shared.TypeIs { z with heap:=h0.push ob } (.ref h0.objs.size) "StopIteration":=λ h0 ob c f=>⟨ob,z0f _ f,c⟩;refine z00 (wpAny_isInstance (T:="StopIteration") (b:=true) (ty _ _ rfl rfl) isSubtype_stop ?_);refine z01 (k _ λ b o e=>?_);exact z05 _ (z05 _ e)
theorem pH {sl:Int}{Q:Option Value->Shared->Prop}(hh:A.handled=none) (x:ItX s.heap I q (.int sl 0) j n ep) (y:Jp s.heap q es ep t) (hf:t.fits es.size=true) (hn:es.size=n)
  (hx:∀ (B:Around) (E2:zQ) (R:Option (Value×Nat)->Shared->Prop),R none s->wpAny (model prog w) B (setNext q sl.toNat j ep) R E2 s)
  (k:∀ h',(∀ b o,b≠I->s.heap.get? b=some o->h'.get? b=some o)->Q none { s with heap:=h' }):wpAny (model prog w) A (pyNext (.ref I)) Q E s:=by
 obtain⟨o,g,c,d⟩:=id x;obtain⟨oq,gq,_,dq⟩:=y;unfold pyNext;refine z00 (wpAny_attempt (z1w (name:=Str.ofString "__next__") x.ty HD (z17 HD x.ty Nr ?_ (RQ _))));unfold Builtin.«set_iterator.__next__»;refine z00 (z01 (z00 (wpAny_fieldsOf g d ?_)));dsimp only;refine z00 (wpAny_setEntries_of gq dq hf ?_);rw[if_neg (by rw[hn];simp),z0r,z0r];refine z00 (hx _ _ _ (z00 (Lj (a:=I) rfl x (by decide) (bB hh λ h' kp=>k h' λ b o nb e=>kp b o ?_))));exact (z0S _ _ (Ne.symm nb)).trans e
theorem pI {pl:Array Value}{p:Nat}{u:Tok}{e0:Int×Value}{Q:Option Value->Shared->Prop}(x:ItX s.heap I q (.ref T) j n ep) (y:Jp s.heap q es ep t) (hf:t.fits es.size=true) (hn:es.size=n) (ht:s.heap.IsTuple T pl)
  (hp:pl[j]?=some (.int p u)) (he:es[p]?=some e0) (k:∀ h',Heap.SameBut I s.heap h'->ItX h' I q (.ref T) (j+1) n ep->Q (some e0.2) { s with heap:=h' }):wpAny (model prog w) A (pyNext (.ref I)) Q E s:=by
 obtain⟨o,g,c,d⟩:=id x;obtain⟨oq,gq,_,dq⟩:=y;obtain⟨ot,gt,_,nt,dt⟩:=ht;unfold pyNext;refine z00 (wpAny_attempt (z1w (name:=Str.ofString "__next__") x.ty HD (z17 HD x.ty Nr ?_ (RQ _))));unfold Builtin.«set_iterator.__next__»;refine z00 (z01 (z00 (wpAny_fieldsOf g d ?_)));dsimp only;refine z00 (wpAny_setEntries_of gq dq hf ?_);rw[if_neg (by rw[hn];simp)];refine z00 (wpAny_seqItems gt dt ?_);rw[z0r,z0r];simp only[hp];unfold setNextDrawn;refine z00 (z00 (z1R gq dq hf ?_));dsimp only;rw[if_neg (by simp),z0r];simp only[he];refine z01 (z00 (Lj (a:=I) rfl x (by decide) (z01 ⟨e0.2,rfl,z01 ?_⟩)));exact k _ (Heap.SameBut.update ..) x.put1
theorem pJ {pl:Array Value}{Q:Option Value->Shared->Prop}(hh:A.handled=none) (x:ItX s.heap I q (.ref T) j n ep) (y:Jp s.heap q es ep t) (hf:t.fits es.size=true) (hn:es.size=n) (ht:s.heap.IsTuple T pl)
  (hp:pl[j]?=none) (k:∀ h',(∀ b o,b≠I->s.heap.get? b=some o->h'.get? b=some o)->Q none { s with heap:=h' }):wpAny (model prog w) A (pyNext (.ref I)) Q E s:=by
 obtain⟨o,g,c,d⟩:=id x;obtain⟨oq,gq,_,dq⟩:=y;obtain⟨ot,gt,_,nt,dt⟩:=ht;unfold pyNext;refine z00 (wpAny_attempt (z1w (name:=Str.ofString "__next__") x.ty HD (z17 HD x.ty Nr ?_ (RQ _))));unfold Builtin.«set_iterator.__next__»;refine z00 (z01 (z00 (wpAny_fieldsOf g d ?_)));dsimp only;refine z00 (wpAny_setEntries_of gq dq hf ?_);rw[if_neg (by rw[hn];simp)];refine z00 (wpAny_seqItems gt dt ?_);rw[z0r,z0r];simp only[hp];refine z00 (Lj (a:=I) rfl x (by decide) (z00 (Lj (a:=I) rfl (x.put0 (rawInt 0)) (by decide) (bB hh λ h' kp=>k h' λ b o nb e=>kp b o ?_))));exact (z0S _ _ (Ne.symm nb)).trans ((z0S _ _ (Ne.symm nb)).trans e)
end
theorem bC:PySem.Slot "set_iterator" "__iter__" "set_iterator.__iter__":=
 .of (owner:="set_iterator") (n:="__iter__") (by rw[typeLookup_type,builtinLookup_eq_fast];kernel_rfl) (by decide +kernel) (by decide +kernel) (by decide +kernel) (by first | exact .inl (by decide +kernel) | exact .inr (by decide +kernel)) (by rw[z1q];kernel_rfl)
theorem jV:entryFor table "set_iterator.__iter__"=some Builtin.«dict_keyiterator.__iter__»:=entryFor_alias (id':="dict_keyiterator.__iter__") (by kernel_rfl) rfl (by decide +kernel) (by kernel_rfl)
theorem pK (a:Value):argsOk "set_iterator.__iter__" ⟨[a],[]⟩:=by
 unfold argsOk;rw[signature?_of (id:="set_iterator.__iter__") (n:=['_','_','r','e','t','i','_','_']) (o:=['r','o','t','a','r','e','t','i','_','t','e','s']) (by kernel_rfl) jU]
 kernel_rfl
theorem Wc:entryFor table "set.__iter__"=some Builtin.«frozenset.__iter__»:=entryFor_alias (id':="frozenset.__iter__") (by kernel_rfl) rfl (by decide +kernel) (by kernel_rfl)
section
variable {A:Around}{I T:Addr}{first:Value}{t:SetTable}
theorem Mt {α:Type}:∀ {l:List α}{i:Nat}(h:i<l.length),(l[i]::l.eraseIdx i).Perm l
 | x::r,0,_=>List.Perm.refl _
 | x::r,i+1,h=>(List.Perm.swap x (r[i]'(by simpa using h)) _).trans (List.Perm.cons x (Mt (by simpa using h)))
theorem jW {src:Source}{Q:Nat->Shared->Prop}(hn:n≠0) (k:∀ i d,i<n->Q i { s with drawn:=d }):wpAny M A (choose src n) Q E s:=λ Γ p _=>by
 show Sem.wp M Γ (.choose src n .pure) _ _ p s;rw[Sem.wp_choose];exact⟨hn,k _ _ (Nat.mod_lt _ (Nat.pos_of_ne_zero hn))⟩
theorem Xn {α:Type}{M:Model}:∀ (m:Nat) (xs:List α) (s:Shared) {Q:List α->Shared->Prop},xs.length=m->(∀ ys d,ys.Perm xs->Q ys { s with drawn:=d })->wpAny M A (drawOrder m xs) Q E s
 | 0,xs,s,Q,hl,k=>by
  have:xs=[]:=List.length_eq_zero_iff.mp hl;subst this;exact z01 (k [] s.drawn (List.Perm.refl _))
 | m+1,[],s,Q,hl,k=>by simp at hl
 | m+1,x::r,s,Q,hl,k=>by
  show wpAny M A (choose .order (x::r).length >>= _) Q E s;refine z00 (jW (by simp) λ i d hi=>?_);have hg:(x::r)[i]?=some (x::r)[i]:=by simp
  simp only[hg];refine z00 (Xn m ((x::r).eraseIdx i) _ (by rw[List.length_eraseIdx,if_pos hi];simp at hl ⊢;omega) λ ys d2 hp=>z01 (k _ d2 ?_));exact (List.Perm.cons _ hp).trans (Mt hi)
theorem jX {Q:Bool->Shared->Prop}(y:Jp s.heap q es ep t) (f:FX w es t ks) (k:Q (!btx w&&decide (1<es.size)) s):wpAny (model prog w) A (setDrawn q) Q E s:=by
 obtain⟨o,g,_,d⟩:=y;unfold setDrawn;refine z00 (z1R g d f.fits ?_);refine z00 (show wpAny _ A setsByText _ E s from z00 (wpAny_askSetting (z01 (z01 ?_))));have e:(!btx w&&decide (1<es.size))=(!btx w&&(!t.plain&&decide (es.size > 1))):=by
  by_cases z:es.size=0
  ·simp[z]
  ·rw[f.plain z];simp
 rw[e] at k;exact k
theorem Jq {α:Type}(f:Nat->Nat) (xs:Array α):(pickOrder f xs).toList.Perm xs.toList:=by
 have go:∀ (m k:Nat) (l:List α) (out:Array α),l.length=m->(pickOrder.go f m k l out).toList.Perm (out.toList++l):=by
  intro m
  induction m with
  | zero=>intro k l out hl;have:l=[]:=List.length_eq_zero_iff.mp hl;subst this;simp[pickOrder.go]
  | succ m ih=>
   intro k l out hl;have hi:f k%l.length<l.length:=Nat.mod_lt _ (by omega);have hg:l[f k%l.length]?=some l[f k%l.length]:=by simp[hi]
   unfold pickOrder.go;simp only[hg];refine (ih _ _ _ (by rw[List.length_eraseIdx,if_pos hi];omega)).trans ?_;rw[Array.toList_push,List.append_assoc];exact List.Perm.append_left _ (Mt hi)
 have:=go xs.size 0 xs.toList #[] (by simp);simpa [pickOrder] using this
theorem Jp.keep (y:Jp h q es ep t) (e:∀ o,h.get? q=some o->h'.get? q=some o):Jp h' q es ep t:=let ⟨o,g,r⟩:=y;⟨o,e o g,r⟩
theorem ItX.keep (x:ItX h I q first j n ep) (e:∀ o,h.get? I=some o->h'.get? I=some o):ItX h' I q first j n ep:=let ⟨o,g,r⟩:=x;⟨o,e o g,r⟩
theorem bD (x:ItX s.heap I q first j n ep) (k:Q (.ref I) s):wpAny (model prog w) A (pyIter (.ref I)) Q E s:=by
 refine wpAny_pyIter_slot x.ty bC (z17 bC x.ty jV ?_ (pK _));show wpAny _ _ (ret (.ref I)) _ _ s;exact z01 ⟨_,rfl,"set_iterator",_,x.ty,HD.lookup,k⟩
theorem Xo {L:List Str}{sl:Nat->Nat}(hne:q≠I) (hf:t.fits es.size=true) (hL:L.length=es.size)
  (hx:∀ (i:Nat) (z:Shared),Jp z.heap q es ep t->(∃ v,(∃ u,v=.str (L.getD i Str.empty) u)/\i<es.size/\∀ (B:Around) (E2:zQ) (R:Option (Value×Nat)->Shared->Prop),R (some (v,sl (i+1))) z->wpAny (model prog w) B (setNext q (sl i) i ep) R E2 z)
   ∨ (es.size<=i/\∀ (B:Around) (E2:zQ) (R:Option (Value×Nat)->Shared->Prop),R none z->wpAny (model prog w) B (setNext q (sl i) i ep) R E2 z)) :
  ∀ A':Around,A'.handled=none->Walks prog w A' I [I,q] [I] L.length (λ i v=>∃ u,v=.str (L.getD i Str.empty) u) (λ i h=>ItX h I q (.int (sl i) 0) i es.size ep/\Jp h q es ep t):=λ A' hh=>{
 sub:=λ b m=>by simp at m;simp[m]
 frame:=λ i h h' st e=>⟨st.1.keep (e I (by simp)),st.2.keep (e q (by simp))⟩
 item:=λ i z Q E2 hi st k=>by
  rcases hx i z st.2 with ⟨v,hv,_,nx⟩ | ⟨hle,_⟩
  ·refine pG st.1 st.2 hf rfl (λ B E3 R y=>by rw[z0r];exact nx B E3 R y) λ h' sb it=>k v h' z.toks hv ⟨it,st.2.keep λ o g=>(sb.2 q hne).trans g⟩ λ b o nb g=>(sb.2 b λ e=>nb (by simp[e])).trans g
  ·omega
 done:=λ z Q E2 st k=>by
  rcases hx L.length z st.2 with ⟨v,_,hlt,_⟩ | ⟨_,nx⟩
  ·omega
  ·exact pH hh st.1 st.2 hf rfl (λ B E3 R y=>by rw[z0r];exact nx B E3 R y) λ h' kp=>k h' z.toks λ b o nb g=>kp b o (λ e=>nb (by simp[e])) g
 self:=λ i z Q E2 st k=>bD st.1 k }
theorem ZL {L:List Str}{ps:List Nat}(hne:q≠I) (hnT:T≠I) (hf:t.fits es.size=true) (hL:L.length=es.size) (hp:ps.length=es.size)
  (he:∀ (i p:Nat),ps[i]?=some p->∃ e0 u,es[p]?=some e0/\e0.2=.str (L.getD i Str.empty) u) :
  ∀ A':Around,A'.handled=none->Walks prog w A' I [I,q,T] [I] L.length (λ i v=>∃ u,v=.str (L.getD i Str.empty) u) (λ i h=>ItX h I q (.ref T) i es.size ep/\Jp h q es ep t/\h.IsTuple T (ps.map λ (i:Nat)=>rawInt i).toArray):=λ A' hh=>{
 sub:=λ b m=>by simp at m;simp[m]
 frame:=λ i h h' st e=>⟨st.1.keep (e I (by simp)),st.2.1.keep (e q (by simp)),st.2.2.at (e T (by simp))⟩
 item:=λ i z Q E2 hi st k=>by
  have hi':i<ps.length:=by omega
  have hps:ps[i]?=some ps[i]:=by simp[hi']
  obtain⟨e0,u,g1,g2⟩:=he i _ hps;refine pI (p:=ps[i]) (u:=0) st.1 st.2.1 hf rfl st.2.2 (by simp[hi',rawInt]) g1 λ h' sb it=>k e0.2 h' z.toks ⟨u,g2⟩ ⟨it,st.2.1.keep λ o g=>(sb.2 q hne).trans g,st.2.2.at λ o g=>(sb.2 T hnT).trans g⟩ λ b o nb g=>(sb.2 b λ e=>nb (by simp[e])).trans g
 done:=λ z Q E2 st k=>pJ hh st.1 st.2.1 hf rfl st.2.2 (by simp;omega) λ h' kp=>k h' z.toks λ b o nb g=>kp b o (λ e=>nb (by simp[e])) g
 self:=λ i z Q E2 st k=>bD st.1 k }
end
section
variable {A:Around}{I T:Addr}{first:Value}{t:SetTable}
def ItOk (prog:Program) (w:World) (s:Shared) (q:Addr) (ks:List Str) (I:Addr) (h':Heap):Prop:=∃ (L:List Str) (fp:List Addr) (Sx:Nat->Heap->Prop),L.Perm ks/\s.heap.objs.size<=I/\(∀ b∈fp,b=q∨s.heap.objs.size<=b)/\(∀ b o,s.heap.get? b=some o->h'.get? b=some o) ∧
 (∀ A':Around,A'.handled=none->Walks prog w A' I fp [I] L.length (λ i v=>∃ u,v=.str (L.getD i Str.empty) u) Sx)/\Sx 0 h'
theorem jY (f:FX w es t ks) {l:List (Int×Value)}(hp:l.Perm es.toList) {i:Nat}{e0:Int×Value}(h:l[i]?=some e0):∃ u,e0.2=.str ((l.map keyOf).getD i Str.empty) u:=by
 have m:e0∈es.toList:=hp.mem_iff.mp (z1v h);obtain⟨_,u,g⟩:=f.ent e0 m;refine⟨u,?_⟩;rw[g];simp[h]
theorem jZ (x:SetX w s.heap q ks) (k:∀ I h' d',ItOk prog w s q ks I h'->Q (.ref I) { s with heap:=h',drawn:=d' }):wpAny (model prog w) A (pyIter (.ref q)) Q E s:=by
  have ty:=x.typeIs;obtain⟨es,t,⟨o,ep,g,ex,d⟩,f⟩:=x;have y:Jp s.heap q es ep t:=⟨o,g,ex,d⟩;have lq:q<s.heap.objs.size:=z06 g;have hlen:=f.len;refine wpAny_pyIter_slot ty F.slot_set_iter (z17 F.slot_set_iter ty Wc ?_ (F.args_set_iter_1 _));unfold Builtin.«frozenset.__iter__»;refine z00 (show wpAny _ _ (pure q) _ _ s from z01 ?_);refine z00 (show wpAny _ _ (setEntries q >>= λ r=>pure r.size) _ _ s from z00 (wpAny_setEntries_of g d f.fits (z01 ?_)));have fin:∀ (fst:Value) (h1:Heap) (d1:Drawn),(∀ b o,s.heap.get? b=some o->h1.get? b=some o)->s.heap.objs.size<=h1.objs.size ->
      (∀ h',h'=h1.push { cls:=.type "set_iterator",data:=.fields #[fst,.int 0 0,.ref q,.int es.size 0,.int ep 0] }->ItX h' h1.objs.size q fst 0 es.size ep->Jp h' q es ep t->ItOk prog w s q ks h1.objs.size h') ->
      wpAny (model prog w) A.in1 (do ret (<-newFields "set_iterator" [fst,rawInt 0,.ref q,rawInt es.size,rawInt (<-setEpoch q)])) (λ fin z=>∃ v,fin=.done (.ret v)/\∃ T' r,z.TypeIs v T'/\typeLookup (.type T') "__next__"=pure (some r)/\Q v z) E { s with heap:=h1,drawn:=d1 }:=λ fst h1 d1 kp le w1=>by
    refine z00 (wpAny_setEpoch_of (kp q o g) d f.fits (z00 (z0R (z01 ⟨_,rfl,"set_iterator",_,⟨_,z0f _ rfl,rfl⟩,HD.lookup,k _ _ _ (w1 _ rfl ⟨_,z0f _ rfl,rfl,rfl⟩ (y.keep λ o' g'=>z05 _ (kp q o' g')))⟩))))
  refine z00 (jX y f ?_);cases bq:btx w with
  | true=>
    rw[show (!true&&decide (1<es.size))=false from rfl];refine z00 (z01 (fin _ s.heap s.drawn (λ _ _ z=>z) (z04 _) λ h' eh it sa=>?_));subst eh;refine⟨(pickOrder (w.params.setOrder q ep) es).toList.map keyOf,[s.heap.objs.size,q],_,((Jq _ es).map keyOf).trans f.perm,z04 _,λ b m=>by simp at m;rcases m with m | m;exact .inr (Nat.le_of_eq m.symm);exact .inl m,λ b o z=>z05 _ z,Xo (sl:=λ _=>0) (es:=es) (t:=t) (ep:=ep) (z08 lq) f.fits (by rw[z02,(Jq _ es).length_eq,z1t]) ?_,it,sa⟩;intro i z ⟨oz,gz,_,dz⟩;have run:∀ (B:Around) (E2:zQ) (R:Option (Value×Nat)->Shared->Prop),R (((pickOrder (w.params.setOrder q ep) es)[i]?).map λ e=>(e.2,0)) z->wpAny (model prog w) B (setNext q 0 i ep) R E2 z:=λ B E2 R y2=>by
      unfold setNext setWalk;refine z00 (z1R gz dz f.fits ?_);refine z00 (show wpAny _ B setsByText _ E2 z from z00 (wpAny_askSetting (z01 ?_)));rw[show (model prog w).w.params.followText "set-order"=true from bq];dsimp only;rw[if_pos rfl,if_neg (by simp)];refine z00 (z00 (z1R gz dz f.fits (z00 (show wpAny _ B setsByText _ E2 z from z00 (wpAny_askSetting (z01 ?_))))));rw[show (model prog w).w.params.followText "set-order"=true from bq];dsimp only;rw[if_pos rfl];exact z00 (wpAny_askSetting (z01 (z01 y2)))
    by_cases hi:i<es.size
    · have hz:i<(pickOrder (w.params.setOrder q ep) es).size:=by have:=(Jq (w.params.setOrder q ep) es).length_eq;simp at this;omega
      have hg:(pickOrder (w.params.setOrder q ep) es)[i]?=some (pickOrder (w.params.setOrder q ep) es)[i]:=by simp[hz]
      obtain⟨u,hu⟩:=jY f (Jq (w.params.setOrder q ep) es) (i:=i) (e0:=(pickOrder (w.params.setOrder q ep) es)[i]) (by simp[hz]);refine .inl ⟨_,⟨u,hu⟩,hi,λ B E2 R y2=>run B E2 R (by rw[hg];exact y2)⟩
    · refine .inr ⟨by omega,λ B E2 R y2=>run B E2 R ?_⟩
      rw[Array.getElem?_eq_none (by have:=(Jq (w.params.setOrder q ep) es).length_eq;simp at this;omega)];exact y2
  | false=>
    have hled:t.led=true:=f.led bq
    by_cases h2:1<es.size
    · rw[show (!false&&decide (1<es.size))=true by simp[h2],if_pos rfl]
      refine z00 (Xn es.size (List.range es.size) s (by simp) λ ps d' hp=>?_);have hpl:ps.length=es.size:=by simpa using hp.length_eq
      refine z00 (z0R (fin _ _ d' (λ b o z=>z05 _ z) (by rw[z13];exact z0Q _) λ h' eh it sa=>?_) (show ((ps.map λ (i:Nat)=>rawInt i)).toArray.size<=sizeLine by rw[z0e,z02,hpl];exact Nat.le_of_lt (z0m f.sz (by decide))));subst eh;have szT:(s.heap.push { cls:=.type "tuple",data:=.seq (ps.map λ (i:Nat)=>rawInt i).toArray }).objs.size=s.heap.objs.size+1:=z13 _ _;have eat:∀ (i p:Nat),ps[i]?=some p->p<es.size:=λ i p z=>by have:=hp.mem_iff.mp (z1v z);simpa using this
      refine⟨ps.map λ p=>keyOf (es.getD p (0,.none)),[(s.heap.push { cls:=.type "tuple",data:=.seq (ps.map λ (i:Nat)=>rawInt i).toArray }).objs.size,q,s.heap.objs.size],_,?_,by rw[szT];exact z0Q _,λ b m=>?_,λ b o z=>z05 _ (z05 _ z),
        ZL (es:=es) (t:=t) (ep:=ep) (ps:=ps) (by rw[szT];exact z08 (z1p lq)) (by rw[szT];exact z08 (z1M _)) f.fits (by simp[hpl]) hpl ?_,it,sa,?_⟩
      · have e1:(List.range es.size).map (λ p=>keyOf (es.getD p (0,.none)))=es.toList.map keyOf:=by
          apply List.ext_getElem
          · simp
          · intro i h1 h2;simp at h1;simp[h1]
        exact ((hp.map λ p=>keyOf (es.getD p (0,.none))).trans (by rw[e1])).trans f.perm
      · simp at m
        rcases m with m | m | m
        · right;rw[m];exact z0Q _
        · exact .inl m
        · exact .inr (Nat.le_of_eq m.symm)
      · intro i p z
        have lp:=eat i p z;obtain⟨_,u,gu⟩:=f.ent es[p] (by simp);refine⟨es[p],u,by simp[lp],?_⟩;rw[gu];simp[z,lp]
      · exact⟨_,z05 _ (z0f _ rfl),rfl,0,rfl⟩
    · rw[show (!false&&decide (1<es.size))=false by simp[h2]]
      refine z00 (z01 (fin _ s.heap s.drawn (λ _ _ z=>z) (z04 _) λ h' eh it sa=>?_));subst eh;have hpl:t.place.size=es.size:=by have:=f.fits;simp[SetTable.fits] at this;exact this.1
      refine⟨es.toList.map keyOf,[s.heap.objs.size,q],_,f.perm,z04 _,λ b m=>by simp at m;rcases m with m | m;exact .inr (Nat.le_of_eq m.symm);exact .inl m,λ b o z=>z05 _ z,
        Xo (sl:=λ i=>if i=0 then 0 else t.place.getD 0 0+1) (es:=es) (t:=t) (ep:=ep) (z08 lq) f.fits (by simp) ?_,it,sa⟩
      intro i z ⟨oz,gz,_,dz⟩;have run:∀ (sl:Nat) (B:Around) (E2:zQ) (R:Option (Value×Nat)->Shared->Prop),R (match es[SetTable.below t.place sl]?,t.place[SetTable.below t.place sl]? with | some (_,x),some j=>some (x,j+1) | _,_=>none) z->wpAny (model prog w) B (setNext q sl i ep) R E2 z:=λ sl B E2 R y2=>by
        unfold setNext;refine z00 (z1R gz dz f.fits ?_);refine z00 (show wpAny _ B setsByText _ E2 z from z00 (wpAny_askSetting (z01 ?_)));rw[show (model prog w).w.params.followText "set-order"=false from bq];dsimp only;rw[if_neg z0j];split
        · rename_i hd
          have hd':(!t.plain&&decide (es.size > 1))=true:=hd;simp[h2] at hd'
        · refine z00 (show wpAny _ B (if (!t.led&&!es.isEmpty)=true then unsupported "set:maker-not-led" else pure ()) _ E2 z from ?_)
          rw[if_neg (by rw[hled];simp)];exact z01 (z01 y2)
      by_cases h0:es.size=0
      · refine .inr ⟨by omega,λ B E2 R y2=>run _ B E2 R ?_⟩
        rw[Array.getElem?_eq_none (by omega)];exact y2
      · have h1:es.size=1:=by omega
        obtain⟨p,hp⟩:∃ p,t.place=#[p]:=by
          have:t.place.size=1:=by omega
          match q0:t.place,this with
          | ⟨[p]⟩,_=>exact⟨p,rfl⟩
        by_cases hi:i=0
        · subst hi
          have b0:SetTable.below t.place 0=0:=by rw[hp];simp[SetTable.below,SetTable.below.go]
          obtain⟨_,u,gu⟩:=f.ent es[0] (by simp);refine .inl ⟨es[0].2,⟨u,by rw[gu];simp[h1]⟩,by omega,λ B E2 R y2=>run _ B E2 R ?_⟩;simp only[if_true];rw[b0];have e1:es[0]?=some es[0]:=by simp[h1]
          have e2:t.place[0]?=some p:=by rw[hp];rfl
          rw[e1,e2];simpa [hp] using y2
        · have b1:SetTable.below t.place (p+1)=1:=by rw[hp];simp[SetTable.below,SetTable.below.go]
          refine .inr ⟨by omega,λ B E2 R y2=>run _ B E2 R ?_⟩;rw[if_neg hi,show t.place.getD 0 0=p by rw[hp];rfl,b1,Array.getElem?_eq_none (by omega)];exact y2
end
section
variable {A:Around}{I T:Addr}
theorem jb {Q:Bool->Shared->Prop}(ty:s.TypeIs (.ref q) "set") (k:Q false s):wpAny (model prog w) A (Builtin.List.listLengthHint (.ref q)) Q E s:=by
 unfold Builtin.List.listLengthHint;refine z00 (wpAny_specialOf ty F.slot_set_len.lookup ?_);generalize nm:("set.__len__":String)=sid
 wp_delta
 rw[show splitId sid=some ("set","__len__") by subst nm;decide +kernel];subst nm;refine z00 (wpAny_isInstance (T:="set") (b:=true) ty (by rw[z1q];kernel_rfl) ?_);refine wpAny_ite_split (λ z=>absurd z (by decide)) λ _=>wpAny_ite_split (λ _=>z00 (wpAny_typeOf ty (z01 k))) λ z=>absurd (by decide +kernel) z
theorem Xp {Q:List Value->Shared->Prop}(hh:A.handled=none) (x:SetX w s.heap q ks) (hz:ks.length<=4000)
  (k:∀ (vs:List Value) (L:List Str) (h':Heap) (tk:Nat) (d':Drawn),L.Perm ks->vs.length=L.length->(∀ (i:Nat) (v:Value),vs[i]?=some v->∃ u,v=Value.str (L.getD i Str.empty) u)->s.heap.objs.size<=h'.objs.size->(∀ b o,s.heap.get? b=some o->h'.get? b=some o)->Q vs { s with heap:=h',toks:=tk,drawn:=d' }) :
  wpAny (model prog w) A (collect (.ref q)) Q E s:=by
 obtain⟨lq⟩:Nonempty (q<s.heap.objs.size):=let ⟨_,_,⟨_,_,g,_⟩,_⟩:=x;⟨z06 g⟩;unfold collect;refine z00 (wpAny_runValue (codeAny_builtin PyProof.Rows.entry_proto_collect' (show wpAny _ _ (do again (.builtin "list.__iadd__" ⟨[<-newList [],.ref q],[]⟩)) _ _ s from ?_)));refine z00 (wpAny_newList (z01 ⟨Code.quiet_builtin _ (by decide +kernel),codeAny_builtin PyProof.Rows.entry_list_iadd' (show wpAny _ _ (Builtin.List.listExtendWith (.ref s.heap.objs.size) (.ref q) (.ref s.heap.objs.size)) _ _ _ from ?_)⟩));have x1:SetX w (s.heap.push { cls:=.type "list",data:=.seq ([]:List Value).toArray }) q ks:=x.keep λ o g=>z05 _ g;unfold Builtin.List.listExtendWith;refine z00 (wpAny_typeOf (T:="set") (x1.typeIs (s:={ s with heap:=s.heap.push { cls:=.type "list",data:=.seq ([]:List Value).toArray } })) ?_);have nr:Builtin.List.listSameRef (.ref s.heap.objs.size) (.ref q)=false:=by simp[Builtin.List.listSameRef,Nat.ne_of_gt lq]
 rw[if_neg (by rw[nr];decide)];refine z00 (jZ (s:={ s with heap:=s.heap.push { cls:=.type "list",data:=.seq ([]:List Value).toArray } }) x1 λ I h' d' ⟨L,fp,Sx,hL,leI,hfp,kp,W,st⟩=>?_);have x2:SetX w h' q ks:=x1.keep λ o g=>kp q o g;refine z00 (z0z (jb (s:={ s with heap:=h',drawn:=d' }) (x2.typeIs (s:={ s with heap:=h',drawn:=d' })) ?_));have gS:h'.get? s.heap.objs.size=some { cls:=.type "list",dict:=none,data:=.seq #[] 0,slots:=#[] }:=kp _ _ (z0f _ rfl);have szL:(s.heap.push { cls:=.type "list",data:=.seq ([]:List Value).toArray }).objs.size=s.heap.objs.size+1:=z13 _ _;have nS:s.heap.objs.size∉fp:=λ m=>by
  rcases hfp _ m with z | z
  ·exact absurd z (Nat.ne_of_gt lq)
  ·have z':(s.heap.push { cls:=.type "list",data:=.seq ([]:List Value).toArray }).objs.size<=s.heap.objs.size:=z;rw[szL] at z';exact absurd z' (Nat.not_succ_le_self _)
 have leI':s.heap.objs.size+1<=I:=by rw[<-szL];exact leI
 rw[if_pos (by decide +kernel)];refine z00 (wpAny_rule (z00 (show wpAny _ _ (updateSeq s.heap.objs.size (·.push .none) >>= λ _=>updateSeq s.heap.objs.size (·.pop)) _ _ _ from z00 (wpAny_updateSeq gS rfl ?_))));have g1:=z18 (Obj.mapSeq (·.push Value.none)) gS rfl;refine wpAny_updateSeq (hz:=by seq_fits) g1 rfl ?_;have g2:=z18 (Obj.mapSeq (·.pop)) g1 rfl;have oth:∀ b o,b≠s.heap.objs.size->h'.get? b=some o->((h'.update s.heap.objs.size (Obj.mapSeq (·.push Value.none))).update s.heap.objs.size (Obj.mapSeq (·.pop))).get? b=some o:=λ b o nb g=>(z0S _ _ (Ne.symm nb)).trans ((z0S _ _ (Ne.symm nb)).trans g);have st2:=(W A hh).frame 0 _ _ st λ b m o g=>oth b o (λ z=>nS (z▸m)) g;refine z01 ⟨plainId_quiet PySem.F.plain_extend_loop _,codeAny_extend_loopS (W _ (by simp[hh])).toS (z0a (by rw[hL.length_eq];exact hz) (by decide)) s.heap.objs.size nS _ L.length 0 { s with heap:=(h'.update s.heap.objs.size (Obj.mapSeq (·.push Value.none))).update s.heap.objs.size (Obj.mapSeq (·.pop)),drawn:=d' } #[] _ rfl (z0P _) st2 g2 (ItemsOf.nil _) λ s' acc c' hm gS' ha=>?_⟩;rw[Moved.eq_with hm];show wpAny _ A (load s.heap.objs.size >>= _) _ _ _;refine z00 (wpAny_load gS' (z01 (k acc.toList L s'.heap s'.toks d' hL (by rw[z1t];exact ha.1) (λ i v z=>ha.2 i v (by rw[<-Array.getElem?_toList];exact z)) (Nat.le_of_lt (z06 gS')) λ b o g=>?_)));have lb:b<s.heap.objs.size:=z06 g;refine hm.heap b o (λ m=>?_) (oth b o (z08 lb) (kp b o (z05 _ g)))
 rcases z0d.mp m with z | z
 ·exact absurd z (z08 lb)
 ·exact absurd (z1B.mp z) (z08 (z0m lb (Nat.le_of_succ_le leI')))
end
theorem Xq:∀ {vs:List Value}{L:List Str},vs.length=L.length->(∀ (i:Nat) (v:Value),vs[i]?=some v->∃ u,v=Value.str (L.getD i Str.empty) u)->PyProof.Rows.StrsAre vs L
 | [],[],_,_=>.nil
 | [],_::_,h,_=>by simp at h
 | _::_,[],h,_=>by simp at h
 | v::vs,x::L,h,k=>by
  obtain⟨u,e⟩:=k 0 v rfl;have e':v=Value.str x u:=e;subst e';exact .cons x u (Xq (by simpa using h) λ i y z=>by have:=k (i+1) y (by simpa using z);simpa using this)
theorem Nu:∀ {r:List Str}{p:Str},PyProof.Rows.risingS p r=true->(p::r).Nodup->Up (p::r)
 | [],p,_,_=>by simp[Up]
 | x::r,p,h,nd=>by
  unfold PyProof.Rows.risingS at h;rw[z0x] at h;obtain⟨h1,h2⟩:=h;obtain⟨n1,n2⟩:=z1i.mp nd;have u:=Nu h2 n2;have lt:ltS p x=true:=aX (by delta ltS;simpa [PyProof.Rows.ltCps_eq] using h1) (λ e=>n1 (by rw[<-e];exact z0i));refine z1z.mpr ⟨λ y m=>?_,u⟩
  rcases z0d.mp m with e | m
  ·rw[e];exact lt
  ·exact PL lt ((z1z.mp u).1 y m)
theorem We {l:List Str}(h:PyProof.Rows.sortedS l=true) (nd:l.Nodup):Up l:=by
 cases l with
 | nil=>exact List.Pairwise.nil
 | cons p r=>exact Nu h nd
section
variable {A:Around}
theorem ZM (hh:A.handled=none) (x:SetX w s.heap q ks) (h60:ks.length<=60)
  (k:∀ (its:List Value) (e:Nat) (l:Addr) (h':Heap) (tk:Nat) (d':Drawn),PyProof.Rows.StrsAre its (Cp ks)->h'.get? l=some (PyProof.Rows.seqObj "list" its.toArray e)->s.heap.objs.size<=l->(∀ b o,s.heap.get? b=some o->h'.get? b=some o)->Q (.ref l) { s with heap:=h',toks:=tk,drawn:=d' }) :
  wpAny (model prog w) A (call (.builtin "sorted") [.ref q]) Q E s:=by
 have nd:ks.Nodup:=let ⟨_,_,_,f⟩:=x;f.nd;refine Calls.call_function_entry PyProof.Rows.kind_sorted PyProof.Rows.plain_sorted PyProof.Rows.entry_sorted (PyProof.Rows.args_sorted1 _) ?_;unfold Builtin.«sorted»;refine z00 (m:=checkCount "sorted" 1 1 _) (z01 (z00 (Xp (A:=A.in1) hh x (by omega) λ vs L h1 tk d1 hL hl hv le kp=>?_)));have hS:PyProof.Rows.StrsAre vs L:=Xq hl hv;have hlen:vs.length<=60:=by rw[hl,hL.length_eq];exact h60
 refine z00 (wpAny_newList ?_ (z0a hlen (by decide)));have gl:(h1.push { cls:=.type "list",data:=.seq vs.toArray }).get? h1.objs.size=some (PyProof.Rows.seqObj "list" vs.toArray 0):=z0f _ rfl;refine z00 (z0z (z17 PyProof.Rows.slot_list_sort ⟨_,gl,rfl⟩ PyProof.Rows.entry_list_sort (PyProof.Rows.list_sort_treeK PyProof.Rows.strKind_oneLt gl hS.keysOf (λ a b r e=>PyProof.Rows.keyKind_strs (by rw[<-e];exact hS)) (by omega) λ st a1 a2=>⟨_,rfl,?_⟩) (PyProof.Rows.args_list_sort _)));obtain⟨ss,o1,o2,o3⟩:=PyProof.Rows.sorted_out_str hS a1 a2;have e:ss=Cp ks:=WN (We o3 ((o2.trans hL).nodup_iff.mpr nd)) (IK ks) λ y=>by rw[Dg,(o2.trans hL).mem_iff]
 subst e;have at':=PyProof.Rows.sortedHeap_at (out:=(PyProof.Rows.arrOf st).map (·.2)) gl;obtain⟨c,hc⟩:∃ c,(PyProof.Rows.sortedHeap (h1.push { cls:=.type "list",data:=.seq vs.toArray }) h1.objs.size vs ((PyProof.Rows.arrOf st).map (·.2))).get? h1.objs.size=some (PyProof.Rows.seqObj "list" ((PyProof.Rows.arrOf st).map (·.2)).toList.toArray c):=by
  obtain⟨c,hc⟩:=at';exact⟨c,by rw[hc,Array.toArray_toList]⟩
 refine z01 ⟨_,rfl,k _ c _ _ tk d1 o1 hc le λ b o g=>?_⟩;have lb:=z06 (kp b o g);rw[PyProof.Rows.sortedHeap_old (z08 lb) (by rw[z13];exact z1p lb)];exact z05 _ (kp b o g)
end
open L2
section
variable {G:Gx}{a:Expr}{fa:FE}
theorem jc (i:Inv X π σ H s) (d:Drawn):Inv X π σ H { s with drawn:=d }:=⟨i.ok,i.os,i.bare,i.base,i.loc,i.cell,i.free,i.freeC,i.pin,i.hok,i.len⟩
theorem U6:∀ {xs:List Str}{us:List Value},PyProof.Rows.StrsAre us xs->Vals (xs.map V.str) us
 | _,_,.nil=>.nil
 | _,_,.cons _ u r=>.cons ⟨u,rfl⟩ (U6 r)
theorem Xr (r:Vals (zs.map V.str) us) (i:Nat) (v:Value) (h:us[i]?=some v):∃ u,v=Value.str (zs.getD i Str.empty) u:=by
 have hl:=r.length;rw[z02] at hl;have hi:i<us.length:=(z0C.mp h).1;obtain⟨v',h1,u,e⟩:=r.get (i:=i) (x:=V.str (zs[i]'(by omega))) (by rw[z0g,z1a (by omega)];rfl);rw[h] at h1;cases h1;exact⟨u,by rw[e];simp[show i<zs.length by omega]⟩
def dedK (zs:List Str):List Str:=zs.foldl addK []
theorem jd (zs:List Str):metX (λ i=>zs.getD i Str.empty) zs.length=dedK zs:=by
 delta metX dedK;congr 1;apply List.ext_getElem
 ·simp
 ·intro i h1 h2;simp[h2]
theorem pL {y:Str}:y∈zs.foldl addK ks↔y∈ks∨y∈zs:=by
 induction zs generalizing ks with
 | nil=>simp
 | cons z r ih=>
  rw[z1D,ih];delta addK;split
  ·rename_i hz;constructor
   ·rintro (m | m)
    ·exact .inl m
    ·exact .inr (z0b _ m)
   ·rintro (m | m)
    ·exact .inl m
    ·rcases z0d.mp m with e | m
     ·exact .inl (e▸hz)
     ·exact .inr m
  ·simp only[z0p,z0d,List.not_mem_nil,or_false,or_assoc]
abbrev SetO (w:World) (q:Addr) (ks:List Str):HO:=.ext λ h=>SetX w h q ks
theorem uq (i:Inv X π σ H s) (h:SqL X.K H p (zs.map V.str)):TextsAt X.prog X.w "list" p zs.length (λ i=>zs.getD i Str.empty) s.heap:=by
 obtain⟨its,r,pl,_⟩:=i.list h;obtain⟨o,g,c,m,d⟩:=pl.isList;have hl:=r.length;rw[z02] at hl;refine⟨λ z e=>⟨o,e o g,c⟩,by rw[z1q];kernel_rfl,by rw[z1q];kernel_rfl,by decide,z06 g,λ A E z Q hh e lt k=>?_⟩;have il:z.heap.IsList p its.toArray:=⟨o,e o g,c,m,d⟩;refine wpAny_pyIter_list il (k _ (λ i h=>h.IsListIter z.heap.objs.size p i/\h.IsList p its.toArray) (λ i v=>its.toArray[i]?=some v) (λ A' h'=>by rw[hl,<-z0e];exact Walks.list h' _ p (z08 lt) its.toArray) ⟨⟨_,z0f _ rfl,rfl,rfl⟩,il.push _⟩ λ i v q=>Xr r i v (by simpa using q))
theorem ur (i:Inv X π σ H s) (h:SqT X.K H p (zs.map V.str)):TextsAt X.prog X.w "tuple" p zs.length (λ i=>zs.getD i Str.empty) s.heap:=by
 obtain⟨its,r,pl,_⟩:=i.tuple h;obtain⟨o,g,c,m,d⟩:=(show s.heap.IsTuple p its.toArray from pl);have hl:=r.length;rw[z02] at hl;refine⟨λ z e=>⟨o,e o g,c⟩,by rw[z1q];kernel_rfl,by rw[z1q];kernel_rfl,by decide,z06 g,λ A E z Q hh e lt k=>?_⟩;have il:z.heap.IsTuple p its.toArray:=⟨o,e o g,c,m,d⟩;refine wpAny_pyIter_tuple il (k _ (λ i h=>h.IsTupleIter z.heap.objs.size p i/\h.IsTuple p its.toArray) (λ i v=>its.toArray[i]?=some v) (λ A' h'=>by rw[hl,<-z0e];exact Walks.tuple h' _ p (z08 lt) its.toArray) ⟨⟨_,z0f _ rfl,rfl,rfl⟩,il.at λ o' g'=>z05 _ g'⟩ λ i v q=>Xr r i v (by simpa using q))
def rSet (X:Cx):List V->Hp->VK->Prop:=λ xs H Q=>∃ p zs,xs=[.ref p]/\(SqL X.K H p (zs.map V.str)∨SqT X.K H p (zs.map V.str))/\zs.length<=1000/\∀ l,H l=none->Q (.ref l) (upd H l (SetO X.w l (dedK zs)))
theorem je (hc:X.calm=true):Eb X (.type "set") (rSet X):=by
 intro π s σ H xs us Q I r h;obtain⟨p,zs,rfl,hs,hz,k⟩:=h;obtain⟨u,rfl,ru⟩:=vals1 r;cases ru;have go:∀ {T:String},TextsAt X.prog X.w T p zs.length (λ i=>zs.getD i Str.empty) s.heap->wpAny (model X.prog X.w) X.A (call (.type "set") [.ref p]) (EP X π σ Q) X.xe s:=λ t=>by
  refine uo (I.ok.hd hc) t (z1n (Nat.succ_le_succ hz) (by decide)) λ h' tk x kp=>?_;rw[jd] at x;refine⟨.ref s.heap.objs.size,_,I.laid (a:=s.heap.objs.size) (o:=SetO X.w s.heap.objs.size (dedK zs)) (t':=tk) kp (z04 _) ⟨x,?_,λ h1 h2 x1 e=>x1.keep e⟩,rfl,k _ I.fresh⟩;obtain⟨_,_,⟨o,_,g,_⟩,_⟩:=x;exact⟨o,g⟩
 rcases hs with hs | hs
 ·exact go (uq I hs)
 ·exact go (ur I hs)
def bG (X:Cx):List V->Hp->VK->Prop:=λ xs H Q=>∃ p ks,xs=[.ref p]/\H p=some (SetO X.w p ks)/\ks.length<=60/\∀ l,H l=none->Q (.ref l) (upd H l (.lst ((Cp ks).map V.str)))
theorem Xu (hc:X.calm=true):Eb X (.builtin "sorted") (bG X):=by
 intro π s σ H xs us Q I r h;obtain⟨p,ks,rfl,hp,hz,k⟩:=h;obtain⟨u,rfl,ru⟩:=vals1 r;cases ru;obtain⟨x,_,_⟩:=(show Bt X.prog X.w H s.heap p (SetO X.w p ks) from I.hok p _ hp);refine ZM (I.ok.hd hc) x hz λ its e l h' tk d' hS g le kp=>?_;have hv:=U6 hS;refine⟨.ref l,_,jc (I.laid (a:=l) (o:=.lst ((Cp ks).map V.str)) (t':=tk) kp le ⟨?_,its,e,hv,g⟩) d',rfl,k l (I.hok.fresh le)⟩;rw[z02];have:=sub_len (Ng (IK ks)) (m:=ks) λ y m=>(Dg y ks).mp m;exact z0a this (z0a hz (by decide))
theorem jf {ds:List D}(r:RepL G H xs ds) (h:Ha ds=some zs):xs=zs.map V.str:=Np r h
theorem jg {x y:Str}{p q pos2:Pos}(hc:X.calm=true) (hG:G.K=X.K) (hg:Gl X x) (hm:X.mg x=none) (hv:bootBuiltins x=some (.builtin "sorted")) (hg2:Gl X y) (hm2:X.mg y=none) (hv2:bootBuiltins y=some (.type "set")) (ha:PU X G a fa)
    (hn:x≠"__name__":=by decide) (hdb:(x==("__debug__":Str))=false:=by decide) (hn2:y≠"__name__":=by decide) (hdb2:(y==("__debug__":Str))=false:=by decide) (he:starEach [a] X.env=[(false,eval a X.env)]:=by rfl)
    (he2:starEach [.Call (.Name y q) [a] [] pos2] X.env=[(false,eval (.Call (.Name y q) [a] [] pos2) X.env)]:=by rfl) :
    PF X G (.Call (.Name x p) [.Call (.Name y q) [a] [] pos2] [] pos) (uF ssD fa):=λ A=>Ca (Kl (Xu hc) hg hm hv (BZ (O_ (je hc) hg2 hm2 hv2 (BZ (@ha A) Cz he) hn2 hdb2 he rfl) Cz he2) hn hdb he2 rfl)<|by
  rintro σ H Q ⟨ρ,d,o,e,k⟩
  obtain⟨dx,e1,e2⟩:=JF e;have core:∀ (ds:List D) (v:V) (H1:Hp) (pp:Addr) (xs:List V),Same H H1->ssL ds=some d->v=.ref pp->(SqL G.K H1 pp xs∨SqT G.K H1 pp xs)->RepL G (hid A H1) xs ds ->
      rSet X [v] H1 λ x2 H2=>bG X [x2] H2 Q:=λ ds v H1 pp xs s1 e3 ev hs r=>by
    unfold ssL at e3;cases ez:Ha ds with
    | none=>simp[ez] at e3
    | some zs=>
      rw[ez] at e3;have e4:(if zs.length<=1000/\(Cp zs).length<=60 then some (D.lst ((Cp zs).map .str)) else none)=some d:=e3;split at e4
      · rename_i hz
        cases e4;have ex:=jf r ez;subst ex;have nd:(dedK zs).Nodup/\∀ y,y∈dedK zs↔y∈zs:=by
          refine⟨?_,λ y=>by delta dedK;rw[pL];simp⟩;have:∀ (l ks:List Str),ks.Nodup->(l.foldl addK ks).Nodup:=by
            intro l
            induction l with
            | nil=>intro ks h;exact h
            | cons z r ih=>
              intro ks h;refine ih _ ?_;delta addK;split
              · exact h
              · rename_i nz
                exact z0M.mpr ⟨h,by simp,λ a ha b hb e=>nz (by cases z1B.mp hb;rw[<-e];exact ha)⟩
          exact this zs [] (by simp)
        have es:Cp (dedK zs)=Cp zs:=WN (IK _) (IK _) λ y=>by rw[Dg,Dg,nd.2]
        have l60:(dedK zs).length<=60:=z0a (sub_len nd.1 λ y m=>(Dg y zs).mpr ((nd.2 y).mp m)) hz.2;refine⟨pp,zs,by rw[ev],by rw[<-hG];exact hs,hz.1,λ l hl=>⟨l,dedK zs,rfl,Ai,l60,λ m hm2=>?_⟩⟩;rw[es];have o1:=(o.mono s1);have n1:l≠m:=λ z=>by rw[<-z,Ai] at hm2;cases hm2
        have hm1:H1 m=none:=by rw[Al (Ne.symm n1)] at hm2;exact hm2
        have sm:Same H1 (upd (upd H1 l (SetO X.w l (dedK zs))) m (.lst ((Cp zs).map V.str))):=(BR hl _).trans (BR hm2 _);refine k _ _ (s1.trans sm) (.lst (.of (xs:=(Cp zs).map V.str) ?_) (by simp) λ i v d h1 h2=>?_)
        · rw[Bp (λ z=>(o1.live m z).ne hm1),Ai]
        · rw[z0g] at h1 h2
          cases q:(Cp zs)[i]? with
          | none=>rw[q] at h1;cases h1
          | some z=>rw[q] at h1 h2;cases h1;cases h2;exact .str z
      · cases e4
  refine⟨ρ,dx,o,e1,λ v H1 s1 r1=>?_⟩;unfold ssD at e2;split at e2
  · obtain⟨pp,xs,ev,hs,r⟩:=r1.lst
    exact core _ v H1 pp xs s1 e2 ev (.inl hs) r
  · obtain⟨pp,xs,ev,hs,r⟩:=r1.tup
    exact core _ v H1 pp xs s1 e2 ev (.inr hs) r
  · cases e2
end
end PV
namespace PV
open PySem PySem.Spec L2
open PyProof.Rows hiding St
def getK {κ:Type} [DecidableEq κ] (k:κ):List (κ×D)->Option D
 | []=>none
 | p::r=>if p.1=k then some p.2 else getK k r
def repK {κ:Type} [DecidableEq κ] (k:κ) (v:D):List (κ×D)->List (κ×D)
 | []=>[]
 | p::r=>(p.1,if p.1=k then v else p.2)::repK k v r
def putL {κ:Type} [DecidableEq κ] (k:κ) (v:D) (kds:List (κ×D)):List (κ×D):=if (getK k kds).isSome then repK k v kds else kds++[(k,v)]
def keyD:D->Option Key
 | .int i=>some (.inl i)
 | .str x=>some (.inr x)
 | _=>none
def Qg:List D->Option (List Key)
 | []=>some []
 | d::r=>(keyD d).bind λ k=>(Qg r).map (k::·)
section
variable {κ:Type} [DecidableEq κ] {G:Gx}
theorem Nv {k:κ}:∀ {kds:List (κ×D)}{kvs:List (κ×V)},kvs.map (·.1)=kds.map (·.1)->RepL G H (kvs.map (·.2)) (kds.map (·.2))->(∀ d,getK k kds=some d->∃ v,valV kvs k=some v/\Rep G H v d)/\(valV kvs k).isSome=(getK k kds).isSome
 | [],kvs,e,r=>by
  cases kvs with
  | nil=>exact⟨λ d h=>by simp[getK] at h,rfl⟩
  | cons p q=>simp at e
 | p::kds,kvs,e,r=>by
  cases kvs with
  | nil=>simp at e
  | cons q kvs=>
   rw[z03,z03] at e;injection e with e1 e2
   rw[z03,z03] at r;obtain⟨x,ys,e3,r1,r2⟩:=r.uncons;injection e3 with e4 e5
   subst e4 e5;have ih:=Nv (k:=k) e2 r2
   by_cases h:p.1=k
   ·have h':q.1=k:=e1.trans h;rw[NB h'];refine⟨λ d hd=>?_,?_⟩
    ·simp only[getK,if_pos h] at hd;cases hd;exact⟨_,rfl,r1⟩
    ·simp[getK,if_pos h]
   ·have h':¬ q.1=k:=λ z=>h (e1.symm.trans z);rw[NK h'];simp only[getK,if_neg h];exact ih
theorem bH {k:κ}{v:V}{d:D}(rv:Rep G H v d):∀ {kds:List (κ×D)}{kvs:List (κ×V)},kvs.map (·.1)=kds.map (·.1)->RepL G H (kvs.map (·.2)) (kds.map (·.2)) ->
  (kvs.map λ kv=>if kv.1=k then (kv.1,v) else kv).map (·.1)=(repK k d kds).map (·.1)/\RepL G H ((kvs.map λ kv=>if kv.1=k then (kv.1,v) else kv).map (·.2)) ((repK k d kds).map (·.2))
 | [],kvs,e,r=>by
  cases kvs with
  | nil=>exact⟨rfl,RepL.nil⟩
  | cons p q=>simp at e
 | p::kds,kvs,e,r=>by
  cases kvs with
  | nil=>simp at e
  | cons q kvs=>
   rw[z03,z03] at e;injection e with e1 e2
   rw[z03,z03] at r;obtain⟨x,ys,e3,r1,r2⟩:=r.uncons;injection e3 with e4 e5
   subst e4 e5;have ih:=bH rv (k:=k) e2 r2
   by_cases h:p.1=k
   ·have h':q.1=k:=e1.trans h;refine⟨?_,?_⟩
    ·simp only[z03,if_pos h',repK];rw[ih.1,e1]
    ·simp only[z03,if_pos h',repK,if_pos h];exact .cons rv ih.2
   ·have h':¬ q.1=k:=λ z=>h (e1.symm.trans z);refine⟨?_,?_⟩
    ·simp only[z03,if_neg h',repK];rw[ih.1,e1]
    ·simp only[z03,if_neg h',repK,if_neg h];exact .cons r1 ih.2
theorem Wf {k:κ}{d:D}(rv:Rep G H v d) {kds:List (κ×D)}{kvs:List (κ×V)}(e:kvs.map (·.1)=kds.map (·.1)) (r:RepL G H (kvs.map (·.2)) (kds.map (·.2))) :
  (putK kvs k v).map (·.1)=(putL k d kds).map (·.1)/\RepL G H ((putK kvs k v).map (·.2)) ((putL k d kds).map (·.2)):=by
 delta putK putL;rw[Rq,(Nv (k:=k) e r).2];split
 ·exact bH rv e r
 ·rw[z0H,z0H,z0H,z0H,e];exact⟨rfl,r.append (.cons rv .nil)⟩
end
theorem Xv {G:Gx}{d:D}{k:Key}(r:RepT G A H v d) (h:keyD d=some k):v=kV k:=by
 cases d with
 | int i=>cases h;exact r.int
 | str x=>cases h;exact r.str
 | _=>cases h
theorem Lk {G:Gx}{d:D}{k:Key}(r:Rep G H v d) (h:keyD d=some k):v=kV k:=by
 cases d with
 | int i=>cases h;cases r;rfl
 | str x=>cases h;cases r;rfl
 | _=>cases h
theorem U7 {G:Gx}{H:Hp}:∀ {ds:List D}{vs:List V}{ks:List Key},RepL G H vs ds->Qg ds=some ks->vs=ks.map kV
 | [],vs,ks,r,h=>by cases h;exact r.nil_inv
 | d::ds,vs,ks,r,h=>by
  obtain⟨x,ys,rfl,r1,r2⟩:=r.uncons;cases e1:keyD d with
  | none=>simp[Qg,e1] at h
  | some k=>
   cases e2:Qg ds with
   | none=>simp[Qg,e1,e2] at h
   | some ks'=>
    simp[Qg,e1,e2] at h;subst h;rw[Lk r1 e1,U7 r2 e2];rfl
section
variable {G:Gx}{a b c:Expr}{fa fb fc:FE}{p2 px:Pos}{es:List Expr}{fs:FA}
theorem Nx:PN X G (.Dict [] [] pos) (kF (.dk [])):=λ A=>Ca iQ<|by
 rintro σ H Q ⟨ρ,d,o,e,k⟩
 cases e;exact λ p hp=>k p _ (BR hp _) hp ⟨[],Ai,rfl,RepL.nil⟩
theorem wy:PN X G (.Dict [] [] pos) (kF (.dt [])):=λ A=>Ca iR<|by
 rintro σ H Q ⟨ρ,d,o,e,k⟩
 cases e;exact λ p hp=>k p _ (BR hp _) hp ⟨[],Ai,rfl,RepL.nil⟩
theorem PN.pf (h:PN X G a fa):PF X G a fa:=λ A π s σ H Q I ⟨ρ,d,o,e,k⟩=>
 thn (@h A π s σ H (λ v H'=>∃ p,v=.ref p/\Same H H'/\H p=none/\Top G (p::A) H' p d) I ⟨ρ,d,o,e,λ p H' sm hp t=>⟨p,rfl,sm,hp,t⟩⟩)<|by
  rintro u s1 ⟨v,H1,I1,r1,p,ev,sm,hp,t⟩
  subst ev;have hpA:p∉A:=λ z=>(o.live p z).ne hp;have up:∀ ob,Same (hid (p::A) H1) (hid A (upd H1 p ob)):=λ ob=>by
   rw[<-CQ (A:=p::A) (H:=H1) (o:=ob) (z0i ..)];exact GR λ b hb=>z0b _ hb
  have sm':∀ ob,Same H (upd H1 p ob):=λ ob b u hb=>by
   rw[Al (λ z:b=p=>by rw[z,hp] at hb;cases hb)];exact sm b u hb
  cases d with
  | lst ds=>
   obtain⟨xs,a1,a2⟩:=t;have q:=a2.mono (GR (A:=A) (B:=p::A) (H:=H1) λ b hb=>z0b _ hb);exact⟨_,H1,I1,r1,k _ H1 sm (.lst (.of (by rw[Bp hpA];exact a1)) q.1 q.2)⟩
  | dk ds=>
   obtain⟨xs,a1,a2,a3⟩:=t;obtain⟨ob,I2⟩:=Inv.frzK I1 a1;exact⟨_,_,I2,r1,k _ _ (sm' _) (.dk (by rw[Bp hpA];exact Ai) a2 (a3.mono (up _)).2)⟩
  | dt ds=>
   obtain⟨xs,a1,a2,a3⟩:=t;obtain⟨ob,I2⟩:=Inv.frzT I1 a1;exact⟨_,_,I2,r1,k _ _ (sm' _) (.dt (by rw[Bp hpA];exact Ai) a2 (a3.mono (up _)).2)⟩
  | ob c gs=>
   obtain⟨C,dx,xs,a1,a2,a3⟩:=t;have q:=a3.mono (GR (A:=A) (B:=p::A) (H:=H1) λ b hb=>z0b _ hb);exact⟨_,H1,I1,r1,k _ H1 sm (.ob a2.1 (by rw[Bp hpA];exact a1) a2.2 q.2)⟩
  | _=>exact t.elim
theorem jh:PF X G (.Dict [] [] pos) (kF (.dk [])):=PN.pf Nx
def rDIn (neg:Bool):R2:=λ x y H Q=>∃ a kvs k,y=.ref a/\Rd H a (.dK kvs)/\x=kV k/\Q (.bl (if neg then !(valV kvs k).isSome else (valV kvs k).isSome)) H
theorem ZP (hu:X.A.units+1<cLine):OpR X (compareOp .In) (rDIn false):=by
 intro π s σ H x y v u Q I rx ry h;obtain⟨a,kvs,k,rfl,e,rfl,q⟩:=h;cases ry;exact d_in hu I (.inl ⟨kvs,k,e,rfl,rfl⟩) rx λ s' I'=>⟨.bl _,H,I',rfl,q⟩
theorem eO (hu:X.A.units+1<cLine):OpR X (compareOp .NotIn) (rDIn true):=by
 intro π s σ H x y v u Q I rx ry h;obtain⟨a,kvs,k,rfl,e,rfl,q⟩:=h;cases ry;exact n_ hu I (.inl ⟨kvs,k,e,rfl,rfl⟩) rx λ s' I'=>⟨.bl _,H,I',rfl,q⟩
def inE (neg:Bool) (x y:D):Option D:=match y with
 | .dk kds=>(keyD x).map λ k=>.bl (if neg then !(getK k kds).isSome else (getK k kds).isSome)
 | _=>inD neg x y
theorem pM (neg:Bool):Dh G (λ x y H Q=>rInA G.K neg x y H Q∨rDIn neg x y H Q) (inE neg):=by
 intro A H x y dx dy d Q lv rx ry h k;unfold inE at h;split at h
 ·rename_i kds;cases e:keyD dx with
  | none=>simp[e] at h
  | some q=>
   obtain⟨p,kvs,rfl,h1,h2,r⟩:=ry.dk;have h3:=(Nv (k:=q) h2 r).2;rw[e] at h;cases h;refine .inr ⟨p,kvs,q,rfl,h1,Xv rx e,?_⟩;rw[h3];exact k _ H (Same.refl H) (.bl _)
 ·exact .inl (jF neg A H x y dx dy d Q lv rx ry h k)
def rDIx:R2:=λ x y H Q=>∃ a kvs k v,x=.ref a/\Rd H a (.dK kvs)/\y=kV k/\valV kvs k=some v/\Q v H
theorem wz (hu:X.A.units+1<cLine):IxR X rDIx:=by
 intro value slice π s σ H x y v u Q I rx ry h hs;obtain⟨a,kvs,k,z,rfl,e,rfl,l,q⟩:=h;cases rx;have g:DGet H a (kV k) (some z):=.inl ⟨kvs,k,e,rfl,l.symm⟩;have hT:=XS I g;unfold subscriptTail;refine z00 ?_;rw[getitemInPython_of_ne hT.not_modules];refine z00 (wpAny_specialOf hT PySem.F.slot_dict_getitem.lookup ?_);have fin:wpAny (model X.prog X.w) X.A (subscripted slice false (.ref a) u) (λ r s₃=>wpAny (model X.prog X.w) X.A (letTemporaryGo value (.ref a) r >>= λ _=>pure r) (EP X π σ Q) X.xe s₃) X.xe s:=by
  rw[hs];exact wpAny_operating (dg hu I g ry λ w' s3 I3 rw'=>z00 (wpAny_letTemporaryGo (z01 ⟨z,H,I3,rw',q⟩)))
 first
  | exact z01 (z00 fin)
  | exact z00 (z01 (z00 fin))
  | exact z00 fin
def ixE (x y:D):Option D:=match x with
 | .dk kds=>(keyD y).bind λ k=>getK k kds
 | _=>ixD x y
theorem pO:Dh G (λ x y H Q=>rIx G.K x y H Q∨rDIx x y H Q) ixE:=by
 intro A H x y dx dy d Q lv rx ry h k;unfold ixE at h;split at h
 ·rename_i kds;cases e:keyD dy with
  | none=>simp[e] at h
  | some q=>
   obtain⟨p,kvs,rfl,h1,h2,r⟩:=rx.dk;simp[e] at h;obtain⟨v,h3,r3⟩:=(Nv (k:=q) h2 r).1 d h;exact .inr ⟨p,kvs,q,v,rfl,h1,Xv ry e,h3,k v H (Same.refl H) r3⟩
 ·exact .inl (jE A H x y dx dy d Q lv rx ry h k)
theorem ut (hu:X.A.units+1<cLine) (hG:G.K=X.K) (ha:PU X G a fa) (hb:PU X G b fb) (hs:M9 b):PF X G (.Subscript a b pos) (bF ixE fa fb):=
 λ A=>Ca (rF (r:=λ x y H Q=>rIx X.K x y H Q∨rDIx x y H Q) (gm.or (wz hu)) (@ha A) (@hb A) hs) λ _ _ _ h=>R5 (by rw[<-hG];exact pO) h
def Dc (x y v:D):Option D:=match x with
 | .dk kds=>(keyD y).bind λ k=>if kds.length<sizeLine then some (.dk (putL k v kds)) else none
 | _=>none
def putF (i:Nat) (fk fv:FE):FS:=λ ρ=>(fv ρ).bind λ v=>(fk ρ).bind λ y=>(ownO ρ i).bind λ x=>(Dc x y v).map λ z=>.nx (ρ.set i (.ow z))
theorem eQ {ρ:Rho}{o:Out}(h:putF i fa fb ρ=some o):∃ v y x z,fb ρ=some v/\fa ρ=some y/\ρ[i]?=some (.ow x)/\Dc x y v=some z/\o=.nx (ρ.set i (.ow z)):=by
 unfold putF at h;cases e1:fb ρ with
 | none=>simp[e1] at h
 | some v=>
  cases e2:fa ρ with
  | none=>simp[e1,e2] at h
  | some y=>
   cases e3:ownO ρ i with
   | none=>simp[e1,e2,e3] at h
   | some x=>
    cases e4:Dc x y v with
    | none=>simp[e1,e2,e3,e4] at h
    | some z=>
     simp[e1,e2,e3,e4] at h;exact⟨v,y,x,z,rfl,rfl,Pr e3,e4,h.symm⟩
theorem J4 {x:Str}(hu:X.A.units+1<cLine) (hv:PE X (.Name x xpos) (tVar i)) (ha:PF X G a fa) (hb:PF X G b fb)
  (hs:swapsWith b (some (.Subscript (.Name x xpos) a spos)) pos.line X.env=pure false:=by rfl):PSD X G (.Assign [.Subscript (.Name x xpos) a spos] b pos) (putF i fa fb):=by
 rintro A0 He π s σ H D I ⟨ρ,o,⟨A,w⟩,e,k⟩
 obtain⟨v,y,x0,z,e1,e2,hi,e3,rfl⟩:=eQ e;refine Vk hu hv (@ha A) (@hb A) hs π s σ H D I ?_;unfold Dc at e3;split at e3
 ·rename_i kds;cases e4:keyD y with
  | none=>simp[e4] at e3
  | some q=>
   simp only[e4,z0c] at e3;split at e3
   ·rename_i hz;cases e3;obtain⟨p,h1,hA,kvs,h2,hk,r⟩:=w.ok.ow i _ hi;refine⟨ρ,v,w.ok,e1,λ u H1 s1 r1=>⟨_,h1,ρ,y,(w.mono s1).ok,e2,λ yv H2 s2 r2=>?_⟩⟩;have ek:=Lk r2 e4;subst ek;have hl:kvs.length<sizeLine:=by
     have:=congrArg List.length hk;rw[z02,z02] at this;omega
    refine⟨p,_,rfl,DPut.k (s2 _ _ (s1 _ _ h2)) hl,?_⟩;have w2:=(w.mono s1).mono s2;have pk:=Wf (k:=q) (r1.mono (BV s2)) hk (r.mono (BV (s1.trans s2)));refine k _ _ ⟨A,w2.wr hi h1 ⟨_,Ai,pk.1,?_⟩⟩;rw[CQ hA];exact pk.2
   ·cases e3
 ·cases e3
def bI:D->Option D
 | .dk kds=>some (.dk kds)
 | _=>none
theorem ZQ:Eb X (.type "dict") (λ xs H Q=>∃ a kvs,xs=[.ref a]/\Rd H a (.dK kvs)/\∀ p,H p=none->Q (.ref p) (upd H p (.dK kvs))):=by
 intro π s σ H xs us Q I rs h;obtain⟨a,kvs,rfl,e,q⟩:=h;obtain⟨u,rfl,ru⟩:=rs.one;cases ru;exact iT I e λ p s' hp I'=>⟨.ref p,_,I',rfl,q p hp⟩
theorem pP {x:Str}{p:Pos}(hg:Gl X x) (hm:X.mg x=none) (hv:bootBuiltins x=some (.type "dict")) (ha:PU X G a fa)
  (hn:x≠"__name__":=by decide) (hdb:(x==("__debug__":Str))=false:=by decide) (he:starEach [a] X.env=[(false,eval a X.env)]:=by rfl):PN X G (.Call (.Name x p) [a] [] pos) (uF bI fa):=
 λ A=>Ca (O_ ZQ hg hm hv (BZ (@ha A) Cz he) hn hdb he rfl)<|by
  rintro σ H Q ⟨ρ,d,o,e,k⟩
  obtain⟨x0,e1,e2⟩:=JF e;unfold bI at e2;split at e2
  ·cases e2;refine⟨ρ,_,o,e1,λ v H1 s1 r1=>?_⟩;obtain⟨q,kvs,rfl,h1,h2,r⟩:=r1.dk;exact⟨q,kvs,rfl,h1,λ p hp=>k p _ (s1.trans (BR hp _)) (s1.free hp) ⟨kvs,Ai,h2,r.mono (Jo (BR hp _) hp)⟩⟩
  ·cases e2
end
theorem J5 {α β:Type}{R:α->β->Prop}:∀ {xs:List α}{ys:List β}{i:Nat}{x:α}{y:β},Paired R xs ys->xs[i]?=some x->ys[i]?=some y->R x y
 | _,_,i,x,y,.nil,h,_=>by simp at h
 | _,_,0,x,y,.cons r _,h1,h2=>by
  simp at h1 h2;rw[<-h1,<-h2];exact r
 | _,_,i+1,x,y,.cons _ t,h1,h2=>J5 t (by simpa using h1) (by simpa using h2)
def Itd (a:Addr) (o:Obj) (kvs:List (Key×V)):It:=
 ⟨λ i H=>H a=some (.frz o (.dK kvs))/\i<kvs.length,λ i H x H'=>H'=H/\∃ p,kvs[i]?=some p/\x=kV p.1,λ i H=>H a=some (.frz o (.dK kvs))/\kvs.length<=i⟩
theorem relK {k:Key}(h:(Bj P w).is k u=true):RelV (kV k) u:=by
 rcases Ci h with ⟨i,t,rfl,rfl⟩ | ⟨x,t,rfl,rfl⟩
 ·exact⟨t,rfl⟩
 ·exact⟨t,rfl⟩
theorem Px {o:Obj}{kvs:List (Key×V)}{es:Array DictEntry}(I:Inv X π σ H s) (e:H a=some (.frz o (.dK kvs))) (hd:o.data=.dict es ep) :
  (a==sysModules)=false/\∃ vs,KV kvs vs/\s.heap.DictAt (Bj X.prog X.w) a vs ep:=by
 obtain⟨ho,z,hm,vs,rel,o',es',ep',ho',h1,h2,h3⟩:=(show Bt X.prog X.w H s.heap a (.frz o (.dK kvs)) from I.hok a _ e);rw[ho] at ho';cases ho';rw[hd] at h2;cases h2;exact⟨hm,vs,rel,o,es,ho,h1,hd,h3⟩
theorem eU {K:zFr}(a it:Addr) {o:Obj}{es:Array DictEntry}{ep:Nat}(hd:o.data=.dict es ep) (kvs:List (Key×V)):Turn P w K tg (Itd a o kvs) [it] it (λ i h=>h.IsKeyIter it a i kvs.length ep) where
 mem:=by simp
 obj:=λ i h st b hb=>by
  have e:b=it:=by simpa using hb
  subst e;obtain⟨o,e,c,d⟩:=st;exact⟨o,e,λ v z=>by rw[d] at z;cases z⟩
 keep:=λ i h h' st k=>let ⟨o,e,c,d⟩:=st;⟨o,k it (by simp) o e,c,d⟩
 item:=by
  intro X hP hw hK hc i π s σ H E I hf st hg;subst hP hw hK;obtain⟨he,hi⟩:=hg;obtain⟨hm,vs,rel,dd⟩:=Px I he hd;have hl:kvs.length=vs.length:=rel.length;obtain⟨f0,f1,f2,f3,f4,f5⟩:=hf it (by simp);have hv:vs[i]?=some (vs[i]'(by omega)):=by simp[show i<vs.length by omega]
  have hk:kvs[i]?=some (kvs[i]'hi):=by simp[hi]
  have hkk:(kvs[i]'hi).1=(vs[i]'(by omega)).1:=(J5 rel hk hv).1;refine wpAny_pyNext_dict_item (knd:=Bj X.prog X.w) (kvs:=vs) (k:=(vs[i]'(by omega)).1) (v:=(vs[i]'(by omega)).2) (by rw[<-hl];exact st) dd hv λ key h' hkey st' sb=>?_;rw[<-hl] at st';have I1:Inv X π σ H { s with heap:=h' }:=I.turned (t':=s.toks) (λ b o hb e=>(sb.2 b hb).trans e) f0 f1 f3 f4 f5;obtain⟨o1,e1,c1,d1⟩:=id st';exact⟨key,rfl,XM (s:={ s with heap:=h' }) e1 c1 d1 (by decide) ⟨kV (kvs[i]'hi).1,H,I1,by rw[hkk];exact relK hkey,⟨rfl,_,hk,rfl⟩,st',λ b hb=>(hf b hb).1⟩⟩
 done:=by
  intro X hP hw hK hc i π s σ H E I hf st hg;subst hP hw hK;obtain⟨he,hi⟩:=hg;obtain⟨hm,vs,rel,dd⟩:=Px I he hd;have hl:kvs.length=vs.length:=rel.length;obtain⟨f0,f1,f2,f3,f4,f5⟩:=hf it (by simp);exact wpAny_pyNext_dict_end (I.ok.hd hc) (by rw[<-hl];exact st) dd (by rw[z1P];omega) λ h' eb=>⟨rfl,I.turned (t':=s.toks) (λ b o hb e=>eb b o hb e) f0 f1 f3 f4 f5⟩
 self:=λ _ _ _ _ _ st h=>wpAny_pyIter_keyiter st h
section
variable {G:Gx}{a b c:Expr}{fa fb fc:FE}{p2:Pos}{tl:TE}
def xF (tl:TE):TI:=λ σ H R=>tl σ H λ x H1=>∃ a o kvs,x=.ref a/\H1 a=some (.frz o (.dK kvs))/\R (Itd a o kvs) H1
theorem pQ (hl:PE X l tl):PI X tg l (xF tl):=by
 intro π s σ H R I h;refine thn (hl π s σ H _ I h) λ v s1 ⟨x,H1,I1,r1,q1⟩=>?_;obtain⟨a,o,kvs,e,hq,q⟩:=q1;subst e;cases r1;obtain⟨_,_,_,_,_,o',es,ep,ho',h1,h2,_⟩:=(show Bt X.prog X.w H1 s1.heap a (.frz o (.dK kvs)) from I1.hok a _ hq);obtain⟨ho,_⟩:=(show Bt X.prog X.w H1 s1.heap a (.frz o (.dK kvs)) from I1.hok a _ hq);rw[ho] at ho';cases ho';obtain⟨hm,vs,rel,dd⟩:=Px I1 hq h2;have hl':kvs.length=vs.length:=rel.length;refine wpAny_pyIter_dict hm dd ?_;refine⟨s1.heap.objs.size,[s1.heap.objs.size],_,_,H1,rfl,I1.kept (t':=s1.toks) λ b o e=>z05 _ e,eU a _ h2 kvs,⟨_,z0f _ rfl,rfl,by rw[hl'];rfl⟩,λ b hb=>?_,q⟩;have e:b=s1.heap.objs.size:=by simpa using hb
 subst e;exact I1.fpOk (z04 _) (I1.hok.fresh (z04 _))
def kDt:Key->D
 | .inl i=>.int i
 | .inr x=>.str x
theorem RT (k:Key):Rep G H (kV k) (kDt k):=by
 cases k with
 | inl i=>exact .int i
 | inr x=>exact .str x
def seqE (f:FE):FI:=λ ρ=>match f ρ with | some (.lst ds)=>some ds | some (.tup ds)=>some ds | some (.dk kds)=>some (kds.map λ p=>kDt p.1) | _=>none
theorem ji {o:Obj}{kvs:List (Key×V)}{kds:List (Key×D)}(h:F1 p=some (.frz o (.dK kvs))) (e:kvs.map (·.1)=kds.map (·.1)):Src G (Itd p o kvs) (kds.map λ p=>kDt p.1) F1 F2:=by
 have hl:kvs.length=kds.length:=by have:=congrArg List.length e;rwa [z02,z02] at this
 refine⟨λ i H s hi=>⟨s _ _ h,by rw[hl];rwa [z02] at hi⟩,λ i H x H' d s hd y=>?_,λ i H s hi=>⟨s _ _ h,by rw[hl];rwa [z02] at hi⟩⟩;obtain⟨y1,q,y2,y3⟩:=y;refine Pk ⟨y1,?_⟩;have e1:(kvs.map (·.1))[i]?=some q.1:=by rw[z0g,y2];rfl
 rw[e,z0g] at e1;rw[z0g] at hd;cases e2:kds[i]? with
 | none=>rw[e2] at hd;cases hd
 | some z=>
  rw[e2] at e1 hd;cases hd;injection e1 with e1
  rw[y3,<-e1];exact RT _
theorem jj (hG:G.K=X.K) (h:PF X G a fa):PFI X G false tg a (seqE fa):=λ A=>R8 (piOr (oh hG h (A:=A)) (pQ (@h A)))<|by
 rintro σ H R ⟨ρ,ds,o,e,k⟩
 unfold seqE at e;split at e
 ·rename_i ds' e1;cases e;exact .inl ⟨ρ,_,o,by delta seqI;rw[e1],k⟩
 ·rename_i ds' e1;cases e;exact .inl ⟨ρ,_,o,by delta seqI;rw[e1],k⟩
 ·rename_i kds e1;cases e;refine .inr ⟨ρ,_,o,e1,λ v H1 s1 r1=>?_⟩;cases r1 with
  | dk h l r=>exact⟨_,_,_,rfl,BK _ _ h,k _ H1 s1 (ji h l)⟩
 ·cases e
end
section
variable {A:Around}
theorem xG {l:Addr}{its:Array Value}(ne:l≠it):∀ (m i:Nat) (s:Shared) (Q:List Value->Shared->Prop),s.heap.IsListIter it l i->s.heap.IsList l its->i+m=its.size ->
  (∀ h',h'.IsListIter it l its.size->Heap.SameBut it s.heap h'->Q (its.toList.drop i) { s with heap:=h' })->wpAny (model prog w) A (draw (.ref it) m) Q E s:=by
 intro m
 induction m with
 | zero=>
  intro i s Q hi hl hm k;refine z01 ?_;have hz:i=its.size:=by omega
  have e:its.toList.drop i=[]:=by rw[List.drop_eq_nil_iff];simp[hz]
  rw[<-e];exact k s.heap (hz▸hi) (Heap.SameBut.refl ..)
 | succ m ih=>
  intro i s Q hi hl hm k;have lt:i<its.size:=by omega
  refine z00 (m:=pyNext (.ref it)) (wpAny_pyNext_list_item hi hl (x:=its[i]) (by simp[lt]) λ h1 hi1 sb1=>?_);have hl1:h1.IsList l its:=let ⟨o,e,r⟩:=hl;⟨o,(sb1.2 l ne).trans e,r⟩;refine z00 (z0z (ih (i+1) _ _ hi1 hl1 (by omega) λ h2 hi2 sb2=>z01 ?_));have e:its.toList.drop i=its[i]::its.toList.drop (i+1):=by simp[z1A,lt]
  rw[<-e];exact k h2 hi2 (sb1.trans sb2)
theorem pR {l:Addr}{its:Array Value}{Q:List Value->Shared->Prop}(hh:A.handled=none) (hl:s.heap.IsList l its)
  (k:∀ h',Heap.ExtBut s.heap.objs.size s.heap h'->Q its.toList { s with heap:=h' }):wpAny (model prog w) A (unpackItems (.ref l) its.size none) Q E s:=by
 have ne:l≠s.heap.objs.size:=by obtain⟨o,ho,_⟩:=hl;exact z08 (z06 ho)
 have ty:s.TypeIs (.ref l) "list":=let ⟨o,e,c,_⟩:=hl;⟨o,e,c⟩;unfold unpackItems notIterableAtAll;refine z00 (z00 (wpAny_specialOf ty PySem.F.slot_list_iter.lookup (z01 ?_)));simp only[Bool.false_eq_true,if_false];refine z00 (z0z (wpAny_pyIter_list hl ?_));have hl0:(s.heap.push { cls:=.type "list_iterator",data:=.fields #[.ref l,.int 0 0] }).IsList l its:=let ⟨o,e,r⟩:=hl;⟨o,z05 _ e,r⟩;refine z00 (z0z (xG ne its.size 0 _ _ ⟨_,z0f _ rfl,rfl,rfl⟩ hl0 (by omega) λ h1 hi1 sb1=>?_));rw[List.drop_zero,if_neg (by simp)];have hl1:h1.IsList l its:=let ⟨o,e,r⟩:=hl0;⟨o,(sb1.2 l ne).trans e,r⟩;refine z00 (z0z (wpAny_pyNext_list_end hh hi1 hl1 (by simp) λ h2 eb=>?_));simp only[z1E,Bool.false_eq_true,if_false];exact z01 (k h2 λ b o hb e=>eb b o hb ((sb1.2 b hb).trans (z05 _ e)))
end
section
variable {G:Gx}{a b c:Expr}{fa fb fc:FE}{p2:Pos}{es:List Expr}
def gLst (K:zFr) (n:Nat) (t:TGs):TG:=λ v σ H Q=>∃ a xs,v=.ref a/\SqL K H a xs/\xs.length=n/\t xs σ H Q
theorem uv {k:Nat}{t:TGs}(hc:X.calm=true) (h:PGs X es t)
  (hn:(assignEach es X.env).length=n:=by rfl) (hst:(assignEach es X.env).findIdx? (·.1)=none:=by rfl):PG X (.Tuple es k pos) (gLst X.K n t):=by
 intro π s σ H v u Q I r hw;obtain⟨a,xs,rfl,hq,hl,hw⟩:=hw;cases r;obtain⟨its,rv,ht,hz⟩:=I.list hq;rw[assign_Tuple];refine z00 (wpAny_standAt ?_);unfold unpack;have e:(assignEach es X.env).length=its.toArray.size:=by simp[hn,<-hl,rv.length]
 rw[e,hst];refine z00 (z0z (pR (I.ok.hd hc) ht.isList λ h' hx=>?_));have I1:Inv X π σ H { s with heap:=h' }:=I.kept (t':=s.toks) λ b o e=>hx b o (z08 (z06 e)) e;exact h π _ σ H xs _ Q I1 (by simpa using rv) hw
theorem PG.or {t t':TG}(h:PG X tg t) (h':PG X tg t'):PG X tg (λ v σ H Q=>t v σ H Q∨t' v σ H Q):=λ π s σ H v u Q I r q=>by
 rcases q with q | q
 ·exact h π s σ H v u Q I r q
 ·exact h' π s σ H v u Q I r q
abbrev FGs:=List D->Rho->Option Rho
def nilG:FGs:=λ ds ρ=>match ds with | []=>some ρ | _=>none
def Cy (i:Nat) (g:FGs):FGs:=λ ds ρ=>match ds with | d::r=>g r (ρ.set i (.fz d)) | []=>none
def tupG (n:Nat) (g:FGs):FG:=λ d ρ=>match d with
 | .tup ds=>if ds.length=n then g ds ρ else none
 | .lst ds=>if ds.length=n then g ds ρ else none
 | _=>none
def tGDs (G:Gx) (A0:List Addr) (He:Hp) (g:FGs):TGs:=λ vs σ H Q=>∃ A ρ ds ρ',OkW G A0 He A σ H ρ/\RepL G (hid A H) vs ds/\g ds ρ=some ρ'/\∀ σ' H',OkS G A0 He σ' H' ρ'->Q σ' H'
def PGDs (X:Cx) (G:Gx) (es:List Expr) (g:FGs):Prop:=∀ ⦃A0⦄ He,PGs X es (tGDs G A0 He g)
theorem Ku:PGDs X G [] nilG:=by
 rintro A0 He π s σ H vs us Q I r ⟨A,ρ,ds,ρ',w,rv,e,k⟩
 unfold nilG at e;split at e
 ·cases e;exact nJ π s σ H vs us Q I r ⟨rv.nil_inv,k _ _ ⟨A,w⟩⟩
 ·cases e
theorem Dj {g:FGs}(h1:PG X e (Kd i)) (h2:PGDs X G es g)
  (hs:(assignEach (e::es) X.env).map (·.2)=assign e X.env::(assignEach es X.env).map (·.2):=by rfl):PGDs X G (e::es) (Cy i g):=by
 rintro A0 He π s σ H vs us Q I r ⟨A,ρ,ds,ρ',w,rv,e,k⟩
 unfold Cy at e;split at e
 ·rename_i d ds';obtain⟨x,ys,rfl,r1,r2⟩:=rv.uncons;exact gG h1 (@h2 A0 He) hs π s σ H _ us Q I r ⟨x,ys,rfl,A,_,ds',ρ',w.set r1 i,r2,e,k⟩
 ·cases e
theorem Ny {k:Nat}{g:FGs}(hG:G.K=X.K) (hc:X.calm=true) (h:PGDs X G es g)
  (hn:(assignEach es X.env).length=n:=by rfl) (hst:(assignEach es X.env).findIdx? (·.1)=none:=by rfl):PGD X G (.Tuple es k pos) (tupG n g):=by
 rintro A0 He π s σ H v u Q I r ⟨A,ρ,d,ρ',w,rv,e,k⟩
 refine PG.or (uE hc (@h A0 He) hn hst) (uv hc (@h A0 He) hn hst) π s σ H v u Q I r ?_;unfold tupG at e;split at e
 ·rename_i ds;split at e
  ·rename_i hl;cases rv with
   | tup h1 l1 r1=>exact .inl ⟨_,_,rfl,by rw[<-hG];exact IV BK h1,by rw[l1];exact hl,A,ρ,ds,ρ',w,⟨l1,r1⟩,e,k⟩
  ·cases e
 ·rename_i ds;split at e
  ·rename_i hl;cases rv with
   | lst h1 l1 r1=>exact .inr ⟨_,_,rfl,by rw[<-hG];exact BK.seq h1,by rw[l1];exact hl,A,ρ,ds,ρ',w,⟨l1,r1⟩,e,k⟩
  ·cases e
 ·cases e
def asgF (f:FE) (g:FG):FS:=λ ρ=>(f ρ).bind λ d=>(g d ρ).map .nx
theorem pW {g:FG}(hg:PGD X G tg g) (ha:PF X G a fa) (hs:swapsWithSole [tg] a pos.line X.env=pure false:=by rfl) (hw:swappedStores [tg] a X.env=pure none:=by rfl)
  (h1:(assignEach [tg] X.env).map (·.2)=[assign tg X.env]:=by rfl):PSD X G (.Assign [tg] a pos) (asgF fa g):=by
 rintro A0 He π s σ H D I ⟨ρ,o,⟨A,w⟩,e,k⟩
 unfold asgF at e;cases e1:fa ρ with
 | none=>simp[e1] at e
 | some d=>
  cases e2:g d ρ with
  | none=>simp[e1,e2] at e
  | some ρ'=>
   simp[e1,e2] at e;subst e;exact gH (@ha A) (@hg A0 He) hs hw h1 π s σ H D I ⟨ρ,d,w.ok,e1,λ v H1 s1 r1=>⟨A,ρ,d,ρ',w.mono s1,r1,e2,λ σ' H' ok=>k σ' H' ok⟩⟩
theorem Ed:Eb X (.builtin "len") (λ xs H Q=>∃ a kvs,xs=[V.ref a]/\Rd H a (.dK kvs)/\Q (.int kvs.length) H):=by
 intro π s σ H xs us Q I rs h;obtain⟨a,kvs,rfl,e,q⟩:=h;obtain⟨u,rfl,ru⟩:=rs.one;cases ru;exact wW I e λ t s' I'=>⟨.int kvs.length,H,I',⟨t,rfl⟩,q⟩
def lenE:D->Option D
 | .dk kds=>some (.int kds.length)
 | d=>lenD d
theorem Hd:SndC G (λ xs H Q=>(∃ x n,xs=[x]/\LenV G.K x H n/\Q (.int n) H)∨∃ a kvs,xs=[V.ref a]/\Rd H a (.dK kvs)/\Q (.int kvs.length) H) lenE:=by
 intro A H x dx d Q lv rx h k;unfold lenE at h;split at h
 ·cases h;obtain⟨p,kvs,rfl,h1,h2,r⟩:=rx.dk;have hl:=congrArg List.length h2;rw[z02,z02] at hl;refine .inr ⟨p,kvs,rfl,h1,?_⟩;rw[hl];exact k _ H (Same.refl H) (.int _)
 ·exact .inl (Li A H x dx d Q lv rx h k)
end
def Iti (a:Addr) (o:Obj) (kvs:List (Key×V)):It:=
 ⟨λ i H=>H a=some (.frz o (.dK kvs))/\i<kvs.length,λ i H x H'=>∃ T p,H T=none/\kvs[i]?=some p/\x=.ref T/\H'=upd H T (.tup [kV p.1,p.2]),λ i H=>H a=some (.frz o (.dK kvs))/\kvs.length<=i⟩
theorem ZR {K:zFr}(a it:Addr) {o:Obj}{es:Array DictEntry}{ep:Nat}(hd:o.data=.dict es ep) (kvs:List (Key×V)) :
  Turn P w K (.Tuple elts x1 tp) (Iti a o kvs) [it] it (λ i h=>∃ ok ov,IsItemIter h it a i kvs.length ep ok ov) where
 mem:=by simp
 obj:=λ i h st b hb=>by
  have e:b=it:=by simpa using hb
  subst e;obtain⟨ok,ov,e⟩:=st;exact⟨_,e,λ v z=>by
   have z':Data.fields _=Data.cell v:=z;cases z'⟩
 keep:=λ i h h' st k=>let ⟨ok,ov,e⟩:=st;⟨ok,ov,k it (by simp) _ e⟩
 item:=by
  intro X hP hw hK hc i π s σ H E I hf st hg;subst hP hw hK;obtain⟨he,hi⟩:=hg;obtain⟨ok,ov,st⟩:=st;obtain⟨hm,vs,rel,dd⟩:=Px I he hd;have hl:kvs.length=vs.length:=rel.length;obtain⟨f0,f1,f2,f3,f4,f5⟩:=hf it (by simp);have hv:vs[i]?=some (vs[i]'(by omega)):=by simp[show i<vs.length by omega]
  have hk:kvs[i]?=some (kvs[i]'hi):=by simp[hi]
  obtain⟨hkk,hvv⟩:=J5 rel hk hv;have hlt:it<s.heap.objs.size:=z06 st;refine wpAny_pyNext_items_item (knd:=Bj X.prog X.w) (kvs:=vs) (k:=(vs[i]'(by omega)).1) (v:=(vs[i]'(by omega)).2) (by rw[<-hl];exact st) dd hv λ key h1 hkey out ht hz kk=>?_;refine⟨_,rfl,wpAny_letOwnedTupleGo_items (s:={ s with heap:=h1 }) out λ h2 st2 sb=>?_⟩;have hT:H s.heap.objs.size=none:=I.hok.fresh (z04 _);have rk:RelV (kV (kvs[i]'hi).1) key:=by rw[hkk];exact relK hkey
  have I1:Inv X π σ (upd H s.heap.objs.size (.tup [kV (kvs[i]'hi).1,(kvs[i]'hi).2])) { s with heap:=s.heap.push { cls:=.type "tuple",data:=.seq #[key,(vs[i]'(by omega)).2] } }:=
   I.laid (a:=s.heap.objs.size) (t':=s.toks) (λ b u e=>z05 _ e) (z04 _) ⟨by show 2<=sizeLine;decide,[key,(vs[i]'(by omega)).2],.cons rk (.cons hvv .nil),_,z0f _ rfl,rfl,_,rfl⟩
  have kp:∀ b u,b≠it->(s.heap.push { cls:=.type "tuple",data:=.seq #[key,(vs[i]'(by omega)).2] }).get? b=some u->h2.get? b=some u:=λ b u hb e=>by
   refine (sb.2 b hb).trans ?_
   rcases Heap.get?_push_cases e with ⟨rfl,rfl⟩ | e'
   ·exact ht
   ·exact kk b u hb e'
  have I2:=L2.Inv.turned (t':=s.toks) (it:=it) (h':=h2) I1 kp (by rw[Al (z08 hlt)];exact f0) f1 f3 f4 f5;refine⟨.ref s.heap.objs.size,_,I2,rfl,⟨_,_,hT,hk,rfl,rfl⟩,⟨key,(vs[i]'(by omega)).2,by rw[hl];exact st2⟩,λ b hb=>?_⟩;have e:b=it:=by simpa using hb
  subst e;rw[Al (z08 hlt)];exact f0
 done:=by
  intro X hP hw hK hc i π s σ H E I hf st hg;subst hP hw hK;obtain⟨he,hi⟩:=hg;obtain⟨ok,ov,st⟩:=st;obtain⟨hm,vs,rel,dd⟩:=Px I he hd;have hl:kvs.length=vs.length:=rel.length;obtain⟨f0,f1,f2,f3,f4,f5⟩:=hf it (by simp);exact wpAny_pyNext_items_end (I.ok.hd hc) (by rw[<-hl];exact st) dd (by rw[z1P];omega) λ h' eb=>⟨rfl,I.turned (t':=s.toks) (λ b o hb e=>eb b o hb e) f0 f1 f3 f4 f5⟩
 self:=λ _ _ _ _ _ ⟨ok,ov,st⟩ h=>PySem.W.kcp_self st h
section
variable {G:Gx}{a b c:Expr}{fa fb fc:FE}{p2:Pos}{tl:TE}
def uw (tl:TE):TI:=λ σ H R=>tl σ H λ x H1=>∃ a o kvs,x=.ref a/\H1 a=some (.frz o (.dK kvs))/\R (Iti a o kvs) H1
theorem jk {cpos:Pos}(hl:PE X l tl) (hbase:attributeBase l "items" X.env (eval l X.env)=eval l X.env:=by rfl) (hline:(apos.endLine==cpos.line)=true:=by rfl) :
  PI X (.Tuple elts x1 tp) (.Call (.Attribute l "items" apos) [] [] cpos) (uw tl):=by
 intro π s σ H R I h;refine wpAny_Call_method (T:="dict") (id:="dict.items") hbase rfl hline F.plainAttrs_dict F.slot_dict_items F.type_dict_items (thn (hl π s σ H _ I h) λ v s1 ⟨x,H1,I1,r1,q1⟩=>?_);obtain⟨a,o,kvs,e,hq,q⟩:=q1;subst e;cases r1;obtain⟨_,_,_,_,_,o',es,ep,ho',h1,h2,_⟩:=(show Bt X.prog X.w H1 s1.heap a (.frz o (.dK kvs)) from I1.hok a _ hq);obtain⟨ho,_⟩:=(show Bt X.prog X.w H1 s1.heap a (.frz o (.dK kvs)) from I1.hok a _ hq);rw[ho] at ho';cases ho';obtain⟨hm,vs,rel,dd⟩:=Px I1 hq h2;have hl':kvs.length=vs.length:=rel.length;have hm1:=dd.dictOf;refine⟨hm1.typeIs,hm1.mapOf.noDict,?_⟩;show wpAny _ _ (callWith cpos (.builtin "dict.items") [.ref a] [] []) _ _ s1;refine method_meetsIn F.slot_dict_items F.entry_dict_items rfl (PySem.evalArgs_none ⟨rfl,hm1.typeIs,F.args_dict_items_1 _,_,meets_dict_items (Bj X.prog X.w) a hm,⟨vs,hm1⟩,?_⟩);have I2:Inv X π σ H1 { s1 with heap:=s1.heap.push { cls:=.type "dict_items",data:=.fields #[.ref a] } }:=I1.kept (t':=s1.toks) λ b o e=>z05 _ e;refine wpAny_pyIter_items (knd:=Bj X.prog X.w) (kvs:=vs) (s:={ s1 with heap:=s1.heap.push { cls:=.type "dict_items",data:=.fields #[.ref a] } }) ⟨_,z0f _ rfl,rfl,rfl⟩ (dd.push _) ?_;refine⟨(s1.heap.push { cls:=.type "dict_items",data:=.fields #[.ref a] }).objs.size,[(s1.heap.push { cls:=.type "dict_items",data:=.fields #[.ref a] }).objs.size],_,_,H1,rfl,I2.kept (t':=s1.toks) λ b o e=>z05 _ e,ZR a _ h2 kvs,⟨.none,.none,?_⟩,λ b hb=>?_,q⟩
 ·rw[hl'];exact z0f _ rfl
 ·have e:b=(s1.heap.push { cls:=.type "dict_items",data:=.fields #[.ref a] }).objs.size:=by simpa using hb
  subst e;exact I2.fpOk (z04 _) (I2.hok.fresh (z04 _))
def Mu (f:FE):FI:=λ ρ=>match f ρ with | some (.dk kds)=>some (kds.map λ p=>.tup [kDt p.1,p.2]) | _=>none
theorem jl {α β:Type}{f:α->β}{l:List α}{y:β}(h:(l.map f)[i]?=some y):∃ x,l[i]?=some x/\f x=y:=by
 rw[z0g] at h;exact Option.map_eq_some_iff.mp h
theorem eV {o:Obj}{kvs:List (Key×V)}{kds:List (Key×D)}(h:F1 p=some (.frz o (.dK kvs))) (e:kvs.map (·.1)=kds.map (·.1)) (r:RepL G F2 (kvs.map (·.2)) (kds.map (·.2))) :
  Src G (Iti p o kvs) (kds.map λ p=>.tup [kDt p.1,p.2]) F1 F2:=by
 have hl:kvs.length=kds.length:=by have:=congrArg List.length e;rwa [z02,z02] at this
 refine⟨λ i H s hi=>⟨s _ _ h,by rw[hl];rwa [z02] at hi⟩,λ i H x H' d s hd y=>?_,λ i H s hi=>⟨s _ _ h,by rw[hl];rwa [z02] at hi⟩⟩;obtain⟨T,q,hT,y2,rfl,rfl⟩:=y;obtain⟨z,hz,rfl⟩:=jl hd;have e1:(kvs.map (·.1))[i]?=some q.1:=by rw[z0g,y2];rfl
 rw[e,z0g,hz] at e1;injection e1 with e1
 have rz:Rep G F2 q.2 z.2:=r.2 i q.2 z.2 (by rw[z0g,y2];rfl) (by rw[z0g,hz];rfl);refine⟨BR hT _,λ B lv sm=>?_⟩;have rr:RepL G (hid B H) [kV q.1,q.2] [kDt z.1,z.2]:=.cons (by rw[<-e1];exact RT _) (.cons (rz.mono sm) .nil);exact Kq lv hT rr
theorem U8 {top:Bool}{cpos:Pos}(h:PF X G a fa) (hbase:attributeBase a "items" X.env (eval a X.env)=eval a X.env:=by rfl) (hline:(apos.endLine==cpos.line)=true:=by rfl) :
  PFI X G false (.Tuple elts x1 tp) (.Call (.Attribute a "items" apos) [] [] cpos) (Mu fa):=λ A=>R8 (jk (@h A) hbase hline)<|by
 rintro σ H R ⟨ρ,ds,o,e,k⟩
 unfold Mu at e;split at e
 ·rename_i kds e1;cases e;refine⟨ρ,_,o,e1,λ v H1 s1 r1=>?_⟩;cases r1 with
  | dk h l r=>exact⟨_,_,_,rfl,BK _ _ h,k _ H1 s1 (eV h l ⟨by have:=congrArg List.length l;rwa [z02,z02] at this ⊢,r⟩)⟩
 ·cases e
end
section
variable {G:Gx}{a b c:Expr}{fa fb fc:FE}{p2:Pos}{es:List Expr}{fs:FA}
theorem bJ {P:Program}{w:World}:∀ {kvs:List (Key×V)}{us:List Value},us.length=kvs.length->(∀ (j:Nat) u,us[j]?=some u->∃ p,kvs[j]?=some p/\(Bj P w).is p.1 u=true)->Vals (kvs.map λ p=>kV p.1) us
 | [],us,hl,_=>by
  have:us=[]:=List.eq_nil_of_length_eq_zero hl;subst this;exact .nil
 | p::kvs,[],hl,_=>by simp at hl
 | p::kvs,u::us,hl,h=>by
  obtain⟨q,h1,h2⟩:=h 0 u rfl;simp at h1;subst h1;exact .cons (relK h2) (bJ (P:=P) (w:=w) (by simpa using hl) λ j v hv=>by simpa using h (j+1) v (by simpa using hv))
theorem J6 (hc:X.calm=true):Eb X (.type "list") (λ xs H Q=>∃ p kvs,xs=[.ref p]/\Rd H p (.dK kvs)/\∀ l,H l=none->Q (.ref l) (upd H l (.lst (kvs.map λ q=>kV q.1)))):=by
 intro π s σ H xs us Q I r h;obtain⟨p,kvs,rfl,e,q⟩:=h;obtain⟨u,rfl,ru⟩:=r.one;cases ru;obtain⟨z,hd,vs,rel,dd⟩:=MJ I.hok e;obtain⟨ep,dd⟩:=dd.dictAt;have hl:kvs.length=vs.length:=rel.length;refine PySem.W.kdl_call (PySem.W.kdl_dict (knd:=Bj X.prog X.w) (kvs:=vs) (ep:=ep) hd) (I.ok.hd hc) dd (by omega) λ h' tk acc c' kp hn hi=>?_;have va:Vals (kvs.map λ q=>kV q.1) acc.toList:=by
  refine bJ (P:=X.prog) (w:=X.w) (by simp[hi.1,hl]) λ j u hu=>?_;obtain⟨k,x,h1,h2⟩:=hi.2 j u (by simpa using hu);have hj:j<kvs.length:=by rw[hl];exact (z0C.mp h1).1
  refine⟨kvs[j],by simp[hj],?_⟩;rw[(J5 rel (by simp[hj]) h1).1];exact h2
 exact⟨.ref s.heap.objs.size,_,I.laid (t':=tk) kp (z04 _) (show Bt X.prog X.w _ h' _ (.lst (kvs.map λ q=>kV q.1)) from⟨by rw[z02];exact z,acc.toList,c',va,by simpa using hn⟩),rfl,q _ (I.hok.fresh (z04 _))⟩
def listE:D->Option D
 | .dk kds=>some (.lst (kds.map λ p=>kDt p.1))
 | d=>Us d
theorem rY {H:Hp}:∀ {kvs:List (Key×V)}{kds:List (Key×D)},kvs.map (·.1)=kds.map (·.1)->RepL G H (kvs.map λ q=>kV q.1) (kds.map λ p=>kDt p.1)
 | [],[],_=>RepL.nil
 | [],_::_,h=>by simp at h
 | _::_,[],h=>by simp at h
 | p::kvs,q::kds,h=>by
  rw[z03,z03] at h;injection h with h1 h2
  exact .cons (by show Rep G H (kV p.1) (kDt q.1);rw[h1];exact RT _) (rY h2)
theorem eX:SndC G (λ xs H Q=>(∃ p ys,xs=[.ref p]/\(SqL G.K H p ys∨SqT G.K H p ys)/\∀ l,H l=none->Q (.ref l) (upd H l (.lst ys)))∨∃ p kvs,xs=[.ref p]/\Rd H p (.dK kvs)/\∀ l,H l=none->Q (.ref l) (upd H l (.lst (kvs.map λ q=>kV q.1)))) listE:=by
 intro A H x dx d Q lv rx h k;unfold listE at h;split at h
 ·cases h;obtain⟨p,kvs,rfl,h1,h2,r⟩:=rx.dk;exact .inr ⟨p,kvs,rfl,h1,λ l hl=>k _ _ (BR hl _) (Ec lv hl (rY h2))⟩
 ·exact .inl (R7 A H x dx d Q lv rx h k)
def Nz (x:D) (ds:List D) (v:D):Option D:=match x with
 | .dt kds=>(Qg ds).bind λ k=>if kds.length<sizeLine/\ds.length<=sizeLine then some (.dt (putL k v kds)) else none
 | _=>none
def Xw (i:Nat) (fk:FA) (fv:FE):FS:=λ ρ=>(fv ρ).bind λ v=>(fk ρ).bind λ y=>(ownO ρ i).bind λ x=>(Nz x y v).map λ z=>.nx (ρ.set i (.ow z))
theorem ZS {ρ:Rho}{o:Out}(h:Xw i fs fb ρ=some o):∃ v y x z,fb ρ=some v/\fs ρ=some y/\ρ[i]?=some (.ow x)/\Nz x y v=some z/\o=.nx (ρ.set i (.ow z)):=by
 unfold Xw at h;cases e1:fb ρ with
 | none=>simp[e1] at h
 | some v=>
  cases e2:fs ρ with
  | none=>simp[e1,e2] at h
  | some y=>
   cases e3:ownO ρ i with
   | none=>simp[e1,e2,e3] at h
   | some x=>
    cases e4:Nz x y v with
    | none=>simp[e1,e2,e3,e4] at h
    | some z=>
     simp[e1,e2,e3,e4] at h;exact⟨v,y,x,z,rfl,rfl,Pr e3,e4,h.symm⟩
theorem jm {x:Str}(hu:X.A.units+1<cLine) (hv:PE X (.Name x xpos) (tVar i)) (ha:PFA X G es fs) (hb:PF X G b fb)
  (hs:swapsWith b (some (.Subscript (.Name x xpos) (.Tuple es x1 tp) spos)) pos.line X.env=pure false:=by rfl):PSD X G (.Assign [.Subscript (.Name x xpos) (.Tuple es x1 tp) spos] b pos) (Xw i fs fb):=by
 rintro A0 He π s σ H D I ⟨ρ,o,⟨A,w⟩,e,k⟩
 obtain⟨v,y,x0,z,e1,e2,hi,e3,rfl⟩:=ZS e;refine Vk hu hv (Y4 (@ha A)) (@hb A) hs π s σ H D I ?_;unfold Nz at e3;split at e3
 ·rename_i kds;cases e4:Qg y with
  | none=>simp[e4] at e3
  | some q=>
   simp only[e4,z0c] at e3;split at e3
   ·rename_i hz;cases e3;obtain⟨p,h1,hA,kvs,h2,hk,r⟩:=w.ok.ow i _ hi;refine⟨ρ,v,w.ok,e1,λ u H1 s1 r1=>⟨_,h1,ρ,y,(w.mono s1).ok,e2,λ vs H2 s2 r2=>⟨by rw[r2.1];exact hz.2,λ T hT=>?_⟩⟩⟩;have ek:=U7 r2 e4;subst ek;have hl:kvs.length<sizeLine:=by
     have:=congrArg List.length hk;rw[z02,z02] at this;omega
    have s3:Same H2 (upd H2 T (.tup (q.map kV))):=BR hT _;refine⟨p,_,rfl,DPut.t (s3 _ _ (s2 _ _ (s1 _ _ h2))) Ai hl,?_⟩;have w2:=((w.mono s1).mono s2).mono s3;have pk:=Wf (k:=q) (r1.mono (BV (s2.trans s3))) hk (r.mono (BV (s1.trans (s2.trans s3))));refine k _ _ ⟨A,w2.wr hi h1 ⟨_,Ai,pk.1,?_⟩⟩;rw[CQ hA];exact pk.2
   ·cases e3
 ·cases e3
end
section
variable {G:Gx}{a b c:Expr}{fa fb fc:FE}{p2:Pos}{es:List Expr}{fs:FA}{src:FI}
theorem PFI.top (h:PFI X G false tg a src):PFI X G true tg a src:=λ A=>R8 (@h A) λ σ H R ⟨ρ,ds,o,e,k⟩=>
 ⟨ρ,ds,o,e,λ J H1 s1 sr=>k J H1 s1 ⟨λ i H s hi=>sr.go i H (BK.trans s) hi,λ i H x H' d s hd y=>sr.yld i H x H' d (BK.trans s) hd y,λ i H s hi=>sr.stop i H (BK.trans s) hi⟩⟩
theorem RepT.ob {A:List Addr}{H:Hp}{v:V}{c:Str}{gs:List (Str×D)}(r:RepT G A H v (.ob c gs)):∃ a C dx fs,v=.ref a/\G.cl c=some C/\H a=some (.ins C dx fs)/\fs.map (·.1)=gs.map (·.1)/\RepL G (hid A H) (fs.map (·.2)) (gs.map (·.2)):=by
 rcases r with r | ⟨a,e,C,dx,fs,h,k,r⟩
 ·cases r with
  | ob hc h l r=>
   have hl:=congrArg List.length l;rw[z02,z02] at hl;exact⟨_,_,_,_,rfl,hc,BK _ _ h,l,by rw[z02,z02];exact hl,r⟩
 ·exact⟨a,C,dx,fs,e,k.1,h,k.2,r⟩
def fldD (f:Str):D->Option D
 | .ob _ gs=>gs.lookup f
 | _=>none
theorem U9 {H:Hp}{f:Str}{d:D}:∀ {gs:List (Str×D)}{fs:List (Str×V)},fs.map (·.1)=gs.map (·.1)->RepL G H (fs.map (·.2)) (gs.map (·.2))->gs.lookup f=some d->∃ v,fs.lookup f=some v/\Rep G H v d
 | [],fs,e,r,h=>by simp at h
 | p::gs,[],e,r,h=>by simp at e
 | p::gs,q::fs,e,r,h=>by
  rw[z03,z03] at e r;injection e with e1 e2
  obtain⟨x,ys,e3,r1,r2⟩:=r.uncons;injection e3 with e4 e5
  subst e4 e5;obtain⟨p1,p2⟩:=p;obtain⟨q1,q2⟩:=q;simp only at e1 r1;subst e1
  by_cases hf:f=q1
  ·subst hf;simp only[z09,z0Z,Option.some.injEq] at h ⊢;subst h;exact⟨q2,rfl,r1⟩
  ·have hb:(f==q1)=false:=z0y.mpr hf;simp only[z09,hb] at h ⊢;exact U9 e2 r2 h
theorem Ia (hcl:∀ c C,G.cl c=some C->Cls X.K C/\BX X.K C f) (he:PU X G a fa) (hb:attributeBase a f X.env (eval a X.env)=eval a X.env:=by rfl):PF X G (.Attribute a f pos) (uF (fldD f) fa):=
 λ A=>Ca (Yy (@he A) hb)<|by
  rintro σ H Q ⟨ρ,d,o,e,k⟩
  obtain⟨x0,e1,e2⟩:=JF e;unfold fldD at e2;split at e2
  ·rename_i cn gs;refine⟨ρ,_,o,e1,λ v H1 s1 r1=>?_⟩;obtain⟨p,C,dx,fs,rfl,hc,h,l,r⟩:=r1.ob;obtain⟨v,h1,h2⟩:=U9 (f:=f) (d:=d) l r e2;exact⟨_,_,_,_,v,rfl,h,(hcl _ _ hc).1,(hcl _ _ hc).2,h1,k v H1 s1 h2⟩
  ·cases e2
end
def Its (x:Str):It:=⟨λ i _=>i<x.cps.size,λ i H y H'=>H'=H/\∃ c,x.cps[i]?=some c/\y=.str ⟨#[c]⟩,λ i _=>x.cps.size<=i⟩
theorem Xy {K:zFr}(it:Addr) (x:Str) (t:Tok) (ty:String) (W:∀ A:Around,A.handled=none->Walks P w A it [it] [it] x.cps.size (SignAt x) (λ i h=>h.IsStrIter it ty x t i))
  (hn:["enumerate","zip","dict_itemiterator","dict_reverseitemiterator","odict_iterator","itertools.zip_longest","itertools.pairwise"].contains ty=false)
  (fin:∀ (A:Around),A.handled=none->∀ (i:Nat) (s:Shared) (Q:Option Value->Shared->Prop) (E:zQ),s.heap.IsStrIter it ty x t i->x.cps[i]?=none->(∀ h',Heap.ExtBut it s.heap h'->Q none { s with heap:=h' })->wpAny (model P w) A (pyNext (.ref it)) Q E s)
  (self:∀ (A:Around) (i:Nat) (s:Shared) (Q:zQ) (E:zQ),s.heap.IsStrIter it ty x t i->Q (.ref it) s->wpAny (model P w) A (pyIter (.ref it)) Q E s) :
  Turn P w K tg (Its x) [it] it (λ i h=>h.IsStrIter it ty x t i) where
 mem:=by simp
 obj:=λ i h st b hb=>by
  have e:b=it:=by simpa using hb
  subst e;obtain⟨o,e,c,d⟩:=st;exact⟨o,e,λ v z=>by rw[d] at z;cases z⟩
 keep:=λ i h h' st k=>let ⟨o,e,c,d⟩:=st;⟨o,k it (by simp) o e,c,d⟩
 item:=by
  intro X hP hw hK hc i π s σ H E I hf st hg;subst hP hw hK;obtain⟨f0,f1,f2,f3,f4,f5⟩:=hf it (by simp);refine (W X.A (I.ok.hd hc)).item i s _ _ hg st λ v h' tk hv st' kk=>?_;obtain⟨c,u,e1,rfl⟩:=hv;have I1:Inv X π σ H { s with heap:=h',toks:=tk }:=I.turned (λ b o hb e=>kk b o (by simpa using hb) e) f0 f1 f3 f4 f5;obtain⟨o1,e2,c1,d1⟩:=id st';exact⟨_,rfl,XM (s:={ s with heap:=h',toks:=tk }) e2 c1 d1 hn ⟨.str ⟨#[c]⟩,H,I1,⟨u,rfl⟩,⟨rfl,c,e1,rfl⟩,st',λ b hb=>(hf b hb).1⟩⟩
 done:=by
  intro X hP hw hK hc i π s σ H E I hf st hg;subst hP hw hK;obtain⟨f0,f1,f2,f3,f4,f5⟩:=hf it (by simp);exact fin X.A (I.ok.hd hc) i s _ _ st (by rw[Array.getElem?_eq_none_iff];exact hg) λ h' eb=>⟨rfl,I.turned (t':=s.toks) (λ b o hb e=>eb b o hb e) f0 f1 f3 f4 f5⟩
 self:=λ A i s Q E st h=>self A i s Q E st h
section
variable {G:Gx}{a b c:Expr}{fa fb fc:FE}{p2:Pos}{tl:TE}
def iStr (tl:TE):TI:=λ σ H R=>tl σ H λ x H1=>∃ y,x=.str y/\R (Its y) H1
theorem ux (hl:PE X l tl):PI X tg l (iStr tl):=by
 intro π s σ H R I h;refine thn (hl π s σ H _ I h) λ v s1 ⟨x,H1,I1,r1,q1⟩=>?_;obtain⟨y,e,q⟩:=q1;subst e;obtain⟨t,e⟩:=(show ∃ t,v=Value.str y t from r1);subst e;have fp:∀ b∈[s1.heap.objs.size],FpOk X π H1 b:=λ b hb=>by
  have e:b=s1.heap.objs.size:=by simpa using hb
  subst e;exact I1.fpOk (z04 _) (I1.hok.fresh (z04 _))
 cases ha:y.cps.all (·<128)
 ·exact wpAny_pyIter_wide ha ⟨s1.heap.objs.size,[s1.heap.objs.size],_,_,H1,rfl,I1.kept (t':=s1.toks) λ b o e=>z05 _ e,
   Xy _ y t "str_iterator" (λ A hA=>Walks.strWide hA _ y t) (by decide) (λ _ hh _ _ _ _ st hx k=>wpAny_pyNext_wide_end hh st hx k) (λ _ _ _ _ _ st h=>wpAny_pyIter_striter_wide st h),⟨_,z0f _ rfl,rfl,rfl⟩,fp,q⟩
 ·exact wpAny_pyIter_ascii ha ⟨s1.heap.objs.size,[s1.heap.objs.size],_,_,H1,rfl,I1.kept (t':=s1.toks) λ b o e=>z05 _ e,
   Xy _ y t "str_ascii_iterator" (λ A hA=>Walks.strAscii hA _ y t) (by decide) (λ _ hh _ _ _ _ st hx k=>wpAny_pyNext_ascii_end hh st hx k) (λ _ _ _ _ _ st h=>wpAny_pyIter_striter_ascii st h),⟨_,z0f _ rfl,rfl,rfl⟩,fp,q⟩
def Xz (x:Str):List D:=x.cps.toList.map λ c=>.str ⟨#[c]⟩
theorem pX {x:Str}:Src G (Its x) (Xz x) F1 F2:=by
 have hl:(Xz x).length=x.cps.size:=by delta Xz;simp
 refine⟨λ i H s hi=>by rw[hl] at hi;exact hi,λ i H y H' d s hd q=>?_,λ i H s hi=>by rw[hl] at hi;exact hi⟩;obtain⟨q1,c,q2,q3⟩:=q;refine Pk ⟨q1,?_⟩;obtain⟨z,hz,rfl⟩:=jl hd;have e:x.cps[i]?=some z:=by simpa using hz
 rw[e] at q2;cases q2;rw[q3];exact .str _
def seqA (f:FE):FI:=λ ρ=>match f ρ with | some (.str x)=>some (Xz x) | _=>seqE f ρ
theorem CJ (hG:G.K=X.K) (h:PF X G a fa):PFI X G false tg a (seqA fa):=λ A=>R8 (piOr (jj hG h (A:=A)) (ux (@h A)))<|by
 rintro σ H R ⟨ρ,ds,o,e,k⟩
 unfold seqA at e;split at e
 ·rename_i x e1;cases e;refine .inr ⟨ρ,_,o,e1,λ v H1 s1 r1=>?_⟩;cases r1;exact⟨_,rfl,k _ H1 s1 pX⟩
 ·exact .inl ⟨ρ,_,o,e,k⟩
def blsD:List D->Option (List Bool)
 | []=>some []
 | .bl i::r=>(blsD r).map (i::·)
 | _::_=>none
theorem bK {H:Hp}:∀ {ds:List D}{xs:List V}{bs:List Bool},RepL G H xs ds->blsD ds=some bs->xs=bs.map V.bl
 | [],xs,bs,r,h=>by cases h;exact r.nil_inv
 | d::ds,xs,bs,r,h=>by
  obtain⟨x,ys,rfl,r1,r2⟩:=r.uncons;cases d with
  | bl i=>
   cases e:blsD ds with
   | none=>simp[blsD,e] at h
   | some bs'=>
    simp[blsD,e] at h;subst h;cases r1;rw[bK r2 e];rfl
  | _=>simp[blsD] at h
theorem eY (hc:X.calm=true):Eb X (.builtin "all") (λ xs H Q=>∃ (p:Addr) (bs:List Bool),xs=[.ref p]/\SqL X.K H p (bs.map V.bl)/\Q (.bl (bs.all id)) H):=by
 intro π s σ H xs us Q I r h;obtain⟨p,bs,rfl,hs,k⟩:=h;obtain⟨u,rfl,ru⟩:=r.one;cases ru;obtain⟨its,rv,pl,hz⟩:=I.list hs;have hl:=pl.isList;have hlt:p≠s.heap.objs.size:=by obtain⟨o,ho,_⟩:=hl;exact z08 (z06 ho)
 have hlen:bs.length=its.length:=by have:=rv.length;rwa [z02] at this
 refine call_all_walk (wpAny_pyIter_list hl ?_);refine⟨_,_,_,_,_,_,λ i=>bs.getD i true,rfl,Walks.list (A:=X.A.in1) (I.ok.hd hc) s.heap.objs.size p hlt its.toArray,⟨⟨_,z0f _ rfl,rfl,rfl⟩,hl.push _⟩,?_,λ h' tk kk=>?_⟩
 ·intro i v s' Q' E' hv hq;have hi:its[i]?=some v:=by simpa using hv
  have hlt':i<bs.length:=by rw[hlen];exact (z0C.mp hi).1
  obtain⟨u',hu,ru⟩:=rv.get (i:=i) (x:=.bl (bs[i]'hlt')) (by rw[z0g];simp[hlt']);rw[hi] at hu;cases hu;cases (show v=Value.bool (bs[i]'hlt') from ru);have e:bs.getD i true=bs[i]'hlt':=by simp[List.getD,hlt']
  have hq':Q' (bs.getD i true) s':=hq;rw[e] at hq';exact z1K hq'
 ·refine⟨.bl (bs.all id),H,I.kept (λ b o e=>kk b o ?_ (z05 _ e)),?_,k⟩
  ·intro hb;have:b=s.heap.objs.size:=by simpa using hb
   exact absurd (z06 e) (by rw[this];exact z1s _)
  ·show Value.bool _=Value.bool _;congr 1;rw[z0e,<-hlen];rw[z1L,z0L,z0L];constructor
   ·intro q b hb;obtain⟨i,hi,rfl⟩:=z1F hb;have:=q i (z0B.mpr hi);simpa [List.getD,hi] using this
   ·intro q i hi;have hi':=z0B.mp hi;have:=q (bs[i]'hi') (z1x hi');simpa [List.getD,hi'] using this
def allD:D->Option D
 | .lst ds=>(blsD ds).map λ bs=>.bl (bs.all id)
 | _=>none
theorem pZ:SndC G (λ xs H Q=>∃ (p:Addr) (bs:List Bool),xs=[.ref p]/\SqL G.K H p (bs.map V.bl)/\Q (.bl (bs.all id)) H) allD:=by
 intro A H x dx d Q lv rx h k;unfold allD at h;split at h
 ·rename_i ds;cases e:blsD ds with
  | none=>simp[e] at h
  | some bs=>
   rw[e] at h;cases h;obtain⟨p,xs,rfl,h1,r⟩:=rx.lst;have e2:=bK r e;subst e2;exact⟨p,bs,rfl,h1,k _ H (Same.refl H) (.bl _)⟩
 ·cases h
theorem uy:bootBuiltins "all"=some (.builtin "all"):=by decide +kernel
end
section
variable {G:Gx}{a b c:Expr}{fa fb fc:FE}{p2:Pos}
def isND (neg:Bool):D->Option D
 | .non=>some (.bl (!neg))
 | _=>some (.bl neg)
theorem bL {d:D}(r:RepT G A H v d):(decide (v=.non))=(match d with | .non=>true | _=>false):=by
 rcases r with r | ⟨p,e,r⟩
 ·cases r<;>simp
 ·subst e;cases d<;>first | exact r.elim | simp
theorem uz {p':Pos}(ha:PU X G a fa):PF X G (.Compare a [.Is] [.Constant .none j p'] pos) (uF (isND false) fa):=λ A=>Ca (tu (gA (@ha A)))<|by
 rintro σ H Q ⟨ρ,d,o,e,k⟩
 obtain⟨x0,e1,e2⟩:=JF e;refine⟨ρ,x0,o,e1,λ v H1 s1 r1=>?_⟩;show Q (.bl (decide (v=.non))) H1;rw[bL r1];cases x0<;>(cases e2;exact k _ H1 s1 (.bl _))
theorem bM {p':Pos}(ha:PU X G a fa):PFT X G (.Compare a [.Is] [.Constant .none j p'] pos) (blF (uF (isND false) fa)):=λ A=>ao (t6 (gA (@ha A)))<|by
 rintro σ H Q ⟨ρ,b,o,e,k⟩
 obtain⟨x0,e1,e2⟩:=JF (Xh e);refine⟨ρ,x0,o,e1,λ v H1 s1 r1=>⟨_,rfl,?_⟩⟩;rw[bL r1];cases x0<;>(cases e2;exact k H1 s1)
end
section
variable {G:Gx}{a b c:Expr}{fa fb fc:FE}{p2:Pos}
def eqTo (x d:D):Bool:=match eqK 62 d x with | some b=>b | none=>false
def knows (x d:D):Bool:=(eqK 62 d x).isSome
def rInP (G:Gx) (neg:Bool):R2:=λ x y H Q=>∃ (A:List Addr) (as ds:List D),RepT G A H x (.tup as)/\RepT G A H y (.lst ds)/\ds.all (knows (.tup as))=true/\Q (.bl (if neg then !ds.any (eqTo (.tup as)) else ds.any (eqTo (.tup as)))) H
open Classical in
theorem bN (hG:G.K=X.K) (hu:X.A.units+64<cLine) {π:zP}{s:Shared}{σ:St}{H:Hp}{A:List Addr}{x:V}{u:Value}{as ds:List D}{xs:List V}{its:List Value}(I:Inv X π σ H s) (rx:RepT G A H x (.tup as)) (ru:RelV x u)
  (r:RepL G (hid A H) xs ds) (v:Vals xs its) (hk:ds.all (knows (.tup as))=true) :
  ∃ e:Value->Bool,(∀ y,y∈its.toArray->SeqAt.EqAt X.A.in1 s y u (e y))/\its.toArray.any e=ds.any (eqTo (.tup as)):=by
 have rx':Rep G H x (.tup as):=by
  rcases rx with q | ⟨p,_,q⟩
  ·exact q.mono BK
  ·exact q.elim
 have one:∀ (i:Nat) y,its[i]?=some y->∃ d,ds[i]?=some d/\SeqAt.EqAt X.A.in1 s y u (eqTo (.tup as) d):=λ i y hy=>by
  have hi:i<its.length:=(z0C.mp hy).1;have hx:i<xs.length:=by rw[v.length];exact hi
  have hd:i<ds.length:=by rw[<-r.1];exact hx
  obtain⟨y',h1,h2⟩:=v.get (i:=i) (x:=xs[i]) (by simp[hx]);rw[hy] at h1;cases h1;refine⟨ds[i],by simp[hd],?_⟩;have kn:knows (.tup as) ds[i]=true:=z0L.mp hk _ (z1x hd);unfold knows at kn;obtain⟨b,hb⟩:=Option.isSome_iff_exists.mp kn;have eb:eqTo (.tup as) ds[i]=b:=by delta eqTo;rw[hb]
  rw[eb];exact Pj I hG 62 X.A.in1 (by show X.A.units+1+62<cLine;omega) hb ((r.2 i _ _ (by simp[hx]) (by simp[hd])).mono BK) rx' h2 ru
 refine⟨λ y=>decide (∃ (i:Nat) (d:D),its[i]?=some y/\ds[i]?=some d/\eqTo (.tup as) d=true),λ y hy=>?_,?_⟩
 ·by_cases h:∃ (i:Nat) (d:D),its[i]?=some y/\ds[i]?=some d/\eqTo (.tup as) d=true
  ·obtain⟨i,d,h1,h2,h3⟩:=id h;obtain⟨d',h4,h5⟩:=one i y h1;rw[h2] at h4;cases h4;rw[h3] at h5;show SeqAt.EqAt X.A.in1 s y u (decide (∃ (i:Nat) (d:D),its[i]?=some y/\ds[i]?=some d/\eqTo (.tup as) d=true));rw[z1m h];exact h5
  ·obtain⟨i,hi,rfl⟩:=z1F (show y∈its by simpa using hy);have hii:its[i]?=some its[i]:=z1a hi;obtain⟨d,h4,h5⟩:=one i _ hii;have h6:eqTo (.tup as) d=false:=by
    cases q:eqTo (.tup as) d with
    | false=>rfl
    | true=>exact absurd ⟨i,d,hii,h4,q⟩ h
   rw[h6] at h5;show SeqAt.EqAt X.A.in1 s its[i] u (decide (∃ (j:Nat) (d:D),its[j]?=some its[i]/\ds[j]?=some d/\eqTo (.tup as) d=true));rw[z0J h];exact h5
 ·rw[z1L,List.any_eq_true];rw[show its.toArray.any (λ y=>decide (∃ (i:Nat) (d:D),its[i]?=some y/\ds[i]?=some d/\eqTo (.tup as) d=true))=its.any (λ y=>decide (∃ (i:Nat) (d:D),its[i]?=some y/\ds[i]?=some d/\eqTo (.tup as) d=true)) by simp,List.any_eq_true];constructor
  ·rintro⟨y,hy,h⟩;obtain⟨i,d,h1,h2,h3⟩:=z1y h;exact⟨d,z1v h2,h3⟩
  ·rintro⟨d,hd,h⟩;obtain⟨i,hi,rfl⟩:=z1F hd;have hx:i<its.length:=by rw[<-v.length,r.1];exact hi
   exact⟨its[i],z1x hx,z1m ⟨i,_,z1a hx,z1a hi,h⟩⟩
theorem jn (hG:G.K=X.K) (hu:X.A.units+64<cLine):OpR X (compareOp .In) (rInP G false):=by
 intro π s σ H x y v u Q I rx ry h;obtain⟨A,as,ds,r1,r2,hk,k⟩:=h;obtain⟨c,ys,rfl,h2,q2⟩:=r2.lst;cases ry;obtain⟨jts,v2,p2,_⟩:=I.list (by rw[<-hG];exact h2);obtain⟨e,he,ea⟩:=bN hG hu I r1 rx q2 v2 hk;exact SeqAt.in_listAt e p2.isList he ⟨.bl _,H,I,rfl,by rw[ea];exact k⟩
theorem eZ (hG:G.K=X.K) (hu:X.A.units+64<cLine):OpR X (compareOp .NotIn) (rInP G true):=by
 intro π s σ H x y v u Q I rx ry h;obtain⟨A,as,ds,r1,r2,hk,k⟩:=h;obtain⟨c,ys,rfl,h2,q2⟩:=r2.lst;cases ry;obtain⟨jts,v2,p2,_⟩:=I.list (by rw[<-hG];exact h2);obtain⟨e,he,ea⟩:=bN hG hu I r1 rx q2 v2 hk;exact SeqAt.notIn_listAt e p2.isList he ⟨.bl _,H,I,rfl,by rw[ea];exact k⟩
def inF (neg:Bool) (x y:D):Option D:=match x,y with
 | .tup as,.lst ds=>if ds.all (knows (.tup as))=true then some (.bl (if neg then !ds.any (eqTo (.tup as)) else ds.any (eqTo (.tup as)))) else none
 | x,y=>inE neg x y
theorem Wg (neg:Bool):Dh G (λ x y H Q=>(rInA G.K neg x y H Q∨rDIn neg x y H Q)∨rInP G neg x y H Q) (inF neg):=by
 intro A H x y dx dy d Q lv rx ry h k;unfold inF at h;split at h
 ·split at h
  ·rename_i hk;cases h;exact .inr ⟨A,_,_,rx,ry,hk,k _ H (Same.refl H) (.bl _)⟩
  ·cases h
 ·exact .inl (pM neg A H x y _ _ d Q lv rx ry h k)
end
end PV
namespace PySem
open PySem.Spec
theorem jo {A:Around}(h:∀ h' e,(∀ b o,s.heap.get? b=some o->h'.get? b=some o)->Shared.TypeIs { s with heap:=h' } (.ref e) "StopIteration"->Q (.ref e) { s with heap:=h' }):wpAny (model prog w) A (newExc (.type "StopIteration") []) Q E s:=by
 unfold newExc newTuple
 wp_walk
 exact h _ _ (λ b o e=>z05 _ (z05 _ e)) ⟨_,z0f _ rfl,rfl⟩
theorem jq (it d:Addr) (i ep:Nat) (es:Array DictEntry) (od:Obj) (hod:od.data=.dict es ep) (hi:i<es.size) :
  Meets (Builtin.«dict_keyiterator.__next__» ⟨[.ref it],[]⟩) (λ _ R s=>s.heap.get? it=some { cls:=.type "dict_keyiterator",data:=.fields #[.ref d,.int i 0,.int es.size 0,.int ep 0] }/\s.heap.get? d=some od/\R (.ok (.ret (es[i]'hi).key)) { s with heap:=s.heap.update it (Obj.mapFields (·.setIfInBounds 1 (rawInt ((i:Int)+1)))),toks:=s.toks }):=
 .of_wp λ prog w A R s h=>by
  obtain⟨hp,g,dr,tk,os⟩:=s;obtain⟨h1,h2,h⟩:=h
  wp_walk using wpAny_dictEntries h2 hod,wpAny_dictEpoch h2 hod,wpAny_fieldsOf h1 rfl,z0Y h1 rfl
  have e0:(if (i:Int)<0 then none else es[(i:Int).toNat]?)=some (es[i]'hi):=by rw[if_neg (by omega),z0r,Array.getElem?_eq_getElem hi]
  rw[e0];dsimp only
  wp_walk using z0Y h1 rfl
  ·rw[if_neg (show ¬ Builtin.Dict_items.ownsTuple ((Manifest.find? "dict_keyiterator").elim "dict_keyiterator" λ x=>x.tpName)=true by decide +kernel)];show 1<4;decide
  ·rw[if_neg (show ¬ Builtin.Dict_items.ownsTuple ((Manifest.find? "dict_keyiterator").elim "dict_keyiterator" λ x=>x.tpName)=true by decide +kernel)];rw[if_neg]
   case hnc=>decide +kernel
   rw[z0A];have ti:Shared.TypeIs { heap:=hp.update it (Obj.mapFields λ x=>x.setIfInBounds 1 (rawInt ((i:Int)+1))),gens:=g,drawn:=dr,toks:=tk,os:=os } (.ref it) "dict_keyiterator":=
    ⟨_,z18 _ h1 (Obj.isFreed_of_fields (z1O rfl _)),Obj.cls_mapFields ..⟩
   wp_walk using wpAny_isOneOf_keyiter ti
   exact⟨_,rfl,h⟩
theorem ZV {A:Around}{d:Addr}{es:Array DictEntry}{od:Obj}{Q:Option Value->Shared->Prop}(hod:od.data=.dict es ep) (hi:i<es.size)
  (h1:s.heap.get? it=some { cls:=.type "dict_keyiterator",data:=.fields #[.ref d,.int i 0,.int es.size 0,.int ep 0] }) (h2:s.heap.get? d=some od)
  (h:Q (some (es[i]'hi).key) { s with heap:=s.heap.update it (Obj.mapFields (·.setIfInBounds 1 (rawInt ((i:Int)+1)))) }):wpAny (model prog w) A (pyNext (.ref it)) Q E s:=by
 have ti:s.TypeIs (.ref it) "dict_keyiterator":=⟨_,h1,rfl⟩;unfold pyNext;refine z00 (wpAny_attempt (z1w (name:=Str.ofString "__next__") ti z1X ?_));refine call_meets z1X ti F.entry_dict_keyiterator_next (F.args_dict_keyiterator_next_1 _) (jq it d i ep es od hod hi) ⟨h1,h2,?_⟩;exact z01 h
theorem T_ {A:Around}{d:Addr}{es:Array DictEntry}{od:Obj}{Q:Option Value->Shared->Prop}(hh:A.handled=none) (hod:od.data=.dict es ep) (hi:es.size<=i)
  (h1:s.heap.get? it=some { cls:=.type "dict_keyiterator",data:=.fields #[.ref d,.int i 0,.int es.size 0,.int ep 0] }) (h2:s.heap.get? d=some od)
  (h:∀ h',Heap.ExtBut it s.heap h'->Q none { s with heap:=h' }):wpAny (model prog w) A (pyNext (.ref it)) Q E s:=by
 have ti:s.TypeIs (.ref it) "dict_keyiterator":=⟨_,h1,rfl⟩;unfold pyNext;refine z00 (wpAny_attempt (z1w (name:=Str.ofString "__next__") ti z1X
  (z17 z1X ti F.entry_dict_keyiterator_next ?_ (F.args_dict_keyiterator_next_1 _))))
 have hh1:A.in1.handled=none:=hh
 wp_walk using wpAny_dictEntries h2 hod,wpAny_dictEpoch h2 hod,wpAny_fieldsOf h1 rfl,z0Y h1 rfl
 have e0:(if (i:Int)<0 then none else es[(i:Int).toNat]?)=none:=by rw[if_neg (by omega),z0r,Array.getElem?_eq_none hi]
 rw[e0];dsimp only
 wp_walk using z0Y h1 rfl
 ·rw[if_neg (show ¬ Builtin.Dict_items.ownsTuple ((Manifest.find? "dict_keyiterator").elim "dict_keyiterator" λ x=>x.tpName)=true by decide +kernel)];show 0<4;decide
 ·refine z00 ?_;refine jo λ h' e kp ty=>wpAny_raiseNew_none hh1 ?_;refine z00 (wpAny_isInstance ty isSubtype_stop (z01 (h h' λ b o hb z=>kp b o ?_)));exact ((Heap.SameBut.update ..).2 b hb).trans z
theorem ZW {A:Around}{d:Addr}{es:Array DictEntry}{od:Obj}(hd:(d==sysModules)=false) (hx:od.ExactDict) (hod:od.data=.dict es ep) (h2:s.heap.get? d=some od)
  (h:Q (.ref s.heap.objs.size) { s with heap:=s.heap.push { cls:=.type "dict_keyiterator",data:=.fields #[.ref d,.int 0 0,.int es.size 0,.int ep 0] } }):wpAny (model prog w) A (pyIter (.ref d)) Q E s:=by
 have ti:s.TypeIs (.ref d) "dict":=⟨_,h2,hx.1⟩;refine wpAny_pyIter_slot ti F.slot_dict_iter (z17 F.slot_dict_iter ti F.entry_dict_iter ?_ (F.args_dict_iter_1 _));unfold Builtin.«dict.__iter__»
 wp_walk using wpAny_dictEntries h2 hod,wpAny_dictEpoch h2 hod,wpAny_notOrdered_dict ti
 exact⟨_,rfl,"dict_keyiterator",_,⟨_,z0f _ rfl,rfl⟩,z1X.lookup,h⟩
end PySem
namespace PV
open PySem PySem.Spec L2
open PyProof.Rows hiding St
section
variable {G:Gx}{x:Addr}
def Qh (x:Addr) (H H':Hp):Prop:=∀ b o,b≠x->H b=some o->H' b=some o
theorem Jr (hx:x∈A) (s:Qh x H H'):Same (hid A H) (hid A H'):=λ b o h=>by
 unfold hid at h ⊢;split at h
 ·cases h
 ·rename_i hb;rw[if_neg hb];exact s b o (λ z=>hb (z▸hx)) h
theorem Top.other {d:D}(t:Top G A H q d) (nq:q≠x) (hx:x∈A) (s:Qh x H H'):Top G A H' q d:=by
 have sm:=Jr hx s;cases d with
 | lst ds=>obtain⟨xs,q1,q2⟩:=t;exact⟨xs,s _ _ nq q1,q2.mono sm⟩
 | dk ds=>obtain⟨xs,q1,q2,q3⟩:=t;exact⟨xs,s _ _ nq q1,q2,q3.mono sm⟩
 | dt ds=>obtain⟨xs,q1,q2,q3⟩:=t;exact⟨xs,s _ _ nq q1,q2,q3.mono sm⟩
 | ob c gs=>obtain⟨C,dx,xs,q1,q2,q3⟩:=t;exact⟨C,dx,xs,s _ _ nq q1,q2,q3.mono sm⟩
 | _=>exact t.elim
end
def tX (G:Gx) (A0:List Addr) (He:Hp) (h:FZ):TE:=λ σ H Q=>∃ ρ d ρ' A,OkW G A0 He A σ H ρ/\h ρ=some (d,ρ')/\∀ v H' A',OkW G A0 He A' σ H' ρ'->Same (hid A H) (hid A' H')->Rep G (hid A' H') v d->Q v H'
def PX (X:Cx) (G:Gx) (e:Expr) (h:FZ):Prop:=∀ ⦃A0⦄ He,PE X e (tX G A0 He h)
section
variable {G:Gx}{a b c:Expr}{fa fb fc:FE}{p2 px rp p:Pos}{es:List Expr}{fs:FA}{h:FZ}{hs:FZA}
end
end PV
namespace PV
open PySem L2
abbrev Ef:=List (Str×Bool×D)
abbrev FEs:=Rho->Ef->Option (Rho×Ef)
abbrev FTE:=Rho->Ef->Option Bool
def noOw (ρ:Rho):Bool:=ρ.all λ z=>match z with | .ow _=>false | _=>true
def pureE (g:FS):FEs:=λ ρ ε=>match g ρ with | some (.nx ρ')=>if noOw ρ'=true then some (ρ',ε) else none | _=>none
def bO (f:Str) (fe:FE):FEs:=λ ρ ε=>(fe ρ).bind λ d=>if (ε.lookup f).isNone=true/\ε.length<1000 then some (ρ,ε++[(f,false,d)]) else none
def Qi (f:Str) (fe:FE):FEs:=λ ρ ε=>(fe ρ).bind λ d=>if (ε.lookup f).isNone=true/\ε.length<1000 then some (ρ,ε++[(f,true,d)]) else none
def repE (f:Str) (d:D):Ef->Ef
 | []=>[]
 | (g,b,x)::r=>if g=f then (g,b,d)::r else (g,b,x)::repE f d r
def Qj (f:Str) (fk fv:FE):FEs:=λ ρ ε=>(fv ρ).bind λ v=>(fk ρ).bind λ k=>match ε.lookup f with | some (true,d)=>(Dc d k v).map λ d'=>(ρ,repE f d' ε) | _=>none
def SN (t:FT):FTE:=λ ρ _=>t ρ
def inTE (f:Str) (fk:FE):FTE:=λ ρ ε=>(fk ρ).bind λ k=>match ε.lookup f with | some (true,.dk kds)=>(keyD k).map λ q=>(getK q kds).isSome | _=>none
def orTE (a b:FTE):FTE:=λ ρ ε=>match a ρ ε with | some true=>some true | some false=>b ρ ε | none=>none
def ifE (t:FTE):FEs:=λ ρ ε=>match t ρ ε with | some false=>some (ρ,ε) | _=>none
def nilE:FEs:=λ ρ ε=>some (ρ,ε)
def Ib (g gs:FEs):FEs:=λ ρ ε=>(g ρ ε).bind λ r=>gs r.1 r.2
def JG (tg:FG) (b:FEs):List D->FEs
 | [],ρ,ε=>some (ρ,ε)
 | d::r,ρ,ε=>(tg d ρ).bind λ ρ1=>if noOw ρ1=true then (b ρ1 ε).bind λ q=>JG tg b r q.1 q.2 else none
def forE (src:FI) (tg:FG) (b:FEs):FEs:=λ ρ ε=>(src ρ).bind λ ds=>JG tg b ds ρ ε
def Wh (n:Nat) (x:Addr) (ds:List D):Rho:=FN n (.adr x::ds)
def runI (n np:Nat) (b:FEs) (x:Addr) (ds:List D):Option Ef:=if ds.length+1=np then (b (Wh n x ds) []).map (·.2) else none
def finE (c:Str) (ε:Ef):D:=.ob c (ε.map λ p=>(p.1,p.2.2))
open Classical in
noncomputable def mkI (c:Str) (g:Addr->List D->Option Ef) (fs:FA):FE:=λ ρ=>(fs ρ).bind λ ds=>(g 0 ds).bind λ ε=>if ∀ x,g x ds=some ε then some (finE c ε) else none
end PV
variable {ρ:PV.Rho}{fe:PV.FE}{src:PV.FI}{ga:PV.FT}{ds:List PV.D}{G:PV.Gx}{kds:List (L2.Key×PV.D)}{g:PV.D->PV.D->Option PV.D}{fg:PV.FG}{gs:List (PySem.Str×PV.D)}{ε:PV.Ef}
namespace PV
open PySem PySem.Spec L2
open PyProof.Rows hiding St
theorem DN (h:noOw ρ=true) (i:Nat) (d:D):ρ[i]?≠some (.ow d):=λ e=>by
 unfold noOw at h;rw[z0L] at h;have:=h _ (z1v e);cases this
inductive FsOk (G:Gx) (A0 A:List Addr) (H:Hp) (x:Addr):List (Str×V)->Ef->List Addr->Prop
 | nil:FsOk G A0 A H x [] [] []
 | pl {f:Str}{v:V}{d:D}{fs:List (Str×V)}{ε:Ef}{as:List Addr}:Rep G (hid A H) v d->FsOk G A0 A H x fs ε as->FsOk G A0 A H x ((f,v)::fs) ((f,false,d)::ε) as
 | ow {f:Str}{a:Addr}{d:D}{fs:List (Str×V)}{ε:Ef}{as:List Addr}:a∈A->a∉A0->a≠x->a∉as->Top G A H a d->FsOk G A0 A H x fs ε as->FsOk G A0 A H x ((f,.ref a)::fs) ((f,true,d)::ε) (a::as)
section
variable {A':List Addr}{x:Addr}{fs:List (Str×V)}{as:List Addr}
theorem FsOk.mp (h:FsOk G A0 A H x fs ε as) (r:∀ v d,Rep G (hid A H) v d->Rep G (hid A' H') v d) (t:∀ a∈as,∀ d,Top G A H a d->Top G A' H' a d) (s:∀ a∈as,a∈A->a∈A'):FsOk G A0 A' H' x fs ε as:=by
 induction h with
 | nil=>exact .nil
 | pl rv _ ih=>exact .pl (r _ _ rv) (ih t s)
 | ow h1 h2 h3 h4 h5 _ ih=>exact .ow (s _ z0i h1) h2 h3 h4 (t _ z0i _ h5) (ih (λ a ha=>t a (z0b _ ha)) (λ a ha=>s a (z0b _ ha)))
theorem FsOk.names (h:FsOk G A0 A H x fs ε as):fs.map (·.1)=ε.map (·.1):=by
 induction h with
 | nil=>rfl
 | pl _ _ ih=>simp[ih]
 | ow _ _ _ _ _ _ ih=>simp[ih]
theorem FsOk.len (h:FsOk G A0 A H x fs ε as):fs.length=ε.length:=by
 have:=congrArg List.length h.names;simpa using this
theorem FsOk.ne (h:FsOk G A0 A H x fs ε as):∀ a∈as,a∈A/\a∉A0/\a≠x:=by
 induction h with
 | nil=>intro a ha;cases ha
 | pl _ _ ih=>exact ih
 | ow h1 h2 h3 _ _ _ ih=>
  intro a ha
  rcases z0d.mp ha with z | z
  ·subst z;exact⟨h1,h2,h3⟩
  ·exact ih a z
theorem Py {f:Str}{v:V}:∀ {fs:List (Str×V)},fs.lookup f=none->L2.putF f v fs=fs++[(f,v)]
 | [],_=>rfl
 | (g,y)::r,h=>by
  by_cases hf:f=g
  ·subst hf;simp[z09] at h
  ·have hb:(f==g)=false:=z0y.mpr hf;simp only[z09,hb] at h;show (if g=f then (g,v)::r else (g,y)::L2.putF f v r)=_;rw[if_neg (λ z=>hf z.symm),Py h];rfl
theorem FsOk.none (h:FsOk G A0 A H x fs ε as) (e:ε.lookup f=none):fs.lookup f=none:=by
 induction h with
 | nil=>rfl
 | @pl g v d fs ε as _ _ ih=>
  by_cases hf:f=g
  ·subst hf;simp[z09] at e
  ·have hb:(f==g)=false:=z0y.mpr hf;simp only[z09,hb] at e ⊢;exact ih e
 | @ow g a d fs ε as _ _ _ _ _ _ ih=>
  by_cases hf:f=g
  ·subst hf;simp[z09] at e
  ·have hb:(f==g)=false:=z0y.mpr hf;simp only[z09,hb] at e ⊢;exact ih e
theorem FsOk.snocP {d:D}(h:FsOk G A0 A H x fs ε as) (r:Rep G (hid A H) v d):FsOk G A0 A H x (fs++[(f,v)]) (ε++[(f,false,d)]) as:=by
 induction h with
 | nil=>exact .pl r .nil
 | pl rv _ ih=>exact .pl rv ih
 | ow h1 h2 h3 h4 h5 _ ih=>exact .ow h1 h2 h3 h4 h5 ih
theorem FsOk.snocO {d:D}(h:FsOk G A0 A H x fs ε as) (h1:a∈A) (h2:a∉A0) (h3:a≠x) (h4:a∉as) (t:Top G A H a d):FsOk G A0 A H x (fs++[(f,.ref a)]) (ε++[(f,true,d)]) (as++[a]):=by
 induction h with
 | nil=>exact .ow h1 h2 h3 (λ z=>nomatch z) t .nil
 | pl rv _ ih=>exact .pl rv (ih h4)
 | @ow g b e fs ε as q1 q2 q3 q4 q5 _ ih=>
  have hb:a≠b:=λ z=>h4 (by simp[z]);refine .ow q1 q2 q3 (λ z=>?_) q5 (ih λ z=>h4 (z0b _ z))
  rcases z0p.mp z with z | z
  ·exact q4 z
  ·simp at z;exact hb z.symm
theorem FsOk.get {d:D}(h:FsOk G A0 A H x fs ε as) (e:ε.lookup f=some (true,d)):∃ a,fs.lookup f=some (.ref a)/\a∈as/\a∈A/\a∉A0/\a≠x/\Top G A H a d:=by
 induction h with
 | nil=>cases e
 | @pl g v d' fs ε as _ _ ih=>
  by_cases hf:f=g
  ·subst hf;simp[z09] at e
  ·have hb:(f==g)=false:=z0y.mpr hf;simp only[z09,hb] at e ⊢;exact ih e
 | @ow g a d' fs ε as h1 h2 h3 _ h5 _ ih=>
  by_cases hf:f=g
  ·subst hf;simp only[z09,z0Z,Option.some.injEq,Prod.mk.injEq,true_and] at e ⊢;subst e;exact⟨a,rfl,z0i,h1,h2,h3,h5⟩
  ·have hb:(f==g)=false:=z0y.mpr hf;simp only[z09,hb] at e ⊢;obtain⟨a',q1,q2,q3⟩:=ih e;exact⟨a',q1,z0b _ q2,q3⟩
theorem FsOk.wr {d d':D}(h:FsOk G A0 A H x fs ε as) (e:ε.lookup f=some (true,d)) (ea:fs.lookup f=some (.ref a)) (sx:Qh a H H') (hA:a∈A) (t:Top G A H' a d'):FsOk G A0 A H' x fs (repE f d' ε) as:=by
 have sm:=Jr hA sx
 induction h with
 | nil=>cases e
 | @pl g v d2 fs ε as rv hr ih=>
  by_cases hf:f=g
  ·subst hf;simp[z09] at e
  ·have hb:(f==g)=false:=z0y.mpr hf;simp only[z09,hb] at e ea;unfold repE;rw[if_neg (λ z=>hf z.symm)];exact .pl (rv.mono sm) (ih e ea)
 | @ow g b d2 fs ε as h1 h2 h3 h4 h5 hr ih=>
  by_cases hf:f=g
  ·subst hf;simp only[z09,z0Z,Option.some.injEq,V.ref.injEq] at ea;subst ea;unfold repE;rw[if_pos rfl];refine .ow h1 h2 h3 h4 t (hr.mp (λ v d r=>r.mono sm) (λ c hc d t'=>t'.other (λ z=>h4 (by rw[<-z];exact hc)) hA sx) λ _ _ z=>z)
  ·have hb:(f==g)=false:=z0y.mpr hf;simp only[z09,hb] at e ea;obtain⟨a',q1,q2,_⟩:=hr.get e;rw[ea] at q1;cases q1;unfold repE;rw[if_neg (λ z=>hf z.symm)];exact .ow h1 h2 h3 h4 (h5.other (λ z=>h4 (z▸q2)) hA sx) (ih e ea)
end
structure EOk (G:Gx) (c:Str) (A0:List Addr) (He:Hp) (x:Addr) (A:List Addr) (σ:St) (H:Hp) (ρ:Rho) (ε:Ef):Prop where
 w:OkW G A0 He A σ H ρ
 no:noOw ρ=true
 xA:x∈A
 x0:x∉A0
 s0:ρ[0]?=some (.fz (.adr x))
 ob:∃ C dx fs as,H x=some (.ins C dx fs)/\G.cl c=some C/\FsOk G A0 A H x fs ε as
def EOkS (G:Gx) (c:Str) (A0:List Addr) (He:Hp) (x:Addr) (σ:St) (H:Hp) (ρ:Rho) (ε:Ef):Prop:=∃ A,EOk G c A0 He x A σ H ρ ε
section
variable {x:Addr}
theorem EOk.at0 (o:EOk G c A0 He x A σ H ρ ε):σ[0]?=some (some (.ref x)):=by
 obtain⟨v,h1,h2⟩:=o.w.ok.fz 0 _ o.s0;cases h2;exact h1
theorem EOk.mono (o:EOk G c A0 He x A σ H ρ ε) (s:Same H H'):EOk G c A0 He x A σ H' ρ ε:=by
 obtain⟨C,dx,fs,as,h1,h2,h3⟩:=o.ob;exact⟨o.w.mono s,o.no,o.xA,o.x0,o.s0,C,dx,fs,as,s _ _ h1,h2,h3.mp (λ v d r=>r.mono (BV s)) (λ a ha d t=>t.mono s) λ _ _ z=>z⟩
theorem jr (s:Same H H') (fr:∀ a∈B,a∈A∨H a=none):Same (hid A H) (hid B H'):=λ b u h=>by
 unfold hid at h;split at h
 ·cases h
 ·rename_i hb;rw[Bp]
  ·exact s b u h
  ·intro z
   rcases fr b z with q | q
   ·exact hb q
   ·rw[q] at h;cases h
theorem Top.plain {d:D}(t:Top G A H a d) (s:Same H H') (p:Same (hid A H) (hid B H')):Top G B H' a d:=by
 cases d with
 | lst ds=>obtain⟨xs,q1,q2⟩:=t;exact⟨xs,s _ _ q1,q2.mono p⟩
 | dk ds=>obtain⟨xs,q1,q2,q3⟩:=t;exact⟨xs,s _ _ q1,q2,q3.mono p⟩
 | dt ds=>obtain⟨xs,q1,q2,q3⟩:=t;exact⟨xs,s _ _ q1,q2,q3.mono p⟩
 | ob c gs=>obtain⟨C,dx,xs,q1,q2,q3⟩:=t;exact⟨C,dx,xs,s _ _ q1,q2,q3.mono p⟩
 | _=>exact t.elim
theorem EOk.frame (o:EOk G c A0 He x A σ H ρ ε):OkS G A H σ H ρ:=⟨A,Same.refl H,λ _ h=>h,λ a h=>.inl h,λ a ha=>(o.w.ok.live a ha).ne,o.w.ok,λ i d a h _=>absurd h (DN o.no i d),λ y d _ h=>absurd h (DN o.no 0 d)⟩
theorem EOk.unframe {σ':St}{ρ':Rho}(o:EOk G c A0 He x A σ H ρ ε) (w:OkS G A H σ' H' ρ') (no:noOw ρ'=true) (s0:ρ'[0]?=some (.fz (.adr x))):EOkS G c A0 He x σ' H' ρ' ε:=by
 obtain⟨B,w⟩:=w;have pl:Same (hid A H) (hid B H'):=jr w.same w.fr;obtain⟨C,dx,fs,as,h1,h2,h3⟩:=o.ob;refine⟨B,⟨o.w.same.trans w.same,λ a ha=>w.sub a (o.w.sub a ha),λ a ha=>?_,o.w.l0,w.ok,λ i d a h _=>absurd h (DN no i d),λ y d _ h=>absurd h (DN no 0 d)⟩,no,w.sub x o.xA,o.x0,s0,C,dx,fs,as,w.same _ _ h1,h2,h3.mp (λ v d r=>r.mono pl) (λ a ha d t=>t.plain w.same pl) λ a _ ha=>w.sub a ha⟩
 rcases w.fr a ha with q | q
 ·exact o.w.fr a q
 ·exact .inr (o.w.same.free q)
theorem EOk.wr {ε':Ef}(o:EOk G c A0 He x A σ H ρ ε) (hp:p∈A) (h0:p∉A0) (sx:Qh p H H') (lv:Nt (H' p)) (ob:∃ C dx fs as,H' x=some (.ins C dx fs)/\G.cl c=some C/\FsOk G A0 A H' x fs ε' as):EOk G c A0 He x A σ H' ρ ε':=by
 have hep:He p=none:=(o.w.fr p hp).resolve_left h0;have sm:=Jr hp sx;refine⟨⟨λ b u h=>sx b u (Aw h hep) (o.w.same b u h),o.w.sub,o.w.fr,o.w.l0,⟨o.w.ok.len,λ b hb=>?_,λ j e h=>?_,λ j e h=>absurd h (DN o.no j e),λ i j d e a h _ _ _=>absurd h (DN o.no i d)⟩,λ i d a h _=>absurd h (DN o.no i d),λ y d _ h=>absurd h (DN o.no 0 d)⟩,o.no,o.xA,o.x0,o.s0,ob⟩
 ·by_cases z:b=p
  ·rw[z];exact lv
  ·exact (o.w.ok.live b hb).mono λ u e=>sx b u z e
 ·obtain⟨v,q1,q2⟩:=o.w.ok.fz j e h;exact⟨v,q1,q2.mono sm⟩
end
def tE (G:Gx) (c:Str) (A0:List Addr) (He:Hp) (x:Addr) (g:FEs):TS:=λ D σ H=>∃ ρ ε r,EOkS G c A0 He x σ H ρ ε/\g ρ ε=some r/\∀ σ' H',EOkS G c A0 He x σ' H' r.1 r.2->D.nx σ' H'
def PSE (X:Cx) (G:Gx) (c:Str) (st:Stmt) (g:FEs):Prop:=∀ ⦃A0⦄ He x,PS X st (tE G c A0 He x g)
def PSEs (X:Cx) (G:Gx) (c:Str) (st:List Stmt) (g:FEs):Prop:=∀ ⦃A0⦄ He x,PSs X st (tE G c A0 He x g)
def tTE (G:Gx) (c:Str) (A0:List Addr) (He:Hp) (x:Addr) (t:FTE):TT:=λ σ H Q=>∃ A ρ ε b,EOk G c A0 He x A σ H ρ ε/\t ρ ε=some b/\∀ H',Same H H'->Q b H'
def PTE (X:Cx) (G:Gx) (c:Str) (e:Expr) (t:FTE):Prop:=∀ ⦃A0⦄ He x,PT X e (tTE G c A0 He x t)
def PWE (X:Cx) (G:Gx) (c:Str) (e:Expr) (t:FTE):Prop:=∀ ⦃A0⦄ He x,PW X e (tTE G c A0 He x t)
section
variable {a b k it:Expr}{fa fb fk:FE}{p2 p px:Pos}{st:Stmt}{rest:List Stmt}{g gs:FEs}{gp:FS}{ta tb:FTE}{tp:FT}
theorem X3 (h1:PSE X G c st g) (h2:PSEs X G c rest gs):PSEs X G c (st::rest) (Ib g gs):=by
 rintro A0 He x π s σ H D I ⟨ρ,ε,r,o,e,k⟩
 refine FW (@h1 A0 He x) (@h2 A0 He x) π s σ H D I ?_;unfold Ib at e;cases e1:g ρ ε with
 | none=>simp[e1] at e
 | some q=>
  simp only[e1,z0c] at e;exact⟨ρ,ε,q,o,e1,λ σ' H' o'=>⟨q.1,q.2,r,o',e,k⟩⟩
theorem bQ (h1:PSE X G c st g):PSEs X G c [st] g:=λ A0 He x=>I_ (@h1 A0 He x)
theorem SQ (h:PSD X G st gp) (hk:∀ ρ ρ',gp ρ=some (.nx ρ')->ρ'[0]?=ρ[0]?):PSE X G c st (pureE gp):=by
 rintro A0 He x π s σ H D I ⟨ρ,ε,r,⟨A,o⟩,e,k⟩
 unfold pureE at e;split at e
 ·rename_i ρ' e1;split at e
  ·rename_i no;cases e;refine @h A H π s σ H D I ⟨ρ,_,o.frame,e1,λ σ' H' w=>k σ' H' (o.unframe w no (by rw[hk ρ ρ' e1];exact o.s0))⟩
  ·cases e
 ·cases e
theorem X4 (h:PFT X G e tp):PTE X G c e (SN tp):=λ A0 He x=>λ π s σ H Q I ⟨A,ρ,ε,b,o,e,k⟩=>@h A π s σ H Q I ⟨ρ,b,o.w.ok,e,k⟩
theorem ph (h:PTE X G c a ta):PWE X G c (.BoolOp .Or [a] pos) ta:=λ A0 He x=>gB (@h A0 He x)
theorem u0 {rest:List Expr}(ha:PTE X G c a ta) (hb:PWE X G c (.BoolOp .Or (b::rest) pos) tb):PWE X G c (.BoolOp .Or (a::b::rest) pos) (orTE ta tb):=λ A0 He x=>iz (rD (@ha A0 He x) (@hb A0 He x))<|by
 rintro σ H Q ⟨A,ρ,ε,d,o,e,k⟩
 unfold orTE at e;split at e
 ·rename_i e1;cases e;exact⟨A,ρ,ε,_,o,e1,λ H1 s1=>iteT (k H1 s1)⟩
 ·rename_i e1;exact⟨A,ρ,ε,_,o,e1,λ H1 s1=>iteF ⟨A,ρ,ε,d,o.mono s1,e,λ H2 s2=>k H2 (s1.trans s2)⟩⟩
 ·cases e
theorem PWE.pt (h:PWE X G c a ta):PTE X G c a ta:=λ A0 He x=>(@h A0 He x).pt
theorem u5 {x:Str}{ap:Pos}(hu:X.A.units+1<cLine) (hcl:∀ c C,G.cl c=some C->Cls X.K C/\BX X.K C f) (hv:PE X (.Name x px) (tVar 0)) (ha:PF X G a fa) (hb:attributeBase (.Name x px) f X.env (eval (.Name x px) X.env)=eval (.Name x px) X.env:=by rfl)
  (hm:behindInMarks .In (.Attribute (.Name x px) f ap)=false:=by rfl):PTE X G c (.Compare a [.In] [.Attribute (.Name x px) f ap] pos) (inTE f fa):=by
 rintro A0 He y π s σ H Q I ⟨A,ρ,ε,d,o,e,k⟩
 refine aA (ZP hu) (@ha A) (Yy hv hb) hm π s σ H Q I ?_;unfold inTE at e;cases e1:fa ρ with
 | none=>simp[e1] at e
 | some kd=>
  simp only[e1,z0c] at e;split at e
  ·rename_i kds e2;cases e3:keyD kd with
   | none=>simp[e3] at e
   | some q=>
    simp only[e3,z0k] at e;cases e;refine⟨ρ,kd,o.w.ok,e1,λ v H1 s1 r1=>?_⟩;obtain⟨C,dx,fs,as,h1,h2,h3⟩:=(o.mono s1).ob;obtain⟨p,q1,q2,q3,q4,q5,kvs,t1,t2,t3⟩:=h3.get e2;refine⟨_,o.at0,y,C,dx,fs,_,rfl,h1,(hcl _ _ h2).1,(hcl _ _ h2).2,q1,p,kvs,q,rfl,.of t1,Lk r1 e3,?_⟩;rw[(Nv (k:=q) t2 t3).2];exact⟨_,rfl,k H1 s1⟩
  ·cases e
theorem jt (ht:PTE X G c e ta) (h1:PSDs X G s1 badF):PSE X G c (.If e s1 [] pos) (ifE ta):=by
 rintro A0 He x π s σ H D I ⟨ρ,ε,r,⟨A,o⟩,e,k⟩
 refine gF (@ht A0 He x) (@h1 A0 He) Ve π s σ H D I ?_;unfold ifE at e;split at e
 ·rename_i e1;cases e;exact⟨A,ρ,ε,_,o,e1,λ H1 s1=>iteF (k σ H1 ⟨A,o.mono s1⟩)⟩
 ·cases e
theorem ju {x:Str}(hcl:∀ c C,G.cl c=some C->Cls X.K C/\BX X.K C f) (hv:PE X (.Name x px) (tVar 0)) (ha:PF X G a fa) (hsw:swapsWith a (some (.Attribute (.Name x px) f pos')) pos.line X.env=pure false:=by rfl) :
  PSE X G c (.Assign [.Attribute (.Name x px) f pos'] a pos) (bO f fa):=by
 rintro A0 He y π s σ H D I ⟨ρ,ε,r,⟨A,o⟩,e,k⟩
 refine gW hv (@ha A) hsw π s σ H D I ?_;unfold bO at e;cases e1:fa ρ with
 | none=>simp[e1] at e
 | some d=>
  simp only[e1,z0c] at e;split at e
  ·rename_i hz;cases e;refine⟨ρ,d,o.w.ok,e1,λ u H1 s1 r1=>?_⟩;have o1:=o.mono s1;obtain⟨C,dx,fs,as,h1,h2,h3⟩:=o1.ob;have hn:=h3.none (Option.isNone_iff_eq_none.mp hz.1);refine⟨_,o.at0,y,C,dx,fs,rfl,h1,(hcl _ _ h2).1,(hcl _ _ h2).2,by rw[h3.len];exact hz.2,?_⟩;rw[Py hn];have sx:Qh y H1 (upd H1 y (.ins C dx (fs++[(f,u)]))):=λ b w hb hw=>by rw[Al hb];exact hw
   have sm:=Jr o1.xA sx;refine k _ _ ⟨A,o1.wr o1.xA o1.x0 sx (by rw[Ai];exact Nt.ins) ⟨C,dx,_,as,Ai,h2,?_⟩⟩;exact (h3.mp (λ v d r=>r.mono sm) (λ p hp d t=>t.other (h3.ne p hp).2.2 o1.xA sx) λ _ _ z=>z).snocP (r1.mono sm)
  ·cases e
theorem X5 {x:Str}(hcl:∀ c C,G.cl c=some C->Cls X.K C/\BX X.K C f) (hv:PE X (.Name x px) (tVar 0)) (ha:PN X G a fa) (hsw:swapsWith a (some (.Attribute (.Name x px) f pos')) pos.line X.env=pure false:=by rfl) :
    PSE X G c (.Assign [.Attribute (.Name x px) f pos'] a pos) (Qi f fa):=by
  rintro A0 He y π s σ H D I ⟨ρ,ε,r,⟨A,o⟩,e,k⟩
  refine gW hv (@ha A) hsw π s σ H D I ?_;unfold Qi at e;cases e1:fa ρ with
  | none=>simp[e1] at e
  | some d=>
    simp only[e1,z0c] at e;split at e
    · rename_i hz
      cases e;refine⟨ρ,d,o.w.ok,e1,λ q H1 s1 hq t=>?_⟩;obtain⟨C,dx,fs,as,h1,h2,h3⟩:=o.ob;have nqA:q∉A:=λ z=>(o.w.ok.live q z).ne hq;have pl:Same (hid A H) (hid (q::A) H1):=Jo s1 hq;have hn:=h3.none (Option.isNone_iff_eq_none.mp hz.1);have nq0:q∉A0:=λ z=>nqA (o.w.sub q z);have nqy:q≠y:=λ z=>nqA (z▸o.xA);have nqs:q∉as:=λ z=>nqA (h3.ne q z).1;have o1:EOk G c A0 He y (q::A) σ H1 ρ ε:=⟨⟨o.w.same.trans s1,λ a ha=>z0b _ (o.w.sub a ha),λ a ha=>by
          rcases z0d.mp ha with z | z
          · rw[z];exact .inr (o.w.same.free hq)
          · exact o.w.fr a z,o.w.l0,o.w.ok.fill s1 hq t.live,λ i d a h _=>absurd h (DN o.no i d),λ y d _ h=>absurd h (DN o.no 0 d)⟩,o.no,z0b _ o.xA,o.x0,o.s0,C,dx,fs,as,s1 _ _ h1,h2,
          h3.mp (λ v d r=>r.mono pl) (λ p hp d t=>t.plain s1 pl) λ p _ hp=>z0b _ hp⟩
      have g1:=s1 _ _ h1;have g2:=h2;have g3:FsOk G A0 (q::A) H1 y fs ε as:=h3.mp (λ v d r=>r.mono pl) (λ p hp d t=>t.plain s1 pl) λ p _ hp=>z0b _ hp;have hn':=g3.none (Option.isNone_iff_eq_none.mp hz.1);refine⟨_,o.at0,y,C,dx,fs,rfl,g1,(hcl _ _ g2).1,(hcl _ _ g2).2,by rw[g3.len];exact hz.2,?_⟩;rw[Py hn'];have sx:Qh y H1 (upd H1 y (.ins C dx (fs++[(f,.ref q)]))):=λ b w hb hw=>by rw[Al hb];exact hw
      have sm:=Jr o1.xA sx;refine k _ _ ⟨q::A,o1.wr o1.xA o1.x0 sx (by rw[Ai];exact Nt.ins) ⟨C,dx,_,as++[q],Ai,g2,?_⟩⟩;exact (g3.mp (λ v d r=>r.mono sm) (λ p hp d t=>t.other (g3.ne p hp).2.2 o1.xA sx) λ _ _ z=>z).snocO z0i nq0 nqy nqs (t.other nqy o1.xA sx)
    · cases e
theorem X6 {x:Str}{ap:Pos}(hu:X.A.units+1<cLine) (hcl:∀ c C,G.cl c=some C->Cls X.K C/\BX X.K C f) (hv:PE X (.Name x px) (tVar 0)) (ha:PF X G a fa) (hb:PF X G b fb) (hbase:attributeBase (.Name x px) f X.env (eval (.Name x px) X.env)=eval (.Name x px) X.env:=by rfl)
  (hs:swapsWith b (some (.Subscript (.Attribute (.Name x px) f ap) a spos)) pos.line X.env=pure false:=by rfl):PSE X G c (.Assign [.Subscript (.Attribute (.Name x px) f ap) a spos] b pos) (Qj f fa fb):=by
 rintro A0 He y π s σ H D I ⟨ρ,ε,r,⟨A,o⟩,e,k⟩
 refine Vk hu (Yy hv hbase) (@ha A) (@hb A) hs π s σ H D I ?_;unfold Qj at e;cases e1:fb ρ with
 | none=>simp[e1] at e
 | some v=>
  cases e2:fa ρ with
  | none=>simp[e1,e2] at e
  | some kd=>
   simp only[e1,e2,z0c] at e;split at e
   ·rename_i d e3;cases e4:Dc d kd v with
    | none=>simp[e4] at e
    | some d'=>
     simp only[e4,z0k] at e;cases e;unfold Dc at e4;split at e4
     ·rename_i kds;cases e5:keyD kd with
      | none=>simp[e5] at e4
      | some q=>
       simp only[e5,z0c] at e4;split at e4
       ·rename_i hz;cases e4;refine⟨ρ,v,o.w.ok,e1,λ u H1 s1 r1=>?_⟩;have o1:=o.mono s1;obtain⟨C,dx,fs,as,h1,h2,h3⟩:=o1.ob;obtain⟨p,q1,q2,q3,q4,q5,kvs,t1,t2,t3⟩:=h3.get e3;refine⟨_,o.at0,y,C,dx,fs,_,rfl,h1,(hcl _ _ h2).1,(hcl _ _ h2).2,q1,ρ,kd,o1.w.ok,e2,λ yv H2 s2 r2=>?_⟩;have ek:=Lk r2 e5;subst ek;have o2:=o1.mono s2;obtain⟨C',dx',fs',as',g1,g2,g3⟩:=o2.ob;rw[s2 _ _ h1] at g1;cases g1;have hl:kvs.length<sizeLine:=by
         have:=congrArg List.length t2;rw[z02,z02] at this;omega
        refine⟨p,_,rfl,DPut.k (s2 _ _ t1) hl,?_⟩;have pk:=Wf (k:=q) (r1.mono (BV s2)) t2 (t3.mono (BV s2));have sx:Qh p H2 (upd H2 p (.dK (putK kvs q u))):=λ b w hb hw=>by rw[Al hb];exact hw
        refine k _ _ ⟨A,o2.wr q3 q4 sx (by rw[Ai];exact Nt.dK) ⟨C,dx,fs,as',by rw[Al (Ne.symm q5)];exact s2 _ _ h1,g2,?_⟩⟩;refine g3.wr e3 q1 sx q3 ⟨_,Ai,pk.1,?_⟩;rw[CQ q3];exact pk.2
       ·cases e4
     ·cases e4
   ·cases e
theorem EOk.frameW {x:Addr}(o:EOk G c A0 He x A σ H ρ ε):OkW G A H A σ H ρ:=⟨Same.refl H,λ _ h=>h,λ a h=>.inl h,λ a ha=>(o.w.ok.live a ha).ne,o.w.ok,λ i d a h _=>absurd h (DN o.no i d),λ y d _ h=>absurd h (DN o.no 0 d)⟩
theorem bR {gb:FEs}(hp:PassesOwn (model X.prog X.w) X.A X.env X.xe) (hc:X.calm=true) (hi:PFI X G false tg it src) (hg:PGD X G tg fg) (hk:∀ d ρ ρ',fg d ρ=some ρ'->ρ'[0]?=ρ[0]?) (hb:PSEs X G c body gb)
  (hs:∀ x,foldedSetIterable it X.env x=pure x:=by intro _;rfl):PSE X G c (.For tg it body [] pos) (forE src fg gb):=by
 rintro A0 He x π s σ H D I ⟨ρ,ε,r,⟨A,o⟩,e,k⟩
 cases e1:src ρ with
 | none=>simp[forE,e1] at e
 | some ds=>
  have e':JG fg gb ds ρ ε=some r:=by simpa [forE,e1] using e
  have hb':PSs X body (λ D σ H=>∃ A0 He x,tE G c A0 He x gb D σ H):=λ π s σ H D I ⟨A0,He,x,q⟩=>@hb A0 He x π s σ H D I q;have hg':PG X tg (λ v σ H Q=>∃ A0 He,tGD G A0 He fg v σ H Q):=λ π s σ H v u Q I r ⟨A0,He,q⟩=>@hg A0 He π s σ H v u Q I r q;refine Yr hp hc (@hi A) hg' hb' hs π s σ H D I ⟨ρ,ds,o.w.ok,e1,λ J H1 s1 sr=>?_⟩;have o1:=o.mono s1;obtain⟨sHe,w2⟩:=o1.w.here;generalize hHf:hid (A.filter λ a=>decide (a∉A0)) H1=Hf at sHe w2;have k2:∀ σ' H',EOkS G c A0 Hf x σ' H' r.1 r.2->D.nx σ' H':=λ σ' H' ⟨B,q⟩=>k σ' H' ⟨B,q.w.base sHe o.w.l0,q.no,q.xA,q.x0,q.s0,q.ob⟩;refine⟨λ i m σ' H'=>m=ds.length-i/\i<=ds.length/\∃ ρ' ε',EOkS G c A0 Hf x σ' H' ρ' ε'/\JG fg gb (ds.drop i) ρ' ε'=some r,⟨ds.length,by simp,z0P _,ρ,ε,⟨A,w2,o1.no,o1.xA,o1.x0,o1.s0,o1.ob⟩,by simpa using e'⟩,?_⟩;rintro i m σ3 H3 ⟨rfl,hil,ρ3,ε3,⟨B,o3⟩,e3⟩;have pl:Same (hid A H1) (hid B H3):=by rw[<-hHf] at o3;exact OkW.plain o.w.sub o3.w
  by_cases hlt:i<ds.length
  ·right;have hd:ds[i]?=some ds[i]:=by simp[hlt]
   have ed:ds.drop i=ds[i]::ds.drop (i+1):=z1A hlt;rw[ed] at e3;unfold JG at e3;refine⟨sr.go i H3 (pl.trans BK) hlt,λ σ' H'=>∃ ρ' ε',EOkS G c A0 Hf x σ' H' ρ' ε'/\JG fg gb (ds.drop (i+1)) ρ' ε'=some r,λ σ' H' q=>⟨ds.length-(i+1),by omega,rfl,hlt,q⟩,λ y H' yy=>?_⟩;obtain⟨sy,rx⟩:=sr.yld i H3 y H' _ (pl.trans BK) hd yy;have o4:=o3.mono sy;cases e4:fg ds[i] ρ3 with
   | none=>simp[e4] at e3
   | some ρ4=>
    simp only[e4,z0c] at e3;split at e3
    ·rename_i no;refine⟨B,H',B,ρ3,ds[i],ρ4,o4.frameW,rx B o3.w.ok.live pl,e4,λ σ5 H5 ok5=>?_⟩;cases e5:gb ρ4 ε3 with
     | none=>simp[e5] at e3
     | some q=>
      simp only[e5,z0c] at e3;exact⟨A0,Hf,x,ρ4,ε3,q,o4.unframe ok5 no (by rw[hk _ _ _ e4];exact o4.s0),e5,λ σ' H' o'=>⟨q.1,q.2,o',e3⟩⟩
    ·cases e3
  ·left;have ei:i=ds.length:=by omega
   subst ei;rw[List.drop_length] at e3;cases e3;exact⟨sr.stop _ H3 (pl.trans BK) (z04 _),k2 σ3 H3 ⟨B,o3⟩⟩
end
theorem SX:b∈A.filter (λ b=>decide (b≠p))↔b∈A/\b≠p:=by simp[z0K]
theorem pq {d:D}(I:Inv X π σ H s) (hA:a∈A) (t:Top G A H a d) :
  ∃ H',Inv X π σ H' s/\(∀ b,b≠a->H' b=H b)/\Same (hid A H) (hid (A.filter λ b=>decide (b≠a)) H')/\Rep G (hid (A.filter λ b=>decide (b≠a)) H') (.ref a) d:=by
 have key:∀ H':Hp,(∀ b,b≠a->H' b=H b)->Same (hid A H) (hid (A.filter λ b=>decide (b≠a)) H'):=λ H' hh b u h=>by
  unfold hid at h;split at h
  ·cases h
  ·rename_i hb;rw[Bp (λ z=>hb (SX.mp z).1),hh b (λ z=>hb (z▸hA))];exact h
 have at0:∀ H':Hp,hid (A.filter λ b=>decide (b≠a)) H' a=H' a:=λ H'=>Bp (λ z=>(SX.mp z).2 rfl);cases d with
 | lst ds=>
  obtain⟨xs,a1,a2⟩:=t;have sm:=key H λ _ _=>rfl;exact⟨H,I,λ _ _=>rfl,sm,.lst (.of (by rw[at0];exact a1)) (a2.mono sm).1 (a2.mono sm).2⟩
 | dk ds=>
  obtain⟨xs,a1,a2,a3⟩:=t;obtain⟨o,I'⟩:=Inv.frzK I a1;have sm:=key _ λ b hb=>Al (o:=.frz o (.dK xs)) hb;exact⟨_,I',λ b hb=>Al hb,sm,.dk (by rw[at0];exact Ai) a2 (a3.mono sm).2⟩
 | dt ds=>
  obtain⟨xs,a1,a2,a3⟩:=t;obtain⟨o,I'⟩:=Inv.frzT I a1;have sm:=key _ λ b hb=>Al (o:=.frz o (.dT xs)) hb;exact⟨_,I',λ b hb=>Al hb,sm,.dt (by rw[at0];exact Ai) a2 (a3.mono sm).2⟩
 | ob c gs=>
  obtain⟨C,dx,xs,a1,a2,a3⟩:=t;have sm:=key H λ _ _=>rfl;exact⟨H,I,λ _ _=>rfl,sm,.ob a2.1 (by rw[at0];exact a1) a2.2 (a3.mono sm).2⟩
 | _=>exact t.elim
theorem FsOk.frz {X:Cx}{G:Gx}{A0 A:List Addr}{π:zP}{s:Shared}{σ:St}{H:Hp}{x:Addr}{fs:List (Str×V)}{ε:Ef}{as:List Addr}(h:FsOk G A0 A H x fs ε as) (I:Inv X π σ H s) :
  ∃ H' A',Inv X π σ H' s/\(∀ b,b∉as->H' b=H b)/\(∀ b,b∈A'↔b∈A/\b∉as)/\Same (hid A H) (hid A' H')/\RepL G (hid A' H') (fs.map (·.2)) (ε.map λ p=>p.2.2):=by
 induction h with
 | nil=>exact⟨H,A,I,λ _ _=>rfl,λ b=>by simp,Same.refl _,.nil⟩
 | pl rv _ ih=>
  obtain⟨H',A',i1,i2,i3,i4,i5⟩:=ih;exact⟨H',A',i1,i2,i3,i4,.cons (rv.mono i4) i5⟩
 | @ow f a d fs ε as h1 h2 h3 h4 t _ ih=>
  obtain⟨H1,A1,i1,i2,i3,i4,i5⟩:=ih;have ha:a∈A1:=(i3 a).mpr ⟨h1,h4⟩;have e1:H1 a=H a:=i2 a h4;have t1:Top G A1 H1 a d:=by
   cases d with
   | lst ds=>obtain⟨xs,q1,q2⟩:=t;exact⟨xs,by rw[e1];exact q1,q2.mono i4⟩
   | dk ds=>obtain⟨xs,q1,q2,q3⟩:=t;exact⟨xs,by rw[e1];exact q1,q2,q3.mono i4⟩
   | dt ds=>obtain⟨xs,q1,q2,q3⟩:=t;exact⟨xs,by rw[e1];exact q1,q2,q3.mono i4⟩
   | ob c gs=>obtain⟨C,dx,xs,q1,q2,q3⟩:=t;exact⟨C,dx,xs,by rw[e1];exact q1,q2,q3.mono i4⟩
   | _=>exact t.elim
  obtain⟨H2,j1,j2,j3,j4⟩:=pq i1 ha t1;refine⟨H2,A1.filter λ b=>decide (b≠a),j1,λ b hb=>?_,λ b=>?_,i4.trans j3,.cons j4 (i5.mono j3)⟩
  ·rw[j2 b (λ z=>hb (by simp[z])),i2 b (λ z=>hb (z0b _ z))]
  ·rw[SX,i3 b];simp only[z0d,not_or];exact⟨λ ⟨⟨p1,p2⟩,p3⟩=>⟨p1,p3,p2⟩,λ ⟨p1,p3,p2⟩=>⟨⟨p1,p2⟩,p3⟩⟩
theorem EOk.whole {x:Addr}(o:EOk G c A0 He x A σ H ρ ε) (I:Inv X π σ H s) :
  ∃ H',Inv X π σ H' s/\Same He H'/\Rep G (hid A0 H') (.ref x) (finE c ε):=by
 obtain⟨C,dx,fs,as,h1,h2,h3⟩:=o.ob;obtain⟨H',A',i1,i2,i3,i4,i5⟩:=h3.frz I;have nx:x∉as:=λ z=>(h3.ne x z).2.2 rfl;refine⟨H',i1,λ b u hb=>?_,?_⟩
 ·rw[i2 b (λ z=>?_)]
  ·exact o.w.same b u hb
  ·obtain⟨q1,q2,_⟩:=h3.ne b z;rw[(o.w.fr b q1).resolve_left q2] at hb;cases hb
 ·have sb:∀ a∈A0,a∈A':=λ a ha=>(i3 a).mpr ⟨o.w.sub a ha,λ z=>(h3.ne a z).2.1 ha⟩;have en:fs.map (·.1)=(ε.map λ p=>(p.1,p.2.2)).map (·.1):=by
   rw[h3.names,z0l];rfl
  have es:(ε.map λ p=>(p.1,p.2.2)).map (·.2)=ε.map λ p=>p.2.2:=by rw[z0l];rfl
  refine .ob h2 (by rw[Bp o.x0,i2 x nx];exact h1) en ?_;rw[es];exact (i5.mono (GR sb)).2
def tEI (G:Gx) (c:Str) (A0:List Addr) (He:Hp) (x:Addr) (g:FEs):TS:=λ D σ H=>∃ ρ ε r,EOkS G c A0 He x σ H ρ ε/\g ρ ε=some r/\∀ σ' H',Same He H'->Rep G (hid A0 H') (.ref x) (finE c r.2)->D.nx σ' H'
def PSI (X:Cx) (G:Gx) (c:Str) (st:List Stmt) (g:FEs):Prop:=∀ ⦃A0⦄ He x,PSs X st (tEI G c A0 He x g)
theorem p7:PSI X G c [] nilE:=by
 rintro A0 He x π s σ H D I ⟨ρ,ε,r,⟨A,o⟩,e,k⟩
 cases e;obtain⟨H',I',q1,q2⟩:=o.whole I;exact Ve π s σ H' D I' (k σ H' q1 q2)
theorem Hg {st:Stmt}{rest:List Stmt}{g gs:FEs}(h1:PSE X G c st g) (h2:PSI X G c rest gs):PSI X G c (st::rest) (Ib g gs):=by
 rintro A0 He x π s σ H D I ⟨ρ,ε,r,o,e,k⟩
 refine FW (@h1 A0 He x) (@h2 A0 He x) π s σ H D I ?_;unfold Ib at e;cases e1:g ρ ε with
 | none=>simp[e1] at e
 | some q=>
  simp only[e1,z0c] at e;exact⟨ρ,ε,q,o,e1,λ σ' H' o'=>⟨q.1,q.2,r,o',e,k⟩⟩
def spI (G:Gx) (c:Str) (g:Addr->List D->Option Ef):Sp:=λ vs H Q _=>∃ A x vs' ds ε C dx,vs=.ref x::vs'/\(∀ a∈A,Nt (H a))/\x∉A/\H x=some (.ins C dx [])/\G.cl c=some C/\RepL G (hid (x::A) H) vs' ds/\g x ds=some ε ∧
 ∀ H',Qh x H H'->Rep G (hid A H') (.ref x) (finE c ε)->Q .non H'
theorem Mv (n:Nat) (ds:List D):noOw (FN n ds)=true:=by
 delta noOw FN;rw[z0L];intro z hz
 rcases z0p.mp hz with q | q
 ·obtain⟨d,_,rfl⟩:=z07.mp q;rfl
 ·rw[(List.mem_replicate.mp q).2]
theorem fn_I {base:Heap}{x:Str}{st:Stmt}{f:Addr}{k:Nat}{b:FEs}(F:Fun G.K x qual st f fd) (S:FnScope N ps (Ad st)) (hl:ps.length<=N.length)
  (hb:∀ (cdv:Value) (A:Around) (outer:List Env) (s:Shared) (H:Hp) (E:XK),Room k (A.deeper (envOfC qual (Ad st) s.heap.objs.size f cdv))->PSI (cxOf CX0 P w G.K mg base N qual (Ad st) f cdv A outer s H E).nox G c (Bk st) b) :
  FnOk P w G.K mg base CX0 (k+1) f fd ps (spI G c (runI N.length ps.length b)):=by
 refine F.ok S (λ vs H Q E h=>?_) (λ cdv A outer s H vs Q E hr h=>?_)
 ·obtain⟨A,x,vs',ds,ε,C,dx,rfl,lv,hx,hH,hc,r,e,_⟩:=h;unfold runI at e;split at e
  ·rename_i hz;rw[z0s,r.1];exact hz
  ·cases e
 ·obtain⟨A1,x,vs',ds,ε,C,dx,rfl,lv,hx,hH,hc,r,e,k⟩:=h;unfold runI at e;split at e
  ·rename_i hz;have lv':∀ a∈x::A1,Nt (H a):=λ a ha=>by
    rcases z0d.mp ha with z | z
    ·rw[z,hH];exact Nt.ins
    ·exact lv a z
   have r':RepL G (hid (x::A1) H) (.ref x::vs') (.adr x::ds):=.cons (.adr x) r;obtain⟨B,w⟩:=R_ (N:=N) lv' r' (by rw[z0s,r.1];omega);cases e1:b (Wh N.length x ds) [] with
   | none=>simp[e1] at e
   | some q=>
    simp only[e1,z0k] at e;cases e;have hzz:=hb cdv A outer s H E hr;refine⟨_,@hzz A1 (hid [x] H) x,Wh N.length x ds,[],q,?_,e1,λ σ' H' s' rv=>k H' (λ b o hb ho=>s' b o (by rw[Bp (by simpa using hb)];exact ho)) rv⟩;refine⟨B,⟨BK,λ a ha=>w.sub a (z0b _ ha),λ a ha=>?_,λ a ha=>?_,w.ok,λ i d a h _=>absurd h (DN (Mv _ _) i d),λ y d _ h=>absurd h (DN (Mv _ _) 0 d)⟩,Mv _ _,w.sub x z0i,hx,rfl,C,dx,[],[],hH,hc,.nil⟩
    ·rcases w.fr a ha with z | z
     ·rcases z0d.mp z with z | z
      ·right;delta hid;rw[if_pos (by simp[z])]
      ·exact .inl z
     ·right;delta hid;split
      ·rfl
      ·exact z
    ·rw[Bp (λ z=>hx (by simp at z;rw[<-z];exact ha))];exact (lv a ha).ne
  ·cases e
section
variable {a b:Expr}{fa fb:FE}{p2 p:Pos}{es:List Expr}{fs:FA}
theorem u6 {k:Nat}{f:Addr}{g:Addr->List D->Option Ef}{x:Str}(hcl:G.cl cn=some C) (M:Mk X.K C f) (F:FnOk X.prog X.w X.K X.mg X.base CX0 k f fd ps (spI G cn g)) (hr:Room (k+1) X.A) (hg:Gl X x) (hm:X.mg x=some (.ref C)) (hb:Binds X.K fd ps [])
  (ha:PFA X G (a::es) fs) (hdb:(x==("__debug__":Str))=false:=by decide) (he:starEach (a::es) X.env=(false,eval a X.env)::starEach es X.env:=by rfl) (hpl:(backTo pos (starEach es X.env)).any (·.1)=false:=by rfl) :
  PF X G (.Call (.Name x p) (a::es) [] pos) (mkI cn g fs):=λ A=>Ca (nR M F hr hg hm hb .nil iV (@ha A) hdb he hpl)<|by
 rintro σ H Q ⟨ρ,d,o,e,k⟩
 unfold mkI at e;cases e1:fs ρ with
 | none=>simp[e1] at e
 | some ds=>
  cases e3:g 0 ds with
  | none=>simp[e1,e3] at e
  | some ε=>
   simp only[e1,e3,z0c] at e;split at e
   ·rename_i hall;cases e;refine⟨ρ,ds,o,e1,λ vs H1 s1 rv=>λ y dx hy hdx hne=>?_⟩;have sm:Same H1 (upd (upd H1 dx (.own y)) y (.ins C dx [])):=(BR hdx _).trans (BR (by rw[Al (Ne.symm hne)];exact hy) _);have lv1:=(o.mono s1).live;refine⟨A,y,vs,ds,ε,C,dx,by rw[z0t],λ b hb=>?_,λ z=>(lv1 y z).ne hy,Ai,hcl,rv.mono (Jo sm hy),hall y,λ H' sx rv'=>?_⟩
    ·exact (lv1 b hb).mono λ u e=>sm _ _ e
    ·refine⟨rfl,k _ H' (λ b u hb=>sx b u (λ z=>?_) (sm _ _ (s1 _ _ hb))) rv'⟩;have:=s1 _ _ hb;rw[z,hy] at this;cases this
   ·cases e
end
theorem Wi {f:FE}(ρ ρ':Rho) (h:JB f ρ=some (.nx ρ')):ρ'[0]?=ρ[0]?:=by
 unfold JB at h;cases e:f ρ with
 | none=>simp[e] at h
 | some d=>simp[e] at h;rw[h]
def K0s (g:FGs):Prop:=∀ ds ρ ρ',g ds ρ=some ρ'->ρ'[0]?=ρ[0]?
theorem jw:K0s nilG:=λ ds ρ ρ' h=>by
 unfold nilG at h;split at h
 ·cases h;rfl
 ·cases h
theorem RV {g:FGs}(hi:i≠0) (hg:K0s g):K0s (Cy i g):=λ ds ρ ρ' h=>by
 unfold Cy at h;split at h
 ·rw[hg _ _ _ h,z0v hi]
 ·cases h
theorem jz {g:FGs}(hg:K0s g) (d:D) (ρ ρ':Rho) (h:tupG n g d ρ=some ρ'):ρ'[0]?=ρ[0]?:=by
 unfold tupG at h;split at h
 ·split at h
  ·exact hg _ _ _ h
  ·cases h
 ·split at h
  ·exact hg _ _ _ h
  ·cases h
 ·cases h
end PV
namespace PV
open PySem PySem.W PySem.Calls PyProof.Rows L2
theorem ZX:∀ (ns:List Int) (i:Int),i∈ns->Builtin.Int.intBits i<=WData.weightAll (ns.map WData.int):=by
 intro ns
 induction ns with
 | nil=>intro i h;cases h
 | cons n r ih=>
  intro i h;rw[z03];show Builtin.Int.intBits i<=WData.weight (.int n)+1+WData.weightAll (r.map WData.int)
  rcases z0d.mp h with q | q
  ·subst q;have:WData.weight (.int i)=Builtin.Int.intBits i:=by unfold WData.weight Builtin.Int.intBits;rfl
   omega
  ·have:=ih i q;omega
theorem p8 {l:OpenLaw}{q:Program}{XP:(Str->Option Value)->Heap->Prop}{YP:World->Heap->Prop}{d:DefRec}(hn:l.most=some n) (hdf:d.params.defaults=[])
  (call:∀ (w:World) (s₀ s₁:Shared) (mg mb:Str->Option Value) (fa:Addr) (o:Obj) (pm cd doc:Value) (a:Addr) (vs:List Value) (ns:List Int),
   Ground q loose [] XP w s₀ mg mb s₁.heap->YP w s₁.heap ->
   s₁.heap.get? fa=some o->o.data=.func (docDef d.name d.params d.body d.scope pm cd doc)->s₁.heap.CodeRec cd d.name->mg d.name=some (.ref fa) ->
   s₁.heap.get? a=some { cls:=.type "list",data:=.seq vs.toArray }->IntsAre vs ns->ns.length<=n->(∀ i∈ns,Builtin.Int.intBits i<=1048576)->s₁.gens=#[] ->
   codeAny (model l.prog w) callerA (.call (.ref fa) ⟨[.ref a],[]⟩) (λ r s'=>r=.ok (.ret (.bool true))/\OldK s₁.heap s'.heap/\s'.os=s₁.os/\AllBare s'.gens) s₁) :
  WalkO q loose XP YP l.row.toRowW d [] (λ f vs=>PySem.call f vs):=by
 intro w s₀ s₁ mg mb G Y fa o pm cd doc dV kV ho hd hcd hD hmg hg args vals as hpre hlay hrd hwl hlo;obtain rfl:dV=.none:=Dflts.none hD hdf;obtain rfl:kV=.none:=Dflts.noKw hD;obtain⟨a,vs,ns,rfl,rfl,hobj,hints,hlen⟩:=Att.di hn hpre hwl;have hb:∀ i∈ns,Builtin.Int.intBits i<=1048576:=λ i hi=>by
  have h1:=ZX ns i hi;have h2:WData.weightAll (ns.map WData.int)<=1048576:=by
   have h3:WData.layable (.list (ns.map WData.int))=true:=z0L.mp hlay _ (z0i ..);unfold WData.layable at h3;rw[z0x] at h3;exact z1y h3.2
  omega
 refine enter_call (z0O (call w s₀ s₁ mg mb fa o pm cd doc a vs ns G Y ho (fd_plain hd) hcd hmg hobj hints hlen hb hg) λ r s' hq=>?_);obtain⟨rfl,h2,h3,h4⟩:=hq;exact⟨.inl ⟨.bool true,.bool true,[],rfl,λ _=>rfl,.bool true,Att.dj l _,λ _=>⟨List.Pairwise.nil,λ _ hm=>(nomatch hm)⟩⟩,h2,h3,h4⟩
theorem j5 {l:PySem.W.OpenLaw}{k:Nat}{q:Program}{XP:(Str->Option Value)->Heap->Prop}{YP:World->Heap->Prop}{d:DefRec}{K:Params->PySem.W.Frag}{CX:World->CXT}{sp:World->Sp}{x:Str}(hn:l.most=some n) (hn2:n<=sizeLine) (hdf:d.params.defaults=[]) (hr:Room k callerA)
  (hY:∀ (w:World) (h:Heap),YP w h->(K w.params).In h)
  (F:∀ (w:World) (mg:Str->Option Value) (fa:Addr) (h:Heap),(K w.params).In h->h.Ns mainGlobals mg->mg d.name=some (.ref fa) ->
   ∃ fd:FuncData,(∀ (s:Shared) (u:Value),BindsTo s fd ⟨[u],[]⟩ [(x,u)]) ∧
    ∀ base:Heap,(K w.params).In base->base.Ns mainGlobals mg->FnOk l.prog w (K w.params) mg base (CX w) k fa fd [x] (sp w))
  (hsp:∀ (w:World) (H:Hp) (a:Addr) (ns:List Int),ns.length<=n->(∀ i∈ns,Builtin.Int.intBits i<=1048576)->Only H->SqL (K w.params) H a (ns.map V.int)->sp w [.ref a] H (λ v _=>v=.bl true) λ _ _ _=>False)
  (hCX:∀ (w:World) (H:Hp) (s:Shared) (e:Value) (s':Shared),CX w [] H s (λ _ _ _=>False) e s'->False) :
  PySem.W.WalkO q loose XP YP l.row.toRowW d [] (λ f vs=>PySem.call f vs):=by
 refine p8 hn hdf λ w s₀ s₁ mg mb fa o pm cd doc a vs ns G Y ho hd hcd hmg hobj hints hlen hbits hg=>?_;have KX:=hY w _ Y;obtain⟨fd,hb,hF⟩:=F w mg fa _ KX G.T.g hmg;exact iU KX G.T.g G.T.b G.T.builtins G.T.nolimit hg hobj hints (z0a hlen hn2) hr hF hb (λ H hO hS=>hsp w H a ns hlen hbits hO hS) λ H e s'=>hCX w H s₁ e s'
end PV
namespace PySem
open PySem.Spec
section
variable {A:Around}{I d:Addr}{es:Array DictEntry}{od:Obj}
def xH (h:Heap) (I d:Addr) (i n ep:Nat) (od:Obj):Prop:=h.get? I=some { cls:=.type "dict_keyiterator",data:=.fields #[.ref d,.int i 0,.int n 0,.int ep 0] }/\h.get? d=some od
theorem Walks.raw (hh:A.handled=none) (hne:d≠I) (hod:od.data=.dict es ep):Walks prog w A I [I,d] [I] es.size (λ i v=>∃ hi:i<es.size,v=(es[i]'hi).key) (λ i h=>xH h I d i es.size ep od) where
 sub:=λ b hb=>by simp at hb;simp[hb]
 frame:=λ _ _ _ st hk=>⟨hk I (by simp) _ st.1,hk d (by simp) _ st.2⟩
 item:=λ i s Q E hi st hQ=>by
  refine ZV hod hi st.1 st.2 ?_;have e1:(s.heap.update I (Obj.mapFields (·.setIfInBounds 1 (rawInt ((i:Int)+1))))).get? I=some { cls:=.type "dict_keyiterator",data:=.fields #[.ref d,.int ((i+1:Nat):Int) 0,.int es.size 0,.int ep 0] }:=z18 _ st.1 rfl;exact hQ _ _ s.toks ⟨hi,rfl⟩ ⟨e1,(z0S _ _ (Ne.symm hne)).trans st.2⟩ λ b o hb e=>(z0S _ _ (λ z=>hb (by simp[<-z]))).trans e
 done:=λ s Q E st hQ=>T_ hh hod (z04 _) st.1 st.2 λ h' he=>hQ h' s.toks λ b o hb e=>he b o (λ z=>hb (by simp[z])) e
 self:=λ _ _ _ _ st hQ=>wpAny_pyIter_keyiter ⟨_,st.1,rfl,rfl⟩ hQ
theorem p_ (hd:(d==sysModules)=false) (hx:od.ExactDict) (hod:od.data=.dict es ep):PySem.W.KdlSrc prog w "dict" d d es.size (λ i v=>∃ hi:i<es.size,v=(es[i]'hi).key) (λ h=>h.get? d=some od) where
 type:=λ _ hm=>⟨_,hm,hx.1⟩
 there:=λ _ hm=>⟨z06 hm,z06 hm⟩
 keep:=λ _ _ hm hk=>hk d (.inl rfl) _ hm
 notList:=by decide
 notTuple:=by decide
 hint:=λ _ _ _ _ hm hq=>PySem.W.kdl_hint_dict ⟨_,hm,hx.1⟩ hq
 iter:=λ A s hh hm=>⟨_,_,λ E Q hq=>ZW hd hx hod hm hq,Walks.raw hh (z08 (z06 hm)) hod,z0f _ rfl,z05 _ hm⟩
end
end PySem
namespace PV
open PySem PySem.Spec L2
open PyProof.Rows hiding St
section
theorem J7 (hc:X.calm=true):Eb X (.type "list") (λ xs H Q=>∃ p kvs,xs=[.ref p]/\Rd H p (.dT kvs)/\∀ l (cs:List Addr),H l=none->cs.length=kvs.length->(∀ (i:Nat) (c:Addr) (q:List Key×V),cs[i]?=some c->kvs[i]?=some q->H c=some (.tup (q.1.map kV)))->Q (.ref l) (upd H l (.lst (cs.map V.ref)))):=by
 intro π s σ H xs us Q I r h;obtain⟨p,kvs,rfl,e,q⟩:=h;obtain⟨u,rfl,ru⟩:=r.one;cases ru;obtain⟨z,hd,ys,rel,o,es,ep,ho,hx,hod,hes,nd⟩:=(show Bt X.prog X.w H s.heap p (.dT kvs) from iH I.hok e);have hl:kvs.length=ys.length:=rel.length;have hn:es.size=ys.length:=by rw[<-z1t,hes,z02]
 refine PySem.W.kdl_call (PySem.p_ hd hx hod) (I.ok.hd hc) ho (by omega) λ h' tk acc c' kp hnew hi=>?_;have va:Vals ((ys.map (·.2.1)).map V.ref) acc.toList:=by
  have hla:acc.toList.length=ys.length:=by rw[z1t,hi.1,hn]
  have g:∀ (j:Nat) u,acc.toList[j]?=some u->∃ y,ys[j]?=some y/\u=.ref y.2.1:=λ j u hu=>by
   obtain⟨h1,h2⟩:=hi.2 j u (by simpa using hu);have hj:j<ys.length:=by omega
   refine⟨ys[j],by simp[hj],?_⟩;have e1:es[j]=entryOfKey (tupleKind (Bj X.prog X.w)) ys[j]:=by
    have:es.toList[j]?=some (entryOfKey (tupleKind (Bj X.prog X.w)) ys[j]):=by rw[hes];simp[hj]
    have h3:es.toList[j]?=some es[j]:=by simp[h1]
    rw[h3] at this;exact z0h this
   rw[h2,e1];rfl
  have build:∀ {ys:List (List Key×Addr×Value)}{us:List Value},us.length=ys.length->(∀ (j:Nat) u,us[j]?=some u->∃ y,ys[j]?=some y/\u=.ref y.2.1)->Vals ((ys.map (·.2.1)).map V.ref) us:=by
   intro ys
   induction ys with
   | nil=>intro us h1 _;rw[List.eq_nil_of_length_eq_zero h1];exact .nil
   | cons y r ih=>
    intro us h1 h2;cases us with
    | nil=>simp at h1
    | cons u us=>
     obtain⟨y',a1,a2⟩:=h2 0 u rfl;simp at a1;subst a1;exact .cons a2 (ih (by simpa using h1) λ j v hv=>by simpa using h2 (j+1) v (by simpa using hv))
  exact build hla g
 refine⟨.ref s.heap.objs.size,_,I.laid (t':=tk) kp (z04 _) (show Bt X.prog X.w _ h' _ (.lst ((ys.map (·.2.1)).map V.ref)) from⟨by rw[z02,z02];omega,acc.toList,c',va,by simpa using hnew⟩),rfl,q _ _ (I.hok.fresh (z04 _)) (by rw[z02];exact hl.symm) λ i c qq h1 h2=>?_⟩;rw[z0g] at h1;cases e3:ys[i]? with
 | none=>rw[e3] at h1;cases h1
 | some y=>
  rw[e3] at h1;cases h1;exact (J5 rel h2 e3).2.1
def Qk:D->Option D
 | .dt kds=>some (.lst (kds.map λ p=>.tup (p.1.map kDt)))
 | d=>listE d
theorem X7 {H:Hp}:∀ (k:List Key),RepL G H (k.map kV) (k.map kDt)
 | []=>.nil
 | k::r=>.cons (RT k) (X7 r)
theorem RepT.dt {A:List Addr}{H:Hp}{v:V}{kds:List (List Key×D)}(r:RepT G A H v (.dt kds)):∃ a kvs,v=.ref a/\Rd H a (.dT kvs)/\kvs.map (·.1)=kds.map (·.1)/\RepL G (hid A H) (kvs.map (·.2)) (kds.map (·.2)):=by
 rcases r with r | ⟨a,e,kvs,h,k,r⟩
 ·cases r with
  | dt h k r=>
   refine⟨_,_,rfl,.inr ⟨_,BK _ _ h⟩,k,?_,r⟩;have:=congrArg List.length k;rw[z02,z02] at this ⊢;exact this
 ·exact⟨a,kvs,e,.of h,k,r⟩
theorem Pz:SndC G (λ xs H Q=>((∃ p ys,xs=[.ref p]/\(SqL G.K H p ys∨SqT G.K H p ys)/\∀ l,H l=none->Q (.ref l) (upd H l (.lst ys)))∨∃ p kvs,xs=[.ref p]/\Rd H p (.dK kvs)/\∀ l,H l=none->Q (.ref l) (upd H l (.lst (kvs.map λ q=>kV q.1)))) ∨
  ∃ p kvs,xs=[.ref p]/\Rd H p (.dT kvs)/\∀ l (cs:List Addr),H l=none->cs.length=kvs.length->(∀ (i:Nat) (c:Addr) (q:List Key×V),cs[i]?=some c->kvs[i]?=some q->H c=some (.tup (q.1.map kV)))->Q (.ref l) (upd H l (.lst (cs.map V.ref)))) Qk:=by
 intro A H x dx d Q lv rx h k;unfold Qk at h;split at h
 ·rename_i kds;cases h;obtain⟨p,kvs,rfl,h1,h2,r⟩:=rx.dt;have hl:kvs.length=kds.length:=by have:=congrArg List.length h2;rwa [z02,z02] at this
  refine .inr ⟨p,kvs,rfl,h1,λ l cs hfree hcs hc=>k _ _ (BR hfree _) (Ec lv hfree ⟨by rw[z02,z02];omega,λ i v dd e1 e2=>?_⟩)⟩;rw[z0g] at e1 e2;cases g1:cs[i]? with
  | none=>rw[g1] at e1;cases e1
  | some c=>
   cases g2:kds[i]? with
   | none=>rw[g2] at e2;cases e2
   | some qd=>
    rw[g1] at e1;rw[g2] at e2;cases e1;cases e2;have hi:i<kvs.length:=by rw[hl];exact (z0C.mp g2).1
    have g3:kvs[i]?=some kvs[i]:=by simp[hi]
    have ek:(kvs[i]).1=qd.1:=by
     have a1:(kvs.map (·.1))[i]?=some (kvs[i]).1:=by rw[z0g,g3];rfl
     rw[h2,z0g,g2] at a1;exact (z0h a1).symm
    have ht:=hc i c _ g1 g3;rw[ek] at ht;have nA:c∉A:=λ z=>(lv c z).tup _ ht;have kr:=X7 (G:=G) (H:=hid A H) qd.1;exact .tup (.of (by rw[Bp nA];exact ht)) kr.1 kr.2
 ·exact .inl (eX A H x dx d Q lv rx h k)
end
section
def dkEq (a b:List (Key×D)):Option Bool:=if a.map (·.1)=b.map (·.1) then allO flD (a.map (·.2)) (b.map (·.2)) else none
theorem bT {A:Around}{s:Shared}{kb:List (Key×Value)}:∀ {ka:List (Key×Value)}{ds es:List D}{b:Bool},ka.length=ds.length ->
  (∀ (j:Nat) (k:Key) (v:Value) (d e:D) (c:Bool),ka[j]?=some (k,v)->ds[j]?=some d->es[j]?=some e->flD d e=some c->∃ y,valueAt kb k=some y/\SeqAt.EqAt A s v y c)->allO flD ds es=some b->PySem.W.KeqHits A s kb ka b
 | [],ds,es,b,hl,_,h=>by
  cases ds with
  | nil=>
   cases es with
   | nil=>cases h;exact .nil
   | cons e r=>cases h
  | cons d r=>simp at hl
 | (k,v)::ka,[],es,b,hl,_,h=>by simp at hl
 | (k,v)::ka,d::ds,[],b,hl,_,h=>by cases h
 | (k,v)::ka,d::ds,e::es,b,hl,g,h=>by
  unfold allO at h;cases e1:flD d e with
  | none=>rw[e1] at h;cases h
  | some c=>
   cases e2:allO flD ds es with
   | none=>rw[e1,e2] at h;cases h
   | some b'=>
    rw[e1,e2] at h;cases h;obtain⟨y,h1,h2⟩:=g 0 k v d e c rfl rfl rfl e1;exact .hit h1 h2 (bT (by simpa using hl) (λ j k v d e c a1 a2 a3 a4=>g (j+1) k v d e c (by simpa using a1) (by simpa using a2) (by simpa using a3) a4) e2)
def j6 (G:Gx) (neg:Bool):R2:=λ x y H Q=>∃ (A:List Addr) (a b:List (Key×D)) (c:Bool),RepT G A H x (.dk a)/\RepT G A H y (.dk b)/\dkEq a b=some c/\Q (.bl (if neg then !c else c)) H
theorem U_ (hG:G.K=X.K) (hu:X.A.units+64<cLine) (I:Inv X π σ H s) {A:List Addr}{a b:List (Key×D)}{c:Bool}{x y:V}(rx:RepT G A H x (.dk a)) (ry:RepT G A H y (.dk b)) (e:dkEq a b=some c) :
  ∃ p q ka kb,x=.ref p/\y=.ref q/\(p==sysModules)=false/\(q==sysModules)=false/\s.heap.DictOf (Bj X.prog X.w) p ka/\s.heap.DictOf (Bj X.prog X.w) q kb/\ka.length=kb.length/\PySem.W.KeqHits X.A.in1 s kb ka c:=by
 obtain⟨p,kvs,rfl,h1,h2,r1⟩:=rx.dk;obtain⟨q,kws,rfl,h3,h4,r2⟩:=ry.dk;unfold dkEq at e;split at e
 ·rename_i hk;obtain⟨z1,hd1,va,rela,da⟩:=MJ I.hok h1;obtain⟨z2,hd2,vb,relb,db⟩:=MJ I.hok h3;have la:kvs.length=va.length:=rela.length;have lb:kws.length=vb.length:=relb.length;have l1:kvs.length=a.length:=by have:=congrArg List.length h2;simpa using this
  have l2:kws.length=b.length:=by have:=congrArg List.length h4;simpa using this
  have l3:a.length=b.length:=by have:=congrArg List.length hk;simpa using this
  have nd:(vb.map (·.1)).Nodup:=by obtain⟨_,_,_,_,_,_,_,_,nd⟩:=db;exact nd
  refine⟨p,q,va,vb,rfl,rfl,hd1,hd2,da,db,by omega,bT (ds:=a.map (·.2)) (es:=b.map (·.2)) (by rw[z02];omega) (λ j k v d e' c' g1 g2 g3 g4=>?_) e⟩;have hj:j<va.length:=(z0C.mp g1).1;have kj:kvs[j]?=some kvs[j]:=by simp[show j<kvs.length by omega]
  have wj:kws[j]?=some kws[j]:=by simp[show j<kws.length by omega]
  have bj:vb[j]?=some vb[j]:=by simp[show j<vb.length by omega]
  have p1:=J5 rela kj g1;have p2:=J5 relb wj bj;have ek:(kvs[j]).1=(kws[j]).1:=by
   have a1:(kvs.map (·.1))[j]?=some (kvs[j]).1:=by rw[z0g,kj];rfl
   have a2:(kws.map (·.1))[j]?=some (kws[j]).1:=by rw[z0g,wj];rfl
   rw[h2,hk,<-h4,a2] at a1;exact (z0h a1).symm
  have key:k=(vb[j]).1:=by rw[<-p2.1,<-ek];exact p1.1.symm
  refine⟨(vb[j]).2,valueAt_of_get nd (i:=j) (by rw[bj,key]),?_⟩;have rv1:Rep G (hid A H) (kvs[j]).2 d:=r1.2 j _ d (by rw[z0g,kj];rfl) g2;have rv2:Rep G (hid A H) (kws[j]).2 e':=r2.2 j _ e' (by rw[z0g,wj];rfl) g3;exact Pj I hG 0 X.A.in1 (by show X.A.units+1+0<cLine;omega) (show eqK 0 d e'=some c' from g4) (rv1.mono BK) (rv2.mono BK) p1.2 p2.2
 ·cases e
theorem qC (hG:G.K=X.K) (hu:X.A.units+64<cLine):OpR X (compareOp .Eq) (j6 G false):=by
 intro π s σ H x y v u Q I rx ry h;obtain⟨A,a,b,c,r1,r2,e,k⟩:=h;obtain⟨p,q,ka,kb,rfl,rfl,m1,m2,da,db,hl,hits⟩:=U_ hG hu I r1 r2 e;cases rx;cases ry;refine PySem.W.keq_eq m1 m2 da db (by omega) (λ _=>hits) ?_;rw[hl,z0Z,Bool.true_and];exact⟨.bl c,H,I,rfl,k⟩
theorem qD (hG:G.K=X.K) (hu:X.A.units+64<cLine):OpR X (compareOp .NotEq) (j6 G true):=by
 intro π s σ H x y v u Q I rx ry h;obtain⟨A,a,b,c,r1,r2,e,k⟩:=h;obtain⟨p,q,ka,kb,rfl,rfl,m1,m2,da,db,hl,hits⟩:=U_ hG hu I r1 r2 e;cases rx;cases ry;refine PySem.W.keq_ne m1 m2 da db (by omega) (λ _=>hits) ?_;rw[hl,z0Z,Bool.true_and];exact⟨.bl (!c),H,I,rfl,k⟩
def eqF (neg:Bool) (x y:D):Option D:=match x,y with
 | .dk a,.dk b=>(dkEq a b).map λ c=>.bl (if neg then !c else c)
 | x,y=>eqD neg x y
theorem bU (neg:Bool):Dh G (λ x y H Q=>rEqA G neg x y H Q∨j6 G neg x y H Q) (eqF neg):=by
 intro A H x y dx dy d Q lv rx ry h k;unfold eqF at h;split at h
 ·rename_i a b;cases e:dkEq a b with
  | none=>simp[e] at h
  | some c=>
   simp only[e,z0k] at h;cases h;exact .inr ⟨A,a,b,c,rx,ry,e,k _ H (Same.refl H) (.bl _)⟩
 ·exact .inl (WX neg A H x y _ _ d Q lv rx ry h k)
end
structure FunD (K:zFr) (x qual:Str) (st:Stmt) (f:Addr) (fd:FuncData):Prop where
 ex:∃ (oc:Value) (od:Option Addr) (dV kV doc pm:Value) (an:Option Addr) (cdv ct:Value) (osl:Array (Option Value)),
  fd=PySem.W.fnOf x qual (Cd st) (Bk st) (Ad st) dV kV doc pm an cdv ct/\K.lookup f=some ⟨oc,od,.func fd,osl⟩/\PySem.W.codeIn K cdv qual=true
 kp:PySem.W.keepIn K (.ref f)=true
theorem bV {K:zFr}{x:Str}{st:Stmt}{f:Addr}{dV kV:Value}(l:K.lookup f=some ⟨oc,od,.func (PySem.W.fnOf x qual (Cd st) (Bk st) (Ad st) dV kV doc pm an cdv ct),osl⟩)
  (c:PySem.W.codeIn K cdv qual=true) (k:PySem.W.keepIn K (.ref f)=true):FunD K x qual st f (PySem.W.fnOf x qual (Cd st) (Bk st) (Ad st) dV kV doc pm an cdv ct):=⟨⟨oc,od,dV,kV,doc,pm,an,cdv,ct,osl,rfl,l,c⟩,k⟩
theorem xJ {base:Heap}{x:Str}{st:Stmt}{f:Addr}{k:Nat}{b:FS}(F:FunD G.K x qual st f fd) (S:FnScope N ps (Ad st)) (hl:ps.length<=N.length)
  (hb:∀ (cdv:Value) (A:Around) (outer:List Env) (s:Shared) (H:Hp) (E:XK),Room k (A.deeper (envOfC qual (Ad st) s.heap.objs.size f cdv))->PSDs (cxOf CX0 P w G.K mg base N qual (Ad st) f cdv A outer s H E).nox G (Bk st) b) :
  FnOk P w G.K mg base CX0 (k+1) f fd ps (spD G (runF N.length ps.length b)):=by
 obtain⟨oc,od,dV,kV,doc,pm,an,cdv,ct,osl,rfl,lk,hcd⟩:=F.ex;refine gf lk hcd S (λ vs H Q E h=>?_) (λ A outer s H vs Q E hr h=>?_)
 ·obtain⟨A,ds,d,lv,r,e,_⟩:=h;unfold runF at e;split at e
  ·rename_i hz;rw[r.1];exact hz
  ·cases e
 ·obtain⟨A0,ds,d,lv,r,e,k⟩:=h;unfold runF at e;split at e
  ·rename_i hz;have hzz:=hb cdv A outer s H E hr;refine⟨_,(@hzz A0 H).nox,FN N.length ds,?_⟩;cases e1:b (FN N.length ds) with
   | none=>simp[e1] at e
   | some o=>
    refine⟨o,R_ lv r (by rw[r.1,hz];exact hl),rfl,?_⟩;cases o with
    | nx ρ=>
     simp only[e1] at e;cases e;exact λ σ H' ⟨A,w⟩=>k _ H' w.same .non
    | rt d' ρ'=>
     simp only[e1] at e;cases e;exact λ v σ H' A w r'=>k v H' w.same (r'.mono (GR w.sub))
    | bk ρ=>simp[e1] at e
    | ct ρ=>simp[e1] at e
  ·cases e
end PV
namespace PV
open PySem L2
theorem j7 (l:List D) (y:D):ixE (.lst l) y=ixD (.lst l) y:=zE_ _
theorem Mw (l:List D) (y:D):ixE (.tup l) y=ixD (.tup l) y:=zE_ _
theorem j8 (l:Str) (y:D):ixE (.str l) y=ixD (.str l) y:=zE_ _
theorem RW (k:List (Key×D)) (x:Str):ixE (.dk k) (.str x)=getK (.inr x) k:=zE_ _
theorem bW (k:List (Key×D)) (x:Int):ixE (.dk k) (.int x)=getK (.inl x) k:=zE_ _
theorem bY (l:List D):lenE (.lst l)=some (.int l.length):=zE_ _
theorem bZ (l:List (Key×D)):lenE (.dk l)=some (.int l.length):=zE_ _
theorem bc (neg:Bool) (x:Str) (k:List (Key×D)):inF neg (.str x) (.dk k)=some (.bl (if neg then !(getK (.inr x) k).isSome else (getK (.inr x) k).isSome)):=zE_ _
theorem bf (neg:Bool) (x:Int) (k:List (Key×D)):inF neg (.int x) (.dk k)=some (.bl (if neg then !(getK (.inl x) k).isSome else (getK (.inl x) k).isSome)):=zE_ _
theorem bh (neg:Bool) (x:Str) (l:List D):inF neg (.str x) (.tup l)=inD neg (.str x) (.tup l):=zE_ _
theorem bu (neg:Bool) (x:Str) (l:List D):inF neg (.str x) (.lst l)=inD neg (.str x) (.lst l):=zE_ _
theorem bx (neg:Bool) (x:Int) (l:List D):inF neg (.int x) (.lst l)=inD neg (.int x) (.lst l):=zE_ _
def Sd (o:Option D):Option (List D):=match o with | some (.str x)=>some (Xz x) | some (.lst ds)=>some ds | some (.tup ds)=>some ds | some (.dk kds)=>some (kds.map λ p=>kDt p.1) | _=>none
theorem Hk (f:FE) (ρ:Rho):seqA f ρ=Sd (f ρ):=by
 delta seqA seqE Sd;cases f ρ with
 | none=>rfl
 | some d=>cases d<;>rfl
theorem HF (l:List D):Sd (some (.lst l))=some l:=zE_ _
theorem bz (l:List D):Sd (some (.tup l))=some l:=zE_ _
theorem RX (l:List (Key×D)):Sd (some (.dk l))=some (l.map λ p=>kDt p.1):=zE_ _
def putO (i:Nat) (ρ:Rho) (x y v:Option D):Option Out:=v.bind λ v=>y.bind λ y=>x.bind λ x=>(Dc x y v).map λ z=>.nx (ρ.set i (.ow z))
theorem Hq (i:Nat) (fk fv:FE) (ρ:Rho):putF i fk fv ρ=putO i ρ (getW ρ[i]?) (fk ρ) (fv ρ):=zE_ _
theorem FQ (i:Nat) (ρ:Rho) (x y v:D):putO i ρ (some x) (some y) (some v)=(Dc x y v).map λ z=>.nx (ρ.set i (.ow z)):=zE_ _
def rm (i:Nat) (ρ:Rho) (x:Option D) (y:Option (List D)) (v:Option D):Option Out:=v.bind λ v=>y.bind λ y=>x.bind λ x=>(Nz x y v).map λ z=>.nx (ρ.set i (.ow z))
theorem j9 (i:Nat) (fk:FA) (fv:FE) (ρ:Rho):Xw i fk fv ρ=rm i ρ (getW ρ[i]?) (fk ρ) (fv ρ):=zE_ _
theorem b_ (i:Nat) (ρ:Rho) (x:D) (y:List D) (v:D):rm i ρ (some x) (some y) (some v)=(Nz x y v).map λ z=>.nx (ρ.set i (.ow z)):=zE_ _
def frzO (ρ:Rho) (i:Nat) (o:Option Slot):Rho:=match o with | some (.ow d)=>ρ.set i (.fz d) | _=>ρ
theorem Sg (g:FS) (ρ:Rho):fzS [] g ρ=g ρ:=zE_ _
theorem Sh (i:Nat) (is:List Nat) (g:FS) (ρ:Rho):fzS (i::is) g ρ=fzS is g (frzO ρ i ρ[i]?):=zE_ _
theorem My (ρ:Rho) (i:Nat) (d:D):frzO ρ i (some (.ow d))=ρ.set i (.fz d):=zE_ _
theorem j_ (ρ:Rho) (i:Nat) (d:D):frzO ρ i (some (.fz d))=ρ:=zE_ _
def itO (o:Option D):Option (List D):=match o with | some (.dk kds)=>some (kds.map λ p=>.tup [kDt p.1,p.2]) | _=>none
theorem cA (f:FE) (ρ:Rho):Mu f ρ=itO (f ρ):=zE_ _
theorem X8 (kds:List (Key×D)):itO (some (.dk kds))=some (kds.map λ p=>.tup [kDt p.1,p.2]):=zE_ _
theorem Ln (i j:Nat) (a b:D) (ρ:Rho):tupG 2 (Cy i (Cy j nilG)) (.tup [a,b]) ρ=some ((ρ.set i (.fz a)).set j (.fz b)):=zE_ _
theorem VB (x:Str):kDt (.inr x)=.str x:=zE_ _
theorem sE (x:Int):kDt (.inl x)=.int x:=zE_ _
theorem P0 {κ:Type} [DecidableEq κ] {k:κ}:∀ {l:List (κ×D)},k∉l.map (·.1)->getK k l=none
 | [],_=>rfl
 | p::r,h=>by
  unfold getK;rw[z03,z0d,not_or] at h;rw[if_neg (λ z=>h.1 z.symm)];exact P0 h.2
theorem cB {κ:Type} [DecidableEq κ] {k:κ}{d:D}:∀ {l:List (κ×D)},(l.map (·.1)).Nodup->(k,d)∈l->getK k l=some d
 | [],_,h=>by cases h
 | p::r,nd,h=>by
  unfold getK;rw[z03,z1i] at nd
  rcases z0d.mp h with q | q
  ·subst q;rw[if_pos rfl]
  ·rw[if_neg (λ z=>nd.1 (by rw[z];exact z07.mpr ⟨(k,d),q,rfl⟩))];exact cB nd.2 q
theorem putL_new {κ:Type} [DecidableEq κ] {k:κ}{v:D}{l:List (κ×D)}(h:k∉l.map (·.1)):putL k v l=l++[(k,v)]:=by
 delta putL;rw[P0 h];rfl
theorem Kv (k:List (Key×D)) (x:Str) (v:D) (hl:k.length<=1000000):Dc (.dk k) (.str x) v=some (.dk (putL (.inr x) v k)):=by
 show (if k.length<sizeLine then some (D.dk (putL (.inr x) v k)) else none)=_;rw[if_pos (z1n hl (by decide))]
theorem u9 (k:List (Key×D)) (x:Int) (v:D) (hl:k.length<=1000000):Dc (.dk k) (.int x) v=some (.dk (putL (.inl x) v k)):=by
 show (if k.length<sizeLine then some (D.dk (putL (.inl x) v k)) else none)=_;rw[if_pos (z1n hl (by decide))]
theorem u_ (k:List (List Key×D)) (x y:Int) (v:D) (hl:k.length<=1000000):Nz (.dt k) [.int x,.int y] v=some (.dt (putL [.inl x,.inl y] v k)):=by
 show (if k.length<sizeLine/\2<=sizeLine then some (D.dt (putL [.inl x,.inl y] v k)) else none)=_;rw[if_pos ⟨z1n hl (by decide),by decide⟩]
theorem Wj {g:FS}{ρ':Rho}(h:g ρ=some (.nx ρ')) (hn:noOw ρ'=true):pureE g ρ ε=some (ρ',ε):=by
 delta pureE;rw[h];show (if noOw ρ'=true then some (ρ',ε) else none)=_;rw[if_pos hn]
def sG (r:Option (Rho×Ef)) (gs:FEs):Option (Rho×Ef):=r.bind λ r=>gs r.1 r.2
theorem Jb (g gs:FEs) (ρ:Rho) (ε:Ef):Ib g gs ρ ε=sG (g ρ ε) gs:=zE_ _
theorem HJ (gs:FEs) (ρ:Rho) (ε:Ef):sG (some (ρ,ε)) gs=gs ρ ε:=zE_ _
theorem vA (ρ:Rho) (ε:Ef):nilE ρ ε=some (ρ,ε):=zE_ _
theorem kE {tg:FG}{b:FEs}(h:src ρ=some ds):forE src tg b ρ ε=JG tg b ds ρ ε:=by
 delta forE;rw[h];rfl
def popO (i:Nat) (ρ:Rho) (o:Option D):Option Out:=match o with
 | some (.lst ds)=>(ds[ds.length-1]?).map λ _=>.nx (ρ.set i (.ow (.lst ds.dropLast)))
 | _=>none
def X_ (i j:Nat) (ρ:Rho) (o:Option D):Option Out:=match o with
 | some (.lst ds)=>(ds[ds.length-1]?).map λ y=>.nx ((ρ.set i (.ow (.lst ds.dropLast))).set j (.fz y))
 | _=>none
def popF (i:Nat):FS:=λ ρ=>popO i ρ (getW ρ[i]?)
def popT (i j:Nat):FS:=λ ρ=>X_ i j ρ (getW ρ[i]?)
def YB (x k v:D):Option D:=match x,k with
 | .lst ds,.int n=>(ixN ds.length n).map λ j=>.lst (ds.set j v)
 | _,_=>none
def cC (i:Nat) (ρ:Rho) (x k v:Option D):Option Out:=v.bind λ v=>k.bind λ k=>x.bind λ x=>(YB x k v).map λ y=>.nx (ρ.set i (.ow y))
def Sq (i:Nat) (fa fb:FE):FS:=λ ρ=>cC i ρ (getW ρ[i]?) (fa ρ) (fb ρ)
theorem kI (i:Nat) (ρ:Rho):popF i ρ=popO i ρ (getW ρ[i]?):=zE_ _
theorem vB (i:Nat) (ρ:Rho) (ds:List D):popO i ρ (some (.lst ds))=(ds[ds.length-1]?).map λ _=>.nx (ρ.set i (.ow (.lst ds.dropLast))):=zE_ _
theorem vC (i j:Nat) (ρ:Rho):popT i j ρ=X_ i j ρ (getW ρ[i]?):=zE_ _
theorem qF (i j:Nat) (ρ:Rho) (ds:List D):X_ i j ρ (some (.lst ds))=(ds[ds.length-1]?).map λ y=>.nx ((ρ.set i (.ow (.lst ds.dropLast))).set j (.fz y)):=zE_ _
theorem P_ (i:Nat) (fa fb:FE) (ρ:Rho):Sq i fa fb ρ=cC i ρ (getW ρ[i]?) (fa ρ) (fb ρ):=zE_ _
theorem Lp (i:Nat) (ρ:Rho) (x k v:D):cC i ρ (some x) (some k) (some v)=(YB x k v).map λ y=>.nx (ρ.set i (.ow y)):=zE_ _
end PV
namespace PV
open PySem PySem.Spec L2
open PyProof.Rows hiding St
section
variable {a b c:Expr}{fa fb fc:FE}{p2 px:Pos}
theorem QB {o:Option Slot}{d:D}(h:getW o=some d):o=some (.ow d):=by
 unfold getW at h;split at h
 ·cases h;rfl
 ·cases h
theorem RepL.dropLast (r:RepL G H xs ds):RepL G H xs.dropLast ds.dropLast:=by
 rw[List.dropLast_eq_take,List.dropLast_eq_take,r.1];exact r.take _
theorem RepL.set (r:RepL G H xs ds) {v:V}{d:D}(q:Rep G H v d) (j:Nat):RepL G H (xs.set j v) (ds.set j d):=by
 refine⟨by rw[z0W,z0W];exact r.1,λ i x e h1 h2=>?_⟩
 by_cases h:j=i
 ·subst h;rw[List.getElem?_set] at h1 h2;simp only[if_true] at h1 h2;split at h1
  ·split at h2
   ·cases h1;cases h2;exact q
   ·cases h2
  ·cases h1
 ·rw[z0v h] at h1 h2;exact r.2 i x e h1 h2
theorem qG {x:Str}(hv:PE X (.Name x xpos) (tVar i))
  (hbase:attributeBase (.Name x xpos) "pop" X.env (eval (.Name x xpos) X.env)=eval (.Name x xpos) X.env:=by rfl)
  (hline:(apos.endLine==pos.line)=true:=by rfl) (hsw:swapsWith (.Call (.Attribute (.Name x xpos) "pop" apos) [] [] pos) none p2.line X.env=pure false:=by rfl) :
  PSD X G (.Expr (.Call (.Attribute (.Name x xpos) "pop" apos) [] [] pos) p2) (popF i):=by
 rintro A0 He π s σ H D I ⟨ρ,o,⟨A,w⟩,e,k⟩
 refine HB (h_ PySem.F.plainAttrs_list PySem.F.slot_list_pop PySem.F.type_list_pop iG hv hbase hline) hsw π s σ H D I ?_;unfold popF popO at e;split at e
 ·rename_i ds hg;have hi:=QB hg;cases e1:ds[ds.length-1]? with
  | none=>simp[e1] at e
  | some y=>
   simp only[e1,z0k] at e;cases e;obtain⟨p,h1,hA,xs,h2,r⟩:=w.ok.ow i _ hi;obtain⟨u,hu,ru⟩:=r.get e1;refine⟨_,h1,.inl ⟨rfl,xs,.of h2⟩,p,xs,u,rfl,rfl,h2,by rw[r.1];exact hu,?_⟩;refine k _ _ ⟨A,w.wr hi h1 ⟨xs.dropLast,Ai,?_⟩⟩;rw[CQ hA];exact r.dropLast
 ·cases e
theorem kJ {x y:Str}{p:Pos}(h:∀ te,PE X (.Call (.Attribute (.Name x xpos) "pop" apos) [] [] pos) te->PS X (.Assign [.Name y p] (.Call (.Attribute (.Name x xpos) "pop" apos) [] [] pos) p2) (tAsg te (Kd j))) (hv:PE X (.Name x xpos) (tVar i))
  (hbase:attributeBase (.Name x xpos) "pop" X.env (eval (.Name x xpos) X.env)=eval (.Name x xpos) X.env:=by rfl)
  (hline:(apos.endLine==pos.line)=true:=by rfl) :
  PSD X G (.Assign [.Name y p] (.Call (.Attribute (.Name x xpos) "pop" apos) [] [] pos) p2) (popT i j):=by
 rintro A0 He π s σ H D I ⟨ρ,o,⟨A,w⟩,e,k⟩
 refine h _ (h_ PySem.F.plainAttrs_list PySem.F.slot_list_pop PySem.F.type_list_pop iG hv hbase hline) π s σ H D I ?_;unfold popT X_ at e;split at e
 ·rename_i ds hg;have hi:=QB hg;cases e1:ds[ds.length-1]? with
  | none=>simp[e1] at e
  | some y=>
   simp only[e1,z0k] at e;cases e;obtain⟨p,h1,hA,xs,h2,r⟩:=w.ok.ow i _ hi;obtain⟨u,hu,ru⟩:=r.get e1;refine⟨_,h1,.inl ⟨rfl,xs,.of h2⟩,p,xs,u,rfl,rfl,h2,by rw[r.1];exact hu,?_⟩;have w1:OkW G A0 He A σ (upd H p (.lst xs.dropLast)) (ρ.set i (.ow (.lst ds.dropLast))):=w.wr hi h1 ⟨xs.dropLast,Ai,by rw[CQ hA];exact r.dropLast⟩;exact k _ _ ⟨A,w1.set (by rw[CQ hA];exact ru) j⟩
 ·cases e
theorem N5 {x:Str}(hv:PE X (.Name x xpos) (tVar i)) (ha:PF X G a fa) (hb:PF X G b fb)
  (hs:swapsWithSole [.Subscript (.Name x xpos) a spos] b pos.line X.env=pure false:=by rfl) (hw:swappedStores [.Subscript (.Name x xpos) a spos] b X.env=pure none:=by rfl)
  (h1:(assignEach [.Subscript (.Name x xpos) a spos] X.env).map (·.2)=[assign (.Subscript (.Name x xpos) a spos) X.env]:=by rfl)
  (ht:∀ v,assign (.Subscript (.Name x xpos) a spos) X.env v=(do
   let ov <-holding [v] (eval (.Name x xpos) X.env)
   let iv <-holding [v,ov] (eval a X.env)
   standAt spos
   holding [v,ov,iv] (setItem ov iv v)
   release [v,ov,iv] []):=by intro _;rfl) :
  PSD X G (.Assign [.Subscript (.Name x xpos) a spos] b pos) (Sq i fa fb):=by
 rintro A0 He π s σ H D I ⟨ρ,o,⟨A,w⟩,e,k⟩
 refine gH (@hb A) (uG hv (@ha A) set_list ht) hs hw h1 π s σ H D I ?_;unfold Sq cC at e;cases e1:fb ρ with
 | none=>simp[e1] at e
 | some v=>
  cases e2:fa ρ with
  | none=>simp[e1,e2] at e
  | some y=>
   cases e3:getW ρ[i]? with
   | none=>simp[e1,e2,e3] at e
   | some x0=>
    simp only[e1,e2,e3,z0c] at e;have hi:=QB e3;unfold YB at e;split at e
    ·rename_i ds n;cases e4:ixN ds.length n with
     | none=>simp[e4] at e
     | some j=>
      simp only[e4,z0k] at e;cases e;obtain⟨p,g1,hA,xs,g2,r⟩:=w.ok.ow i _ hi;refine⟨ρ,v,w.ok,e1,λ u H1 s1 r1=>⟨_,g1,ρ,_,(w.mono s1).ok,e2,λ yv H2 s2 r2=>?_⟩⟩;cases r2;refine⟨p,xs,n,j,rfl,rfl,s2 _ _ (s1 _ _ g2),by rw[r.1];exact e4,?_⟩;have w2:=(w.mono s1).mono s2;refine k _ _ ⟨A,w2.wr hi g1 ⟨xs.set j u,Ai,?_⟩⟩;rw[CQ hA];exact (r.mono (BV (s1.trans s2))).set (r1.mono (BV s2)) j
    ·cases e
end
section
variable {a b c:Expr}{fa fb fc:FE}{p2:Pos}{es:List Expr}{fs:FA}
theorem vr (i:Nat) {x:Str}(hN:X.N[i]?=some x:=by rfl) (hv:Vis X.env.scope x:=by first | exact Or.inl rfl | exact Or.inr (Or.inl rfl) | exact Or.inr (Or.inr rfl)) (hd:(x==("__debug__":Str))=false:=by decide) (hcd:(x==("__classdict__":Str))=false:=by decide):PF X G (.Name x pos) (vF i):=uW i (pv i hN hv hd hcd)
theorem vp (i:Nat) {x:Str}(hN:X.N[i]?=some x:=by rfl) (hv:Vis X.env.scope x:=by first | exact Or.inl rfl | exact Or.inr (Or.inl rfl) | exact Or.inr (Or.inr rfl)) (hd:(x==("__debug__":Str))=false:=by decide) (hcd:(x==("__classdict__":Str))=false:=by decide):PU X G (.Name x pos) (vF i):=PF.pu (vr i hN hv hd hcd)
theorem vq (i:Nat) {x:Str}(hN:X.N[i]?=some x:=by rfl) (hv:Vis X.env.scope x:=by first | exact Or.inl rfl | exact Or.inr (Or.inl rfl) | exact Or.inr (Or.inr rfl)) (hd:(x==("__debug__":Str))=false:=by decide) (hcd:(x==("__classdict__":Str))=false:=by decide):PU X G (.Name x pos) (vU i):=uX i (pv i hN hv hd hcd)
theorem pU {f:FE}(h:PF X G e f):PU X G e f:=PF.pu h
theorem iP {i j}:PU X G (.Constant (.int i) j pos) (kF (.int i)):=PF.pu Kr
theorem sP {x j}:PU X G (.Constant (.str x) j pos) (kF (.str x)):=PF.pu Ja
theorem iX {k:Nat}(hr:Room k X.A) (ha:PU X G a fa) (hb:PU X G b fb) (hG:G.K=X.K:=by rfl) (hs:M9 b:=by exact λ _ _=>rfl):PF X G (.Subscript a b pos) (bF ixE fa fb):=ut (Hz hr) hG ha hb hs
theorem iD (ha:PU X G a fa) (hb:PU X G b fb) (hG:G.K=X.K:=by rfl) (hs:M9 b:=by exact λ _ _=>rfl):PF X G (.Subscript a b pos) (bF ixD fa fb):=wZ hG ha hb hs
theorem bAdd (ha:PU X G a fa) (hb:PU X G b fb) (hG:G.K=X.K:=by rfl):PF X G (.BinOp a .Add b pos) (bF addD fa fb):=Bs oW (by rw[<-hG];exact oX) ha hb
theorem bSub (ha:PU X G a fa) (hb:PU X G b fb):PF X G (.BinOp a .Sub b pos) (bF subD fa fb):=Bs uJ oN ha hb
theorem bMul (ha:PU X G a fa) (hb:PU X G b fb):PF X G (.BinOp a .Mult b pos) (bF mulD fa fb):=Bs oO oR ha hb
theorem bDiv (ha:PU X G a fa) (hb:PU X G b fb):PF X G (.BinOp a .FloorDiv b pos) (bF Dt fa fb):=Bs nM jB ha hb
theorem bMod (ha:PU X G a fa) (hb:PU X G b fb):PF X G (.BinOp a .Mod b pos) (bF modD fa fb):=Bs uK oU ha hb
theorem cEq {k:Nat}(hr:Room k X.A) (ha:PU X G a fa) (hb:PU X G b fb) (hG:G.K=X.K:=by rfl):PF X G (.Compare a [.Eq] [b] pos) (bF (eqD false) fa fb):=jA (ZF hG hr.unitsW) (WX false) ha hb (Kh _)
theorem tEq {k:Nat}(hr:Room k X.A) (ha:PU X G a fa) (hb:PU X G b fb) (hG:G.K=X.K:=by rfl):PFT X G (.Compare a [.Eq] [b] pos) (blF (bF (eqD false) fa fb)):=Fb (ZF hG hr.unitsW) (WX false) ha hb (Kh _)
theorem tNe {k:Nat}(hr:Room k X.A) (ha:PU X G a fa) (hb:PU X G b fb) (hG:G.K=X.K:=by rfl):PFT X G (.Compare a [.NotEq] [b] pos) (blF (bF (eqD true) fa fb)):=Fb (jH hG hr.unitsW) (WX true) ha hb (Kh _)
theorem tEqF {k:Nat}(hr:Room k X.A) (ha:PU X G a fa) (hb:PU X G b fb) (hG:G.K=X.K:=by rfl):PFT X G (.Compare a [.Eq] [b] pos) (blF (bF (eqF false) fa fb)):=Fb ((ZF hG hr.unitsW).or (qC hG hr.units)) (bU false) ha hb (Kh _)
theorem tNeF {k:Nat}(hr:Room k X.A) (ha:PU X G a fa) (hb:PU X G b fb) (hG:G.K=X.K:=by rfl):PFT X G (.Compare a [.NotEq] [b] pos) (blF (bF (eqF true) fa fb)):=Fb ((jH hG hr.unitsW).or (qD hG hr.units)) (bU true) ha hb (Kh _)
theorem cIn {k:Nat}(hr:Room k X.A) (ha:PU X G a fa) (hb:PU X G b fb) (hG:G.K=X.K:=by rfl) (hm:behindInMarks .In b=false:=by with_unfolding_all rfl):PF X G (.Compare a [.In] [b] pos) (bF (inF false) fa fb):=jA ((ZD.or (ZP (Hz hr))).or (jn hG hr.units)) (by rw[<-hG];exact Wg false) ha hb hm
theorem tIn {k:Nat}(hr:Room k X.A) (ha:PU X G a fa) (hb:PU X G b fb) (hG:G.K=X.K:=by rfl) (hm:behindInMarks .In b=false:=by with_unfolding_all rfl):PFT X G (.Compare a [.In] [b] pos) (blF (bF (inF false) fa fb)):=Fb ((ZD.or (ZP (Hz hr))).or (jn hG hr.units)) (by rw[<-hG];exact Wg false) ha hb hm
theorem tNi {k:Nat}(hr:Room k X.A) (ha:PU X G a fa) (hb:PU X G b fb) (hG:G.K=X.K:=by rfl) (hm:behindInMarks .NotIn b=false:=by with_unfolding_all rfl):PFT X G (.Compare a [.NotIn] [b] pos) (blF (bF (inF true) fa fb)):=Fb ((d7.or (eO (Hz hr))).or (eZ hG hr.units)) (by rw[<-hG];exact Wg true) ha hb hm
theorem tLt (ha:PU X G a fa) (hb:PU X G b fb):PFT X G (.Compare a [.Lt] [b] pos) (blF (bF ltD fa fb)):=Fb wJ uY ha hb (Kh _)
theorem tGt (ha:PU X G a fa) (hb:PU X G b fb):PFT X G (.Compare a [.Gt] [b] pos) (blF (bF gtD fa fb)):=Fb wK uZ ha hb (Kh _)
theorem tGe (ha:PU X G a fa) (hb:PU X G b fb):PFT X G (.Compare a [.GtE] [b] pos) (blF (bF geD fa fb)):=Fb wL uc ha hb (Kh _)
theorem sF (hN:X.N.Nodup) (i:Nat) {x:Str}{p:Pos}(ha:PF X G a fa) (hi:X.N[i]?=some x:=by rfl) (hx:Loc X.env.scope x:=by first | exact Or.inl rfl | exact Or.inr rfl) (hs:swapsWith a (some (.Name x p)) pos.line X.env=pure false:=by rfl)
  (hf:X.fn x=true∨X.env.scope.names.lookup x=some .local :=by first | exact .inl rfl | exact .inr rfl | assumption):PSD X G (.Assign [.Name x p] a pos) (setF i fa):=o7 (λ _ h=>Yo hN hi hx h hs hf) ha
theorem sW (hN:X.N.Nodup) (i:Nat) {x:Str}{p:Pos}(ha:PN X G a fa) (hi:X.N[i]?=some x:=by rfl) (hx:Loc X.env.scope x:=by first | exact Or.inl rfl | exact Or.inr rfl) (hs:swapsWith a (some (.Name x p)) pos.line X.env=pure false:=by rfl)
  (hf:X.fn x=true∨X.env.scope.names.lookup x=some .local :=by first | exact .inl rfl | exact .inr rfl | assumption) (hi0:i≠0:=by decide):PSD X G (.Assign [.Name x p] a pos) (setW i fa):=jQ (λ _ h=>Yo hN hi hx h hs hf) ha hi0
theorem gN (hN:X.N.Nodup) (i:Nat) {x:Str}(hi:X.N[i]?=some x:=by rfl) (hx:Loc X.env.scope x:=by first | exact Or.inl rfl | exact Or.inr rfl) (hf:X.fn x=true∨X.env.scope.names.lookup x=some .local :=by first | exact .inl rfl | exact .inr rfl | assumption):PG X (.Name x pos) (Kd i):=nH hN hi hx hf
theorem cO {t:Str}(hN:X.N=N) (hs:X.env.scope=sc) (h:Wa N sc scope t=true:=by decide +kernel):CompOk X scope t:=d_ hN hs h
abbrev nT (N:List Str) (t:Str):List Str:=N++[t]
structure Dx (K:zFr) (mg:Str->Option Value) (x:Str) (st:Stmt) (ps:List Str) where
 f:Addr
 fd:FuncData
 F:FunD K x x st f fd
 B:Binds K fd ps []
 m:mg x=some (.ref f)
abbrev DOk (P:Program) (w:World) (base:Heap) {K:zFr}{mg:Str->Option Value}{x:Str}{st:Stmt}{ps:List Str}(d:Dx K mg x st ps) (k:Nat) (sp:Sp):Prop:=FnOk P w K mg base CX0 k d.f d.fd ps sp
theorem fX {k:Nat}{x:Str}{st:Stmt}{p:Pos}{d:Dx X.K X.mg x st ps}{g:List D->Option D}(F:FnOk X.prog X.w X.K X.mg X.base CX0 k d.f d.fd ps (spD G g)) (hr:Room k' X.A) (ha:PFA X G (a::es) fs) (hle:k<=k':=by omega) (hg:Gl X x:=by rfl) (hdb:(x==("__debug__":Str))=false:=by decide)
  (he:starEach (a::es) X.env=(false,eval a X.env)::starEach es X.env:=by rfl) (hpl:(backTo pos (starEach es X.env)).any (·.1)=false:=by rfl):PF X G (.Call (.Name x p) (a::es) [] pos) (An g fs):=wg F (hr.mono hle) hg d.m d.F.kp d.B ha hdb he hpl
end
section
variable {K:zFr}{x:Str}{st:Stmt}{f:Addr}{dV kV:Value}
theorem fnX {base:Heap}{k:Nat}{b:FS}(d:Dx G.K mg x st ps) (S:FnScope N ps (Ad st))
  (hb:∀ (cdv:Value) (A:Around) (outer:List Env) (s:Shared) (H:Hp) (E:XK),Room k (A.deeper (envOfC x (Ad st) s.heap.objs.size d.f cdv))->PSDs (cxOf CX0 P w G.K mg base N x (Ad st) d.f cdv A outer s H E).nox G (Bk st) b) (hl:ps.length<=N.length:=by decide) :
  FnOk P w G.K mg base CX0 (k+1) d.f d.fd ps (spD G (runF N.length ps.length b)):=xJ d.F S hl hb
def dx (X:K.In h) (N:h.Ns mainGlobals mg) (a:PySem.W.nsIn K mainGlobals x=some (some (.ref f))) (l:K.lookup f=some ⟨oc,od,.func (PySem.W.fnOf x x (Cd st) (Bk st) (Ad st) .none kV doc pm an cdv ct),osl⟩) (c:PySem.W.codeIn K cdv x=true) (k:PySem.W.keepIn K (.ref f)=true)
  (b:∀ (kV doc pm:Value) (an:Option Addr) (cdv ct:Value) (us:List Value),us.length=ps.length->bindArgs (PySem.W.fnOf x x (Cd st) (Bk st) (Ad st) .none kV doc pm an cdv ct) ⟨us,[]⟩=pure (ps.zip us)):Dx K mg x st ps:=⟨f,_,bV l c k,(Jz l c k).binds b,z10 X N a⟩
def dxD (X:K.In h) (N:h.Ns mainGlobals mg) (a:PySem.W.nsIn K mainGlobals x=some (some (.ref f))) (l:K.lookup f=some ⟨oc,od,.func (PySem.W.fnOf x x (Cd st) (Bk st) (Ad st) dV kV doc pm an cdv ct),osl⟩) (c:PySem.W.codeIn K cdv x=true) (k:PySem.W.keepIn K (.ref f)=true)
  (b:Binds K (PySem.W.fnOf x x (Cd st) (Bk st) (Ad st) dV kV doc pm an cdv ct) ps []):Dx K mg x st ps:=⟨f,_,bV l c k,b,z10 X N a⟩
structure Ix (K:zFr) (C:Addr) (qual:Str) (st:Stmt) (ps:List Str) where
 f:Addr
 fd:FuncData
 F:Fun K "__init__" qual st f fd
 B:Binds K fd ps []
 mM:Mk K C f
def ix (X:K.In h) (m:PySem.W.makesIn K C=true) (kc:PySem.W.keepIn K (.ref C)=true) (a:PySem.W.findIn K (.ref C) "__init__"=some (some (.ref f))) (i:PySem.W.isFn K (.ref f)=true) (l:K.lookup f=some ⟨oc,od,.func (PySem.W.fnOf "__init__" qual (Cd st) (Bk st) (Ad st) .none kV doc pm an cdv ct),osl⟩) (c:PySem.W.codeIn K cdv qual=true) (k:PySem.W.keepIn K (.ref f)=true)
  (b:∀ (kV doc pm:Value) (an:Option Addr) (cdv ct:Value) (us:List Value),us.length=ps.length->bindArgs (PySem.W.fnOf "__init__" qual (Cd st) (Bk st) (Ad st) .none kV doc pm an cdv ct) ⟨us,[]⟩=pure (ps.zip us)):Ix K C qual st ps:=⟨f,_,Jz l c k,(Jz l c k).binds b,m,a,i,kc⟩
structure Sx (mg:Str->Option Value) (x:Str) (f:Tok->Value) where
 t:Tok
 m:mg x=some (f t)
structure Kx (G:Gx) (mg:Str->Option Value) (x:Str) (c:D) where
 a:Addr
 m:mg x=some (.ref a)
 r:Rep G (λ _=>none) (.ref a) c
def sx {t:Tok}{f:Tok->Value}(X:K.In h) (N:h.Ns mainGlobals mg) (a:PySem.W.nsIn K mainGlobals x=some (some (f t))):Sx mg x f:=⟨t,z10 X N a⟩
def gx1 (K:zFr) (cn:Str) (C:Addr):Gx:={ K:=K,cl:=λ c=>if c=cn then some C else none }
theorem cls (X:K.In h) (pg:PySem.W.plainGet K C Str.empty=true) (hd:PySem.W.hasDictIn K C=true) (po:PySem.W.plainOver K C=true) (sa:PySem.W.findIn K (.ref C) "__setattr__"=some (some (.builtin "object.__setattr__"))):Cls K C:=⟨pg,hd,po,sa⟩
theorem rtx {g:Addr}{its:Array Value}{xs:List Str}(X:K.In h) (l:K.lookup g=some ⟨.type "tuple",od,.seq its n,osl⟩) (hz:its.size<=sizeLine) (r:Vals (xs.map V.str) its.toList):Rep (gx1 K cn C) (λ _=>none) (.ref g) (.tup (xs.map .str)):=U3 l hz r
def kx {cn:Str}{g:Addr}{n:Nat}{its:Array Value}{xs:List Str}(X:K.In h) (N:h.Ns mainGlobals mg) (a:PySem.W.nsIn K mainGlobals x=some (some (.ref g))) (l:K.lookup g=some ⟨.type "tuple",od,.seq its n,osl⟩) (hz:its.size<=sizeLine) (r:Vals (xs.map V.str) its.toList):Kx (gx1 K cn C) mg x (.tup (xs.map .str)):=⟨g,z10 X N a,rtx X l hz r⟩
theorem yx {ds:List Value}(X:K.In h) (b:Binds K fd ps ds):Binds K fd ps ds:=b
theorem vD {z:Value}(h:(us++[z]).length=3):∃ a b,us=[a,b]:=by
 match us,h with
 | [a,b],_=>exact⟨a,b,rfl⟩
 | [],h=>simp at h
 | [_],h=>simp at h
 | _::_::_::_,h=>simp at h
end
end PV
namespace PV
open PySem L2
end PV
namespace PV
open PySem PySem.Spec L2
open PyProof.Rows hiding St
section
variable {a:Expr}{fa:FE}{es:List Expr}{fs:FA}
theorem fX1 {k:Nat}{x:Str}{st:Stmt}{p:Pos}{d:Dx X.K X.mg x st ps}{g:List D->Option D}(hb:Binds X.K d.fd ps [.none]) (F:FnOk X.prog X.w X.K X.mg X.base CX0 k d.f d.fd ps (spD G g)) (hr:Room k' X.A) (ha:PFA X G (a::es) fs) (hle:k<=k':=by omega) (hg:Gl X x:=by rfl) (hdb:(x==("__debug__":Str))=false:=by decide)
  (he:starEach (a::es) X.env=(false,eval a X.env)::starEach es X.env:=by rfl) (hpl:(backTo pos (starEach es X.env)).any (·.1)=false:=by rfl):PF X G (.Call (.Name x p) (a::es) [] pos) (An (λ xs=>g (xs++[.non])) fs):=
 λ A=>Ca (aC (dvs:=[.non]) F (hr.mono hle) hg d.m d.F.kp hb (.cons rfl .nil) iV (@ha A) hdb he hpl)<|by
  rintro σ H Q ⟨ρ,d',o,e,k⟩
  unfold An at e;cases e1:fs ρ with
  | none=>simp[e1] at e
  | some ds=>
   have e':g (ds++[.non])=some d':=by simpa [e1] using e
   exact⟨ρ,ds,o,e1,λ vs H1 s1 r1=>⟨A,ds++[.non],d',(o.mono s1).live,r1.append (RepL.cons .non RepL.nil),e',λ v H2 s2 r2=>k v H2 (s1.trans s2) r2⟩⟩
end
end PV
namespace PV
open PySem L2
end PV
namespace PV
open PySem PySem.Spec L2
open PyProof.Rows hiding St
section
variable {a b c:Expr}{fa fb fc:FE}{p2:Pos}
end
end PV
namespace PV
open PySem PySem.Spec L2 EX
open PyProof.Rows hiding St
def CX1 (P:Program) (w:World):CXT:=λ outer H s E v s'=>∃ (e:Addr) (H':Hp),v=.ref e/\s'.os=s.os/\AllBare s'.gens/\Un (frs outer) [] H H' s.heap s'.heap/\HOk P w H' s'.heap/\E v none H'
structure Exc (G:Gx) (He H:Hp) (e:Addr) (tb:Option Addr) (c:Str) (gs:List (Str×D)):Prop where
 ex:∃ C od fs,G.xcl c=some C/\H e=some (excO e C od tb)/\XdA H od fs/\FsV fs gs/\∀ dx,od=some dx->He dx=none
 same:Same He H
 new:He e=none
 tbk:∀ T,tb=some T->H T=some (tbO T .none)/\He T=none
theorem Exc.base {e:Addr}(x:Exc G Hf H e tb c gs) (s:Same He Hf):Exc G He H e tb c gs:=
 ⟨let ⟨C,dx,fs,q1,q2,q3,q4,q5⟩:=x.ex;⟨C,dx,fs,q1,q2,q3,q4,λ d h=>s.free (q5 d h)⟩,s.trans x.same,s.free x.new,λ T h=>⟨(x.tbk T h).1,s.free (x.tbk T h).2⟩⟩
section
variable {e:Addr}
theorem YC {Q:Unit->Shared->Prop}(hst:X.stack=X.env::X.outer) (hf:X.env.frame=some L) (I:Inv X π σ H s) (x:Exc G He H e tb c gs)
  (k:∀ T H' s',Inv X π σ H' s'->Exc G He H' e (some T) c gs->Q () s') :
  wpAny M X.A (noteFrame (.ref e) X.env) (λ _ s₂=>wpAny M X.A (setFlight (.ref e) none) Q E s₂) E s:=by
 obtain⟨C,dx,fs,q1,q2,q3,q4,q5⟩:=x.ex;refine oE hst hf I q2 (λ T h=>(x.tbk T h).1) λ T H' s' n=>k T H' s' n.inv ?_;have ncb:∀ b u,H b=some u->(∀ φ,u≠.ext φ)->b≠e/\tb≠some b:=λ b u q z=>⟨λ w=>by subst w;rw[q2] at q;cases q;exact z _ rfl,λ w=>by
  have:=(x.tbk b w).1;rw[this] at q;cases q;exact z _ rfl⟩
 refine⟨⟨C,dx,fs,q1,n.exc,(by cases dx with | none=>exact q3 | some dx=>exact n.rest dx _ (ncb dx _ q3 λ _ z=>nomatch z).1 (ncb dx _ q3 λ _ z=>nomatch z).2 q3),q4,q5⟩,λ b u h=>n.rest b u (λ z=>by rw[z,x.new] at h;cases h) (λ z=>by rw[(x.tbk b z).2] at h;cases h) (x.same b u h),x.new,λ T' h=>?_⟩;cases h;exact⟨n.tbk,x.same.free n.new⟩
end
def Rz (X:Cx) (G:Gx) (A0:List Addr) (He:Hp) (c:Str) (gs:List (Str×D)) (ρ:Rho):Prop:=∀ π σ H1 H s e tb,Inv X π σ H s->OkS G A0 He σ H1 ρ->Exc G H1 H e tb c gs->X.xe (.ref e) s
def excOf:D->Option (Str×List (Str×D))
 | .exc c gs=>some (c,gs)
 | _=>none
def RzO (X:Cx) (G:Gx) (A0:List Addr) (He:Hp) (d:D) (ρ:Rho):Prop:=∀ c gs,excOf d=some (c,gs)->Rz X G A0 He c gs ρ
def OutX (X:Cx) (G:Gx) (A0:List Addr) (He:Hp):Out->Prop
 | .rt d ρ=>RzO X G A0 He d ρ
 | _=>True
def tSZ (X:Cx) (G:Gx) (A0:List Addr) (He:Hp) (g:FS):TS:=λ D σ H=>∃ ρ o,OkS G A0 He σ H ρ/\g ρ=some o/\R9 G A0 He D o/\OutX X G A0 He o
def PSZ (X:Cx) (G:Gx) (st:Stmt) (g:FS):Prop:=∀ ⦃A0⦄ He,PS X st (tSZ X G A0 He g)
def PSZs (X:Cx) (G:Gx) (st:List Stmt) (g:FS):Prop:=∀ ⦃A0⦄ He,PSs X st (tSZ X G A0 He g)
def tFZ (X:Cx) (G:Gx) (A0:List Addr) (He:Hp) (f:FE):TE:=λ σ H Q=>∃ ρ d A,OkW G A0 He A σ H ρ/\f ρ=some d/\(∀ v H',Same H H'->Rep G (hid A H') v d->Q v H')/\RzO X G A0 He d ρ
def PFZ (X:Cx) (G:Gx) (e:Expr) (f:FE):Prop:=∀ ⦃A0⦄ He,PE X e (tFZ X G A0 He f)
def Mf (f:FE):FS:=λ ρ=>(f ρ).map λ d=>match excOf d with | some _=>.rt d ρ | none=>.nx ρ
section
variable {a b c:Expr}{fa fb fc:FE}{p2:Pos}{st:Stmt}{rest:List Stmt}{g gs gb:FS}
theorem PSD.x (h:PSD X G st g):PSZ X G st g:=λ A0 He π s σ H D I ⟨ρ,o,ok,e,k,_⟩=>@h A0 He π s σ H D I ⟨ρ,o,ok,e,k⟩
theorem RZ:PSZs X G [] nxF:=λ A0 He π s σ H D I ⟨ρ,o,ok,e,k,_⟩=>Ar He π s σ H D I ⟨ρ,o,ok,e,k⟩
theorem DP (h1:PSZ X G st g):PSZs X G [st] g:=λ A0 He=>I_ (@h1 A0 He)
theorem Gb (h1:PSZ X G st g) (h2:PSZs X G rest gs):PSZs X G (st::rest) (seqF g gs):=by
 rintro A0 He π s σ H D I ⟨ρ,o,ok,e,k,kx⟩
 refine FW (@h1 A0 He) (@h2 A0 He) π s σ H D I ?_;unfold seqF at e;split at e
 ·rename_i ρ' e1;exact⟨ρ,_,ok,e1,λ σ' H' ok'=>⟨ρ',o,ok',e,k,kx⟩,trivial⟩
 ·rename_i hno;refine⟨ρ,o,ok,e,?_,kx⟩;cases o with
  | nx ρ'=>exact absurd e (hno ρ')
  | rt d ρ'=>exact k
  | bk ρ'=>exact k
  | ct ρ'=>exact k
theorem QC {s2:List Stmt}(ht:PFT X G c ga) (h1:PSZs X G s1 g) (h2:PSZs X G s2 gs):PSZ X G (.If c s1 s2 pos) (ifS ga g gs):=by
 rintro A0 He π s σ H D I ⟨ρ,o,⟨A,w⟩,e,k,kx⟩
 refine gF (@ht A) (@h1 A0 He) (@h2 A0 He) π s σ H D I ?_;unfold ifS at e;split at e
 ·rename_i e1;exact⟨ρ,_,w.ok,e1,λ H1 s1=>iteT ⟨ρ,o,⟨A,w.mono s1⟩,e,k,kx⟩⟩
 ·rename_i e1;exact⟨ρ,_,w.ok,e1,λ H1 s1=>iteF ⟨ρ,o,⟨A,w.mono s1⟩,e,k,kx⟩⟩
 ·cases e
theorem kO {d:D}(r:Rep G H v d):excOf d=none:=by cases r<;>rfl
theorem Ie (ha:PFZ X G a fa) (hs:swapsWith a none pos.line X.env=pure false:=by rfl):PSZ X G (.Expr a pos) (Mf fa):=by
 rintro A0 He π s σ H D I ⟨ρ,o,⟨A,w⟩,e,k,kx⟩
 refine HB (@ha A0 He) hs π s σ H D I ?_;unfold Mf at e;cases e1:fa ρ with
 | none=>simp[e1] at e
 | some d=>
  simp only[e1,z0k] at e;cases e2:excOf d with
  | none=>
   simp only[e2] at e;cases e;exact⟨ρ,d,A,w,e1,λ v H1 s1 r1=>k _ _ ⟨A,w.mono s1⟩,λ c gs z=>by rw[e2] at z;cases z⟩
  | some q=>
   simp only[e2] at e;cases e;exact⟨ρ,d,A,w,e1,λ v H1 s1 r1=>absurd e2 (by rw[kO r1];simp),kx⟩
end
def YD (X:Cx) (σ:St):XK:=λ v _ H'=>∀ π s',Inv X π σ H' s'->X.xe v s'
def XW (G:Gx) (He:Hp) (d:D) (E:XK):Prop:=∀ c gs,excOf d=some (c,gs)->∀ e T H',Exc G He H' e (some T) c gs->E (.ref e) none H'
def spZ (G:Gx) (g:List D->Option D):Sp:=λ vs H Q E=>∃ A ds d,(∀ a∈A,Nt (H a))/\RepL G (hid A H) vs ds/\g ds=some d/\(∀ v H',Same H H'->Rep G (hid A H') v d->Q v H')/\XW G H d E
section
variable {k:Nat}{f:Addr}{x m:Str}{p:Pos}{o:Expr}{es:List Expr}{ta:TE}{t:TA}
theorem qH {Q:VK}(F:FnOk X.prog X.w X.K X.mg X.base (CX1 X.prog X.w) k f fd ps sp) (hr:Room k X.A) (hb:Binds X.K fd ps [])
  (I:Inv X π σ H s) (r:Vals vs us) (h:sp vs H Q (YD X σ)):wpAny (model X.prog X.w) X.A (call (.ref f) us) (EP X π σ Q) X.xe s:=by
 have hl:us.length=ps.length:=by rw[<-r.length];exact F.len _ _ _ _ h
 have hb':=hb s us I.kIn (by rw[z0t];exact hl);rw[z0t] at hb';refine z14 (z0O (F.run X.A X.stack s H ⟨us,[]⟩ us vs Q _ hr I.env0 hb' r h) λ r s' hq=>?_);cases r with
 | error v=>
  obtain⟨e,H',rfl,q1,q2,q3,q4,q5⟩:=hq;exact q5 π s' (I.call' q1 q3 q4 q2 λ _ z=>nomatch z)
 | ok fl=>
  cases fl with
  | ret u=>exact I.after hq
  | next=>exact False.elim hq
  | brk=>exact False.elim hq
  | cont=>exact False.elim hq
def vG (X:Cx) (sp:Sp) (t:TA):TE:=λ σ H Q=>t σ H λ vs H1=>sp vs H1 Q (YD X σ)
theorem kW (F:FnOk X.prog X.w X.K X.mg X.base (CX1 X.prog X.w) k f fd ps sp) (hr:Room k X.A) (hg:Gl X x) (hm:X.mg x=some (.ref f)) (hk:PySem.W.keepIn X.K (.ref f)=true) (hb:Binds X.K fd ps [])
  (ha:PA X (e::es) t) (hdb:(x==("__debug__":Str))=false:=by decide) (he:starEach (e::es) X.env=(false,eval e X.env)::starEach es X.env:=by rfl) (hpl:(backTo pos (starEach es X.env)).any (·.1)=false:=by rfl) :
  PE X (.Call (.Name x p) (e::es) [] pos) (vG X sp t):=by
 intro π s σ H Q I h;refine z15 (GF I hg hm ?_ hdb);refine z1h (h₀:=X.base) I.ok.mod.kin hk (thn (ha pos π s σ H _ I h) λ us s1 ⟨vs,H1,I1,r,q⟩=>⟨I1.kIn,?_⟩) he hpl;exact qH F hr hb I1 r q
end
section
variable {a ob:Expr}{es:List Expr}{fs:FA}{fo:FE}{p:Pos}
theorem sH {d:D}(w:OkW G A0 He A σ H1 ρ) (kx:RzO X G A0 He d ρ):XW G H1 d (YD X σ):=λ c gs z e T H' x π s' I=>kx c gs z π σ H1 H' s' e (some T) I ⟨A,w⟩ x
theorem vH {k:Nat}{f:Addr}{g:List D->Option D}{x:Str}(F:FnOk X.prog X.w X.K X.mg X.base (CX1 X.prog X.w) k f fd ps (spZ G g)) (hr:Room k X.A) (hg:Gl X x) (hm:X.mg x=some (.ref f)) (hk:PySem.W.keepIn X.K (.ref f)=true)
  (hb:Binds X.K fd ps []) (ha:PFA X G (a::es) fs) (hdb:(x==("__debug__":Str))=false:=by decide) (he:starEach (a::es) X.env=(false,eval a X.env)::starEach es X.env:=by rfl) (hpl:(backTo pos (starEach es X.env)).any (·.1)=false:=by rfl) :
  PFZ X G (.Call (.Name x p) (a::es) [] pos) (An g fs):=by
 rintro A0 He π s σ H Q I ⟨ρ,d,A,w,e,k,kx⟩
 refine kW F hr hg hm hk hb (@ha A) hdb he hpl π s σ H Q I ?_;unfold An at e;cases e1:fs ρ with
 | none=>simp[e1] at e
 | some ds=>
  have e':g ds=some d:=by simpa [e1] using e
  exact⟨ρ,ds,w.ok,e1,λ vs H1 s1 r1=>⟨A,ds,d,(w.mono s1).ok.live,r1,e',λ v H2 s2 r2=>k v H2 (s1.trans s2) r2,sH (w.mono s1) kx⟩⟩
end
theorem vI {base:Heap}{f:Addr}{cd:Value}{A:Around}{E:XK}{d:D}(h:XW G H d E) :
  RzO (cxOf (CX1 P w) P w G.K mg base N qual scope f cd A outer s H E) G A0 H d ρ:=by
 rintro c gs z π σ H1 H2 s2 e tb I ⟨A1,ok⟩ x
 show wpAny _ _ (leaving _ _) _ _ _;unfold leaving;refine z00 (YC (X:=cxOf (CX1 P w) P w G.K mg base N qual scope f cd A outer s H E) rfl rfl I (x.base ok.same) λ T H' s' I' x'=>?_);exact⟨e,H',rfl,I'.os,I'.bare,I'.base,I'.hok,h c gs z e T H' x'⟩
end PV
namespace EX
open PySem PySem.W PyProof.Rows PySem.Calls
section
variable {A:Around}{g:Array GenState}{d:Drawn}{t:Nat}{os:OsState}{R:Result->Shared->Prop}
variable {nm q:Str}{N:Addr}{bs bm bmB:List Value}{hdct:Bool}{sn:List Str}{sub:List Value}{ab:Bool}{col:Option Bool}{dd:Option Addr}{k0 k1 k2 k3 k5:Option Value}{B newId initId:String}
abbrev G6 (C a:Addr):Obj:={ cls:=.ref C,data:=.fields #[.ref a,.none,.none,.none,.bool false,.none] }
abbrev Ge (rest:List Value):Obj:={ cls:=.type "tuple",data:=.seq rest.toArray }
theorem Ss (F:ExcBaseFacts B newId initId bmB) (T:OwnTail h bmB bm) {rest:List Value}{init:Value}{Q:Fin->Shared->Prop}
  (hC:h.get? C=some (excClassObj nm q C N bs bm hdct sn sub ab col dd k0 k1 k2 k3 k5 newId)) (hi:Looks (model prog w) h (typeLookup (.ref C) "__init__") (some init)) (hb:∀ self,Looks (model prog w) h (bindSpecial init self) (init,[self]))
  (hq:codeAny (model prog w) A (.call init ⟨.ref (h.objs.size+1)::rest,[]⟩) (λ r s'=>match r with
   | .ok (.ret v)=>v=.none/\Q (.done (.ret (.ref (h.objs.size+1)))) s'
   | .ok _=>False
   | .error e=>E e s') ⟨(h.push (Ge rest)).push (G6 C h.objs.size),g,d,t,os⟩) (hrest:rest.length<=sizeLine:=by size_fits) :
  wpAny (model prog w) A (Builtin.«type.__call__» ⟨.ref C::rest,[]⟩) Q E ⟨h,g,d,t,os⟩:=by
 repeat (first | with_reducible refine z1G hC ?_ | with_reducible refine wpAny_madeBy_exc hC ?_ | wp_step)
 refine codeAny_call_builtin_code (Code.quiet_builtin _ F.quiet) (wpAny_check_new_subT F T hC ?_);refine codeAny_exc_new_subT F T hC ?_ hrest;show wpAny _ _ _ _ _ _;have k:∀ b o,h.get? b=some o->((h.push (Ge rest)).push (G6 C h.objs.size)).get? b=some o:=λ b o e=>z05 _ (z05 _ e);have hC₁:=k _ _ hC;have hget:((h.push (Ge rest)).push (G6 C h.objs.size)).get? (h.objs.size+1)=some (G6 C h.objs.size):=by heap_get
 have hcC:(Value.ref C::bm).contains (.ref C)=true:=by simp
 have i1:=hi.keeps k;have b1:=(hb (.ref (h.objs.size+1))).keeps k;unfold isInstance
 repeat (first | with_reducible refine z1G hget ?_ | (with_reducible refine wpAny_isSubtype_exc hC₁ ?_;rw[hcC]) | wp_step)
 show wpAny _ _ (typeLookup (.ref C) _) _ _ _;refine i1.at ?_;dsimp only;refine z0z (z00 (b1.at ?_));dsimp only;refine z00 (z14 (z0O hq λ r s' z=>?_))
 rcases r with e | (v | _ | _ | _)<;>first | exact z | exact z.elim | skip
 obtain⟨rfl,z⟩:=z;exact z01 (z01 z)
theorem Su (F:ExcBaseFacts B newId initId bmB) (T:OwnTail h bmB bm) {rest:List Value}{init:Value}
  (hC:h.get? C=some (excClassObj nm q C N bs bm hdct sn sub ab col dd k0 k1 k2 k3 k5 newId)) (hi:Looks (model prog w) h (typeLookup (.ref C) "__init__") (some init)) (hb:∀ self,Looks (model prog w) h (bindSpecial init self) (init,[self]))
  (hq:codeAny (model prog w) (A.under (.builtin "type.__call__" ⟨.ref C::rest,[]⟩)) (.call init ⟨.ref (h.objs.size+1)::rest,[]⟩) (InitBack (h.objs.size+1) R) ⟨(h.push (Ge rest)).push (G6 C h.objs.size),g,d,t,os⟩) (hrest:rest.length<=sizeLine) :
  codeAny (model prog w) A (.call (.ref C) ⟨rest,[]⟩) R ⟨h,g,d,t,os⟩:=by
 have f1:=tc_lookup;have f2:=tc_bind (.ref C);have hT:(⟨h,g,d,t,os⟩:Shared).TypeIs (.ref C) "type":=⟨_,hC,rfl⟩;refine codeAny_of_tree ?_;show wpAny _ _ (callAny (.ref C) _) _ _ _
 repeat (any_goals (first | assumption | with_reducible refine z1G hC ?_ | wp_step))
 refine⟨rfl,?_⟩;refine codeAny_call_builtin_at (Code.quiet_builtin _ (by decide +kernel)) entry_typeCall (wpAny_check_type_call_sub hC (Ss F T hC hi hb (z0O hq λ r s' z=>?_) hrest))
 rcases r with e | (v | _ | _ | _)<;>first | exact z | exact z.elim
end
end EX
namespace EX
open PySem PySem.W PySem.Spec PyProof.Rows PySem.Calls
section
variable {A:Around}{K:Frag}{x:Addr}{ox:Obj}{od:Option Obj}{name:Str}{v:Value}
theorem qI {expr:Bool}(X:K.In s.heap) (I:InstAt s.heap x ox C od) (hga:findIn K (.ref C) "__getattribute__"=some (some (.builtin "BaseException.__getattribute__"))) (hgt:findIn K (.ref C) "__getattr__"=some none)
  (hsub:subIn K (.ref C) (.type "BaseException")=some true) (hf:findObj K C od name=some (.value v)) (hh:handedIn v=true) (h:Q v { s with toks:=s.toks+1 }):wpAny (model prog w) A (getAttr (.ref x) name expr) Q E s:=by
 obtain⟨hp,g,d,t,os⟩:=s;have L0:=I.type (M:=model prog w);have L1:=looks_findIn (M:=model prog w) X hga;have L2:=looks_findIn (M:=model prog w) X hgt;have L3:=looks_find (M:=model prog w) X I hf;have L4:=looks_subIn (M:=model prog w) X hsub;have f3:=F.attr_ValueError.ga.bind (.ref x);have hk:builtinKind "BaseException.__getattribute__"=some .slot:=by decide +kernel
 have hsplit:splitId "BaseException.__getattribute__"=some ("BaseException","__getattribute__"):=by decide +kernel
 have hx2:(Value.builtin "BaseException.__getattribute__"==Value.builtin "object.__getattribute__")=false:=by decide +kernel
 have hx1:(onTheHeap (Value.ref C)&&Value.builtin "BaseException.__getattribute__"==Value.builtin "object.__getattribute__")=false:=by rw[hx2];rfl
 have hx0:(expr&&onTheHeap (Value.builtin "BaseException.__getattribute__"))=false:=by cases expr<;>rfl
 unfold getAttr getAttrBy;refine z00 (wpAny_mkText (z0z (z00 (L0.at (z00 (L1.at ?_))))));dsimp only;rw[hx1,if_neg (by decide)];have ck:∀ (Q:Unit->Shared->Prop) (B:Around) (E':zQ),Q () ⟨hp,g,d,t+1,os⟩->wpAny (model prog w) B (checkBuiltinCall "BaseException.__getattribute__" ⟨[.ref x,.str name t],[]⟩) Q E' ⟨hp,g,d,t+1,os⟩:=λ Q B E' hq=>by
  have ha:=F.args_bexc_ga (.ref x) (.str name t);simp only[checkBuiltinCall,hk,hsplit];refine z00 ?_;unfold isInstance;refine z00 (L0.at (L4.at ?_))
  repeat (any_goals (first | assumption | wp_step))
 have run:∀ (B:Around) (R:Result->Shared->Prop),R (.ok (.ret v)) ⟨hp,g,d,t+1,os⟩->codeAny (model prog w) B (.call (.builtin "BaseException.__getattribute__") ⟨[.ref x,.str name t],[]⟩) R ⟨hp,g,d,t+1,os⟩:=λ B R hq=>
  z1C F.attr_ValueError.ga.plain F.entry_bexc_ga (ck _ _ _ (by
   unfold Builtin.«object.__getattribute__»
   repeat (any_goals (first | assumption | with_reducible refine L0.at ?_ | with_reducible refine L3.at ?_ | wp_step))))
 repeat (any_goals (first | assumption | with_reducible refine L2.at ?_ | wp_step))
 refine run _ _ ?_;show wpAny _ _ (handedOut v) _ _ _;rw[handedOut_of hh];exact z01 h
open Builtin Builtin.ObjectAttr in
theorem qJ {R:Addr}{cd:ClassData}{vs:Array Value}{Q:Unit->Shared->Prop}(X:K.In s.heap) (I:InstAt s.heap x ox C none) (hfl:ox.data=.fields vs) (hs:findIn K (.ref C) "__setattr__"=some (some (.builtin "object.__setattr__"))) (hc:clsIn K C=some cd)
  (hm:cd.mro=[.ref C,.ref R,.type "ValueError",.type "Exception",.type "BaseException",.type "object"]) (hd:cd.hasDict=true) (ht:findIn K (.ref C) name=some none)
  (h:∀ h':Heap,h'.get? x=some { ox with dict:=some s.heap.objs.size }->h'.Ns1 s.heap.objs.size (λ y=>if y=name then some v else none)->(∀ b o,b≠x->s.heap.get? b=some o->h'.get? b=some o)->Q () { s with heap:=h',toks:=s.toks+2 }) :
  wpAny (model prog w) A (setAttr (.ref x) name v) Q E s:=by
 obtain⟨hp,g,d,t,os⟩:=s;have SF:=F.store_object;have VF:=F.store_ValueError;have hpass:refuseLoop (.ref x) "__setattr__" cd.mro=pure ():=by rw[hm,refuseLoop_ref,refuseLoop_ref];exact VF.passes _
 have sub:Looks (model prog w) hp (isInstance (.ref x) (.type "object")) true:=I.type.andThen (looks_mroIn X (by unfold mroIn;rw[hc,z0c,hm];rfl));have lm:Looks (model prog w) hp (mroOf (.ref C)) cd.mro:=(looks_clsIn X hc).andThen .now;have la:=looks_findIn (M:=model prog w) X ht;have lt:=I.type (M:=model prog w);have lc:=looks_clsIn (M:=model prog w) X hc;refine set_plain X I hs (z1C SF.slot.plain SF.entry ?_);refine @check_slot (model prog w) _ _ ⟨hp,g,d,t+1,os⟩ "object.__setattr__" "object" "__setattr__" (.ref x) [.str name t,v] [] _ SF.kind SF.split sub (SF.args (.ref x) (.str name t) v) ?_;rw[osa_eq,refuse_eq];refine z00 (z00 (lt.at (z00 (lm.at ?_))));rw[hpass];refine z01 (z00 (lt.at (z00 (la.at (z00 (z01 ?_))))));dsimp only;obtain⟨hx,hcl,hn,hdi⟩:=I;obtain⟨oc,odi,oda,osl⟩:=ox;dsimp only at hcl hdi hfl;subst hcl hfl;have hdn:odi=none:=by
  cases odi with
  | none=>rfl
  | some z=>exact hdi.elim
 subst hdn;have hxs:x≠hp.objs.size:=z08 (z06 hx);have hx1:(hp.push { cls:=.type "dict",data:=.dict #[] }).get? x=some ⟨.ref C,none,.fields vs,osl⟩:=z05 _ hx;unfold storeInOwnDict;refine z00 (z01 (z00 (z00 (wpAny_loadPart hx (z00 (lc.at ?_))))));rw[hd];refine z00 (wpAny_alloc' (z00 (wpAny_update' hx1 (z01 ?_))));have hgd:((hp.push { cls:=.type "dict",data:=.dict #[] }).update x λ o=>{ cls:=o.cls,dict:=some hp.objs.size,data:=o.data,slots:=o.slots }).get? hp.objs.size=some { cls:=.type "dict",data:=.dict #[] }:=(z0S _ _ hxs).trans (z0f _ rfl);have hgx:((hp.push { cls:=.type "dict",data:=.dict #[] }).update x λ o=>{ cls:=o.cls,dict:=some hp.objs.size,data:=o.data,slots:=o.slots }).get? x=some ⟨.ref C,some hp.objs.size,.fields vs,osl⟩:=z18 _ hx1 rfl;have ho:∀ b o,b≠x->hp.get? b=some o->((hp.push { cls:=.type "dict",data:=.dict #[] }).update x λ o=>{ cls:=o.cls,dict:=some hp.objs.size,data:=o.data,slots:=o.slots }).get? b=some o:=λ b o nb z=>(z0S _ _ (Ne.symm nb)).trans (z05 _ z);generalize (hp.push { cls:=.type "dict",data:=.dict #[] }).update x (λ o=>{ cls:=o.cls,dict:=some hp.objs.size,data:=o.data,slots:=o.slots })=h2 at hgd hgx ho ⊢;have hnd:h2.Ns hp.objs.size (λ _=>none):=⟨_,#[],_,hgd,rfl,λ e he=>absurd he (by simp),λ _=>rfl⟩;show wpAny _ _ (storeInDict hp.objs.size (.str name t) name v) _ _ _;unfold storeInDict newKeyGuard;refine z00 (z01 (z00 (wpAny_nsSet1 (Heap.Ns1.of_empty hnd) λ h' hn' hs'=>?_)));obtain⟨oD,esD,epD,hoD,hdD,hcD⟩:=hn'.count (Within.cons name v Within.nil);refine z00 (wpAny_lookBehind hoD (by rw[hdD];exact pastItsLine_dict (z0a hcD (by rw[z0s,z1e,sizeLine_eq];omega))) ?_);exact z01 (h h' ((hs'.2 x hxs).trans hgx) hn' λ b o nb z=>(hs'.2 b (z08 (z06 z))).trans (ho b o nb z))
end
end EX
namespace EX
open PySem PySem.Spec L2
open PyProof.Rows hiding St
abbrev bmV:List Value:=[.type "ValueError",.type "Exception",.type "BaseException",.type "object"]
def excX (K:zFr) (C:Addr):Bool:=match K.lookup C with
 | some ⟨.type "type",_,.cls cd,sl⟩=>(match cd.mro,sl.toList with
  | .ref C'::bm,[_,_,_,_,some (.builtin n),_]=>C'==C&&n=="ValueError.__new__"&&!cd.hasDel&&PySem.W.tailIn K bmV bm
  | _,_=>false)
 | _=>false
theorem Ig {K:zFr}(X:K.In h) (q:excX K C=true):∃ nm qn N bs bm hdct sn sub ab col dd k0 k1 k2 k3 k5,h.get? C=some (excClassObj nm qn C N bs bm hdct sn sub ab col dd k0 k1 k2 k3 k5 "ValueError.__new__")/\OwnTail h bmV bm:=by
 unfold excX at q;split at q
 ·rename_i dd cd sl ho;split at q
  ·rename_i C' bm k0 k1 k2 k3 n k5 hm hs;simp only[z0x,z0N,Bool.not_eq_true'] at q;obtain⟨⟨⟨e1,e2⟩,e3⟩,e4⟩:=q;subst e1 e2;obtain⟨nm,bs,mro,ns,qn,hd,sn,sub,ab,col,del⟩:=cd;obtain⟨l⟩:=sl;simp only at hm hs e3;subst hm e3 hs;exact⟨nm,qn,ns,bs,bm,hd,sn,sub,ab,col,dd,k0,k1,k2,k3,k5,X _ _ ho,PySem.W.tail_of_in X e4⟩
  ·cases q
 ·cases q
structure XC (K:zFr) (C R:Addr):Prop where
 obj:excX K C=true
 sa:PySem.W.findIn K (.ref C) "__setattr__"=some (some (.builtin "object.__setattr__"))
 ga:PySem.W.findIn K (.ref C) "__getattribute__"=some (some (.builtin "BaseException.__getattribute__"))
 gt:PySem.W.findIn K (.ref C) "__getattr__"=some none
 cd:(PySem.W.clsIn K C).any (λ cd=>cd.mro==[.ref C,.ref R,.type "ValueError",.type "Exception",.type "BaseException",.type "object"]&&cd.hasDict)=true
theorem XC.cls {K:zFr}{R:Addr}(x:XC K C R):∃ cd,PySem.W.clsIn K C=some cd/\cd.mro=[.ref C,.ref R,.type "ValueError",.type "Exception",.type "BaseException",.type "object"]/\cd.hasDict=true:=by
 obtain⟨cd,h1,h2⟩:=PySem.W.any_some x.cd;simp only[z0x,z0N] at h2;exact⟨cd,h1,h2.1,h2.2⟩
theorem Sv (h:H a=some o):upd H a o=H:=by
 funext b;delta upd;split
 ·rename_i e;rw[e,h]
 ·rfl
section
variable {e R dx:Addr}{A:Around}
theorem kZ (I:Inv X π σ H s) (he:H e=some (excO e C od tb)) (x:XC X.K C R) (hQ:∀ s',Inv X π σ H s'->Q .none s') :
  wpAny (model X.prog X.w) A (call (.builtin "ValueError.__init__") [.ref e,u]) Q E s:=by
 have F:=z20;obtain⟨⟨o,vs,q1,q2,q3,q4,q5,q6⟩,_⟩:=I.hok e _ he;obtain⟨nm,qn,N,bs,bm,hdct,sn,sub,ab,col,dd,k0,k1,k2,k3,k5,hC,T⟩:=Ig I.kIn x.obj;have I1:=I.kept (h':=s.heap.push { cls:=.type "tuple",data:=.seq [u].toArray }) (t':=s.toks) λ b v z=>z05 _ z;have g1:=z05 (h:=s.heap) { cls:=.type "tuple",data:=.seq [u].toArray } q1;have I2:=Ld (u':=excO e C od tb) (i:=0) (v:=.ref s.heap.objs.size) I1 he trivial g1 q4 λ h' o' r1 r2 r3 r4=>ExcP.ok ⟨o',_,r1,r2.trans q2,r3.trans q3,r4,by simpa using q5,by rw[Array.getElem?_setIfInBounds_ne (by decide)];exact q6⟩;rw[Sv he] at I2;obtain⟨hp,g,d,t,os⟩:=s;have h0:∃ v0,vs[0]?=some v0:=⟨vs[0]'(by omega),by simp⟩;obtain⟨v0,h0⟩:=h0;refine z14 (z1C F.init.plain F.initEntry (wpAny_check_init_subT F T hC q1 q2 ?_));unfold Builtin.«BaseException.__init__»;dsimp only;rw[if_neg (by simp)];unfold newTuple Builtin.BaseException.bexcPut;refine z00 (z0R (z00 (z00 (z16 g1 q4 h0 (z00 (z0Y g1 q4 (by omega) ?_))))) (by show 1<=sizeLine;decide));have z:=hQ _ I2;cases v0<;>first | exact wpAny_letGo (z01 z) | exact z01 (z01 z)
theorem qK {Q:Unit->Shared->Prop}(I:Inv X π σ H s) (he:H e=some (excO e C none tb)) (x:XC X.K C R) (n:BX X.K C f) (ry:RelV y u)
  (h:∀ dx s',H dx=none->Inv X π σ (upd (upd H dx (.xd [(f,y)])) e (excO e C (some dx) tb)) s'->Q () s'):wpAny (model X.prog X.w) A (setAttr (.ref e) f u) Q E s:=by
 obtain⟨⟨o,vs,q1,q2,q3,q4,q5,q6⟩,_⟩:=I.hok e _ he;obtain⟨cd,c1,c2,c3⟩:=x.cls;have ia:PySem.W.InstAt s.heap e o C none:=⟨q1,q2,by unfold PySem.W.notCls;rw[q4],by rw[q3];trivial⟩;refine qJ I.kIn ia q4 x.sa c1 c2 c3 n λ h' r1 r2 r3=>h s.heap.objs.size _ I.fresh ?_;have hf:=I.fresh;have ne:e≠s.heap.objs.size:=Aw he hf;have hs:∃ o',h'.get? s.heap.objs.size=some o':=let ⟨o',_,_,z,_⟩:=r2;⟨o',z⟩;have nx:∀ b v,H b=some v->(∀ φ,v≠.ext φ)->b≠e/\b≠s.heap.objs.size:=λ b v q z=>⟨λ w=>by rw[w,he] at q;cases q;exact z _ rfl,Aw q hf⟩;have ot:∀ b v,H b=some v->(∀ φ,v≠.ext φ)->upd (upd H s.heap.objs.size (.xd [(f,y)])) e (excO e C (some s.heap.objs.size) tb) b=some v:=λ b v q z=>by rw[Al (nx b v q z).1,Al (nx b v q z).2];exact q
 refine I.un ⟨λ b ob z nb _ _=>r3 b ob (Ne.symm (Aw he nb)) z,λ b ob z nb _ _=>⟨ob.slots,r3 b ob (Ne.symm (Aw he nb)) z⟩,λ b ob z nb _=>?_,λ b ob z _=>?_,λ b xs z=>ot b _ z (λ _ z=>nomatch z),λ b o' u' z=>ot b _ z (λ _ z=>nomatch z),λ b ps z=>⟨#[],by rw[ot b _ z (λ _ z=>nomatch z)];simp⟩⟩ λ b v z=>?_
 ·rw[Al (Ne.symm (Aw he nb)),Al (z08 (z06 z))];exact nb
 ·by_cases hb:b=e
  ·rw[hb];exact⟨_,r1⟩
  ·exact⟨ob,r3 b ob hb z⟩
 ·by_cases hb:b=e
  ·subst hb;rw[Ai] at z;cases z;exact ExcP.ok ⟨_,vs,r1,q2,rfl,q4,q5,q6⟩
  ·rw[Al hb] at z
   by_cases hb2:b=s.heap.objs.size
   ·subst hb2;rw[Ai] at z;cases z;refine⟨_,r2,λ g=>?_⟩
    by_cases hg:g=f
    ·subst hg;simp[List.lookup];exact ry
    ·have:(g==f)=false:=z0y.mpr hg;simp[List.lookup,this,hg];trivial
   ·rw[Al hb2] at z;refine (I.hok b v z).stay (λ c w hc k=>r3 c w ?_ k) (λ c q=>ot c _ q (λ _ z=>nomatch z)) (λ c xs q=>ot c _ q (λ _ z=>nomatch z))
    rcases hc with hc | hc
    ·rw[hc];exact hb
    ·exact (nx c _ hc (λ _ z=>nomatch z)).1
theorem qL {b:Bool}{fs:List (Str×V)}(I:Inv X π σ H s) (he:H e=some (excO e C (some dx) tb)) (hd:H dx=some (.xd fs)) (x:XC X.K C R) (n:BX X.K C f) (l:fs.lookup f=some v)
  (h:∀ u s',Inv X π σ H s'->RelV v u->Q u s'):wpAny (model X.prog X.w) A (getAttr (.ref e) f b) Q E s:=by
 obtain⟨⟨o,vs,q1,q2,q3,q4,q5,q6⟩,_⟩:=I.hok e _ he;obtain⟨mA,ns,r⟩:=I.hok dx _ hd;obtain⟨u,hu,ru⟩:=RelO.some_of (v:=v) (o:=mA f) (by rw[<-l];exact r f);obtain⟨oD,g1,g2⟩:=Lb ns;obtain⟨cd,c1,c2,c3⟩:=x.cls;have ia:PySem.W.InstAt s.heap e o C (some oD):=⟨q1,q2,by unfold PySem.W.notCls;rw[q4],by rw[q3];exact g1⟩;have hh:PySem.W.hasDictIn X.K C=true:=by unfold PySem.W.hasDictIn;rw[c1];exact c3
 refine qI I.kIn ia x.ga x.gt ?_ (PySem.W.findObj_own hh n rfl (by rw[g2,hu])) (Ui ru) (h u _ (I.tok _) ru);show PySem.W.mroIn X.K C _=_;unfold PySem.W.mroIn;rw[c1,z0c,c2];rfl
end
section
variable {a b:Expr}{es:List Expr}{t:TA}{p:Pos}{x:Str}{R:Addr}
def PP (X:Cx) (c:St->Prop) (e:Expr):Prop:=∀ (π:zP) (s:Shared) (σ:St) (H:Hp),Inv X π σ H s->c σ ->
 wpAny (model X.prog X.w) X.A (eval e X.env) (λ v s'=>∃ y t,v=.str y t/\y.length<=2000000/\Inv X π σ H s') X.xe s
theorem QD {c:St->Prop}{z:Str}{j} (h:z.length<=2000000:=by decide):PP X c (.Constant (.str z) j pos):=λ π s σ H I _=>Calls.Constant_str ⟨z,_,rfl,h,I.tok _⟩
def QF (i:Nat) (σ:St):Prop:=∃ n:Int,σ[i]?=some (some (.int n))/\n.natAbs.log2<1920
def ZZ (i:Nat) (σ:St):Prop:=∃ z:Str,σ[i]?=some (some (.str z))/\z.length<=100000/\∀ c∈z.cps.toList,c<16^8
theorem Za (h:PE X e (tVar i)):PP X (QF i) (.FormattedValue e (-1) none pos):=by
 rintro π s σ H I ⟨n,h1,h2⟩
 refine wpAny_FormattedValue_plain (thn (h π s σ H (λ v H'=>v=.int n/\H'=H) I ⟨_,h1,rfl,rfl⟩) λ u s1 ⟨v,H1,I1,r1,q1,q2⟩=>?_);subst q1 q2;obtain⟨t,rfl⟩:=(show ∃ t,u=Value.int n t from r1);refine wpAny_formatField_int h2 ⟨_,_,rfl,?_,I1.tok _⟩;have:=int_text_length_le (k:=1920) (by decide) h2;rw[PySem.ofString_length];omega
theorem vJ (h:PE X e (tVar i)):PP X (ZZ i) (.FormattedValue e (-1) none pos):=by
 rintro π s σ H I ⟨z,h1,h2,h3⟩
 refine wpAny_FormattedValue_plain (thn (h π s σ H (λ v H'=>v=.str z/\H'=H) I ⟨_,h1,rfl,rfl⟩) λ u s1 ⟨v,H1,I1,r1,q1,q2⟩=>?_);subst q1 q2;obtain⟨t,rfl⟩:=(show ∃ t,u=Value.str z t from r1);exact wpAny_formatField_str ⟨_,_,rfl,by omega,I1⟩ ⟨_,_,rfl,by omega,I1.tok _⟩ (PV.CV (by omega))
theorem cD (h:PE X e (tVar i)):PP X (ZZ i) (.FormattedValue e 114 none pos):=by
 rintro π s σ H I ⟨z,h1,h2,h3⟩
 refine wpAny_FormattedValue_repr (thn (h π s σ H (λ v H'=>v=.str z/\H'=H) I ⟨_,h1,rfl,rfl⟩) λ u s1 ⟨v,H1,I1,r1,q1,q2⟩=>?_);subst q1 q2;obtain⟨t,rfl⟩:=(show ∃ t,u=Value.str z t from r1);have hl:(reprText z).length<=2000000:=by have:=PySem.StrLaws.reprText_len z h3;omega
 refine wpAny_pyReprObj_str ?_ (PV.CV (by omega));exact wpAny_formatField_str ⟨_,_,rfl,hl,I1.tok _⟩ ⟨_,_,rfl,hl,(I1.tok _).tok _⟩ (PV.CV (by omega))
theorem Ra (y:Str):(Str.empty++y).length=y.length:=by rw[PV.CN];simp[Str.length,Str.empty]
def tTxt (c:St->Prop):TE:=λ σ H Q=>c σ/\∀ y,Q (.str y) H
theorem Sw {c:St->Prop}{e1 e2:Expr}(h1:PP X c e1) (h2:PP X c e2):PE X (.JoinedStr [e1,e2] pos) (tTxt c):=by
 rintro π s σ H Q I ⟨hc,q⟩
 refine wpAny_JoinedStr ?_;refine thn (h1 π s σ H I hc) λ v s1 ⟨y,t,e,l,I1⟩=>⟨y,t,e,PV.CV (by rw[Ra];omega),?_⟩;have b2:∀ y2:Str,y2.length<=2000000->(Str.empty++y++y2).length<=sizeLine:=λ y2 l2=>PV.CV (by rw[PV.CN,Ra];omega);exact thn (h2 π s1 σ H I1 hc) λ v s2 ⟨y2,t2,e2,l2,I2⟩=>⟨y2,t2,e2,b2 y2 l2,b2 y2 l2,⟨.str _,H,I2.tok _,⟨_,rfl⟩,q _⟩⟩
theorem YF {c:St->Prop}{e1 e2 e3:Expr}(h1:PP X c e1) (h2:PP X c e2) (h3:PP X c e3):PE X (.JoinedStr [e1,e2,e3] pos) (tTxt c):=by
 rintro π s σ H Q I ⟨hc,q⟩
 refine wpAny_JoinedStr ?_;refine thn (h1 π s σ H I hc) λ v s1 ⟨y,t,e,l,I1⟩=>⟨y,t,e,PV.CV (by rw[Ra];omega),?_⟩;have b2:∀ y2:Str,y2.length<=2000000->(Str.empty++y++y2).length<=4000000:=λ y2 l2=>by rw[PV.CN,Ra];omega
 refine thn (h2 π s1 σ H I1 hc) λ v s2 ⟨y2,t2,e2,l2,I2⟩=>⟨y2,t2,e2,PV.CV (z0a (b2 y2 l2) (by decide)),?_⟩;have b3:∀ y3:Str,y3.length<=2000000->(Str.empty++y++y2++y3).length<=sizeLine:=λ y3 l3=>PV.CV (by have:=b2 y2 l2;rw[PV.CN];omega);exact thn (h3 π s2 σ H I2 hc) λ v s3 ⟨y3,t3,e3,l3,I3⟩=>⟨y3,t3,e3,b3 y3 l3,b3 y3 l3,⟨.str _,H,I3.tok _,⟨_,rfl⟩,q _⟩⟩
def tSup (K:zFr) (t:TA):TE:=λ σ H Q=>t σ H λ vs H1=>∃ e y C R od tb,vs=[.ref e,.str y]/\H1 e=some (excO e C od tb)/\XC K C R/\Q .non H1
theorem Kw {pl:Sem Bool}(hg:Gl X x) (hm:X.mg x=some (.ref R)) (h1:PySem.W.specialIn X.K (.ref R) "__getattribute__"=some (some (.builtin "type.__getattribute__"))) (h2:PySem.W.readsIn X.K R (.type "type")=true)
  (h3:PySem.W.findCls X.K (.ref R) (.type "type") "__init__"=some (.val (.builtin "ValueError.__init__"))) (ha:PA X (a::es) t) (hdb:(x==("__debug__":Str))=false:=by decide)
  (hst:starEach (a::es) X.env=(false,eval a X.env)::starEach es X.env:=by rfl) (hpl:(backTo pos (starEach es X.env)).any (·.1)=false:=by rfl)
  (ht:eval (.Call (.Attribute (.Name x p) "__init__" apos) (a::es) [] pos) X.env=(do
   let ov <-eval (.Name x p) X.env
   standAt apos.atName
   let (f,first) <-holding [ov] (getMethod ov "__init__" pl)
   callWith pos f first (backTo pos (starEach (a::es) X.env)) (backToKw pos (keywordEach [] X.env))):=by rfl) :
  PE X (.Call (.Attribute (.Name x p) "__init__" apos) (a::es) [] pos) (tSup X.K t):=by
 intro π s σ H Q I h;refine PySem.W.methodCall_KW (pl:=pl) (GF I hg hm ?_ hdb) ht;refine PySem.W.method_cls I.kIn h1 (PySem.W.cls_value I.kIn h2 h3 rfl ?_);refine callWith_builtin1 (thn (ha pos π _ σ H _ (I.tok _) h) λ us s1 ⟨vs,H1,I1,r,e,y,C,R',od,tb,ev,he,xc,q⟩=>?_) hst hpl;subst ev;cases r with
 | cons r1 r=>
  cases r with
  | cons r2 r=>
   cases r;obtain rfl:=(show _=Value.ref e from r1);exact kZ I1 he xc λ s' I'=>⟨.non,H1,I',rfl,q⟩
end
section
variable {o value:Expr}{ta tv:TE}
def sXf (K:zFr) (ta tv:TE) (f:Str):TS:=λ D σ H=>tv σ H λ y H1=>ta σ H1 λ x H2=>∃ e C R tb,x=.ref e/\H2 e=some (excO e C none tb)/\XC K C R/\BX K C f ∧
 ∀ dx,H2 dx=none->D.nx σ (upd (upd H2 dx (.xd [(f,y)])) e (excO e C (some dx) tb))
theorem N6 (ha:PE X o ta) (hv:PE X value tv) (hs:swapsWith value (some (.Attribute o f pos')) pos.line X.env=pure false):PS X (.Assign [.Attribute o f pos'] value pos) (sXf X.K ta tv f):=by
 intro π s σ H D I h;refine plainObj_wpAny_Assign_Attribute (thn (hv π s σ H _ I h) λ u s1 ⟨y,H1,I1,ry,q⟩=>thn (ha π s1 σ H1 _ I1 q) λ ov s2 ⟨x,H2,I2,rx,e,C,R,tb,ex,ea,c,n,q2⟩=>?_) hs;subst ex;obtain rfl:ov=Value.ref e:=rx;exact qK I2 ea c n ry λ dx s3 hd I3=>⟨σ,_,I3,q2 dx hd⟩
end
def spE (K:zFr) (f:Str) (c:V->Prop):Sp:=λ vs H Q _=>∃ e y C R,vs=[.ref e,y]/\H e=some (excO e C none none)/\XC K C R/\BX K C f/\c y/\∀ dx,H dx=none->Q .non (upd (upd H dx (.xd [(f,y)])) e (excO e C (some dx) none))
theorem Lq {K:zFr}{c:V->Prop}{cs:St->Prop}{Q:VK}{E:XK}(h:spE K f c vs H Q E) (hN:N.length=2) (hc:∀ e y,c y->cs [some (.ref e),some y]) :
  tSeq (gD (tSup K (QZ (tVar 0) (QZ (tTxt cs) tNil)))) (sXf K (tVar 0) (tVar 1) f) { nx:=λ _ H'=>Q .non H',rt:=Q } (start N vs) H:=by
 obtain⟨e,y,C,R,rfl,he,xc,n,cy,q⟩:=h;have st:start N [.ref e,y]=[some (.ref e),some y]:=by delta L2.start;rw[hN];rfl
 rw[st];exact⟨_,rfl,hc e y cy,λ z=>⟨e,z,C,R,none,none,rfl,he,xc,_,rfl,_,rfl,e,C,R,none,rfl,he,xc,n,q⟩⟩
theorem Rb {K:zFr}{c:V->Prop}{Q:VK}{E:XK}(h:spE K f c vs H Q E):vs.length=2:=by
 obtain⟨e,y,C,R,rfl,_⟩:=h;rfl
def okI (y:V):Prop:=∃ n:Int,y=.int n/\n.natAbs.log2<1920
def okS (y:V):Prop:=∃ z:Str,y=.str z/\z.length<=100000/\∀ c∈z.cps.toList,c<16^8
theorem vK (e:Addr) (y:V) (h:okI y):QF 1 [some (.ref e),some y]:=by obtain⟨n,rfl,h⟩:=h;exact⟨n,rfl,h⟩
theorem Zb (e:Addr) (y:V) (h:okS y):ZZ 1 [some (.ref e),some y]:=by obtain⟨n,rfl,h⟩:=h;exact⟨n,rfl,h⟩
section
variable {R fi:Addr}{k:Nat}{c:V->Prop}
theorem Inv.exc (I:Inv X π σ H s):Inv X π σ (upd H (s.heap.objs.size+1) (excO (s.heap.objs.size+1) C none none)) { s with heap:=(s.heap.push (Ge us)).push (G6 C s.heap.objs.size) }:=by
 have I1:=I.kept (h':=s.heap.push (Ge us)) (t':=s.toks) λ b v z=>z05 _ z;have hs:(s.heap.push (Ge us)).objs.size=s.heap.objs.size+1:=by simp[z13]
 refine I1.laid (a:=s.heap.objs.size+1) (h':=(s.heap.push (Ge us)).push (G6 C s.heap.objs.size)) (t':=s.toks) (λ b v z=>z05 _ z) (Nat.le_of_eq hs) ?_;have g:=z0f (s.heap.push (Ge us)) (o:=G6 C s.heap.objs.size) rfl;rw[hs] at g;exact ExcP.ok ⟨_,_,g,rfl,rfl,rfl,rfl,rfl⟩
theorem cF {Q:VK}(x:XC X.K C R) (hi:PySem.W.findIn X.K (.ref C) "__init__"=some (some (.ref fi))) (hf:PySem.W.isFn X.K (.ref fi)=true) (n:BX X.K C f)
  (F:FnOk X.prog X.w X.K X.mg X.base CX0 k fi fd ps (spE X.K f c)) (hr:Room (k+1) X.A) (hb:Binds X.K fd ps []) (I:Inv X π σ H s) (r:Vals [y] us) (cy:c y)
  (h:∀ e dx,H e=none->H dx=none->dx≠e->Q (.ref e) (upd (upd H dx (.xd [(f,y)])) e (excO e C (some dx) none))):wpAny (model X.prog X.w) X.A (call (.ref C) us) (EP X π σ Q) X.xe s:=by
 have I2:=Inv.exc (C:=C) (us:=us) I;have hfe:H (s.heap.objs.size+1)=none:=I.hok.fresh (z0Q _);have sp:spE X.K f c [.ref (s.heap.objs.size+1),y] (upd H (s.heap.objs.size+1) (excO (s.heap.objs.size+1) C none none)) (λ v H2=>v=.non/\Q (.ref (s.heap.objs.size+1)) H2) E0:=by
  refine⟨_,y,C,R,rfl,Ai,x,n,cy,λ dx hd=>⟨rfl,?_⟩⟩;have ne:dx≠s.heap.objs.size+1:=λ z=>by rw[z,Ai] at hd;cases hd
  rw[Al ne] at hd;have:=h _ dx hfe hd ne;have e:upd (upd (upd H (s.heap.objs.size+1) (excO (s.heap.objs.size+1) C none none)) dx (.xd [(f,y)])) (s.heap.objs.size+1) (excO (s.heap.objs.size+1) C (some dx) none)=upd (upd H dx (.xd [(f,y)])) (s.heap.objs.size+1) (excO (s.heap.objs.size+1) C (some dx) none):=by
   funext b;delta upd;split<;>rfl
  rw[e];exact this
 have r2:Vals [V.ref (s.heap.objs.size+1),y] (Value.ref (s.heap.objs.size+1)::us):=.cons rfl r;have hl:(Value.ref (s.heap.objs.size+1)::us).length=ps.length:=by rw[<-r2.length];exact F.len _ _ _ _ sp
 have hb':=hb { s with heap:=(s.heap.push (Ge us)).push (G6 C s.heap.objs.size) } (Value.ref (s.heap.objs.size+1)::us) I2.kIn (by rw[z0t];exact hl);rw[z0t] at hb';have hus:us.length<=sizeLine:=by rw[<-r.length];exact PV.CV (by show 1<=_;decide)
 obtain⟨nm,qn,N,bs,bm,hdct,sn,sub,ab,col,dd,k0,k1,k2,k3,k5,hC,T⟩:=Ig I.kIn x.obj;have KI:=I.kIn;have run:=F.run _ X.stack _ _ ⟨Value.ref (s.heap.objs.size+1)::us,[]⟩ (Value.ref (s.heap.objs.size+1)::us) _ _ E0 (hr.make C us []) (I2.env0.make C us []) hb' r2 sp;obtain⟨hp,g,d,t,os⟩:=s;refine z14 (Su z20 T hC (PySem.W.looks_findIn KI hi) (λ self=>PySem.W.bind_fn KI self (z0N.mp hf)) (z0O run λ r s' hq'=>?_) hus);cases r with
 | error e=>exact hq'.elim
 | ok fl=>
  cases fl with
  | ret u=>
   obtain⟨v,H',I3,rv,ev,q3⟩:=I2.after hq';subst ev;exact⟨rv,⟨V.ref (hp.objs.size+1),H',I3,rfl,q3⟩⟩
  | next=>exact False.elim hq'
  | brk=>exact False.elim hq'
  | cont=>exact False.elim hq'
end
section
variable {A:Around}{K:zFr}
theorem kh {x:Sem Value}{Q:Flow->Shared->Prop}(hh:A.handled=none)
  (h:wpAny M A x (λ v s₁=>∃ e C od,v=.ref e/\ExcP e C od none s₁.heap/\K.In s₁.heap/\excX K C=true/\E (.ref e) s₁) E s):wpAny M A (raiseStmt env (some x) none) Q E s:=by
 unfold raiseStmt;refine z00 (z0D h (λ v s₁ h₁=>?_) λ _ _ x=>x);obtain⟨e,C,od,rfl,⟨o,vs,q1,q2,q3,q4,q5,q6⟩,KI,hx,hE⟩:=h₁;obtain⟨nm,qn,N,bs,bm,hdct,sn,sub,ab,col,dd,k0,k1,k2,k3,k5,hC,T⟩:=Ig KI hx;have hcB:(Value.ref C::bm).contains (.type "BaseException")=true:=by rw[List.contains_cons,T.hasType (by decide +kernel:bmV.contains (.type "BaseException")=true),Bool.or_true]
 obtain⟨hp,g,d,tk,os⟩:=s₁;obtain⟨oc,odi,oda,osl⟩:=o;dsimp only at q2 q3 q4;subst q2 q4;have h6:vs[1]?=some Value.none:=q6
 repeat (first | with_reducible refine z1G q1 ?_ | with_reducible refine z1G hC ?_ | (with_reducible refine wpAny_isSubtype_exc hC ?_;rw[hcB]) | with_reducible refine z16 q1 rfl h6 ?_ | wp_step)
 exact wpAny_raiseNew_none hh hE
end
end EX
namespace PV
open PySem PySem.Spec L2 EX
open PyProof.Rows hiding St
def excF (c f:Str) (ok:D->Bool) (fa:FE):FE:=λ ρ=>(fa ρ).bind λ d=>if ok d=true then some (.exc c [(f,d)]) else none
section
variable {a:Expr}{fa:FE}{np cpos:Pos}{R fi:Addr}{k:Nat}{cx:Str}{c:V->Prop}{ok:D->Bool}
theorem N7 {d:D}(r:Rep G H v d) (h:flV d=some y):v=y:=by
 cases r<;>first | (cases h;rfl) | (cases h)
theorem e_ (x:XC X.K C R) (hi:PySem.W.findIn X.K (.ref C) "__init__"=some (some (.ref fi))) (hf:PySem.W.isFn X.K (.ref fi)=true) (kp:PySem.W.keepIn X.K (.ref C)=true) (n:BX X.K C f)
  (F:FnOk X.prog X.w X.K X.mg X.base CX0 k fi fd ps (spE X.K f c)) (hr:Room (k+1) X.A) (hb:Binds X.K fd ps []) (hg:Gl X cx) (hm:X.mg cx=some (.ref C)) (hcl:G.xcl cn=some C) (hc:X.calm=true) (hok:∀ d,ok d=true->∃ y,flV d=some y/\c y)
  (ha:PF X G a fa) (hdb:(cx==("__debug__":Str))=false:=by decide) (he:starEach [a] X.env=[(false,eval a X.env)]:=by rfl) (hpl:(backTo cpos (starEach [] X.env)).any (·.1)=false:=by rfl) :
  PSZ X G (.Raise (some (.Call (.Name cx np) [a] [] cpos)) none pos) (retF (excF cn f ok fa)):=by
 rintro A0 He π s σ H D I ⟨ρ,o,⟨A,w⟩,e,k,kx⟩
 unfold retF excF at e;cases e1:fa ρ with
 | none=>simp[e1] at e
 | some d=>
  rw[e1] at e
  by_cases hd:ok d=true
  ·simp only[z0c,hd,if_true,z0k] at e;cases e;obtain⟨y,hy,cy⟩:=hok d hd;have kx:Rz X G A0 He cn [(f,d)] ρ:=kx cn [(f,d)] rfl;have call:wpAny (model X.prog X.w) X.A (eval (.Call (.Name cx np) [a] [] cpos) X.env) (λ v s₁=>∃ e C od,v=.ref e/\ExcP e C od none s₁.heap/\X.K.In s₁.heap/\excX X.K C=true/\X.xe (.ref e) s₁) X.xe s:=by
    refine z15 (GF I hg hm ?_ hdb);have pa:=BZ (@ha A) Cz he cpos π s σ H (λ vs H1=>vs=[y]/\OkW G A0 He A σ H1 ρ) I ⟨ρ,d,w.ok,e1,λ v H1 s1 r1=>⟨by rw[N7 r1 hy],w.mono s1⟩⟩;refine z1h (h₀:=X.base) I.ok.mod.kin kp (thn pa λ us s1 ⟨vs,H1,I1,r,ev,w1⟩=>⟨I1.kIn,?_⟩) he hpl
    ·subst ev;refine thn (cF (Q:=λ v H2=>∃ e dx,v=.ref e/\H1 e=none/\H1 dx=none/\dx≠e/\H2=upd (upd H1 dx (.xd [(f,y)])) e (excO e C (some dx) none)) x hi hf n F hr hb I1 r cy λ e dx h1 h2 h3=>⟨e,dx,rfl,h1,h2,h3,rfl⟩) λ u s2 ⟨v2,H2,I2,r2,e,dx,ev,h1,h2,h3,eH⟩=>?_;subst ev eH;obtain rfl:u=Value.ref e:=r2;refine⟨e,C,some dx,rfl,(I2.hok e _ Ai).1,I2.kIn,x.obj,?_⟩;refine kx π σ H1 _ s2 e none I2 ⟨A,w1⟩ ⟨⟨C,some dx,[(f,y)],hcl,Ai,(show upd (upd H1 dx (.xd [(f,y)])) e (excO e C (some dx) none) dx=_ by rw[Al h3];exact Ai),?_,λ d q=>by cases q;exact h2⟩,λ b u q=>?_,h1,λ T z=>nomatch z⟩
     ·simp[FsV,hy]
     ·rw[Al (Aw q h1),Al (Aw q h2)];exact q
   show wpAny _ _ (exec (.Raise (some (.Call (.Name cx np) [a] [] cpos)) none pos) X.env) _ _ _;rw[arm_exec_Raise];refine z00 (wpAny_standAt (kh (K:=X.K) (I.ok.hd hc) ?_));exact z00 (thn call λ v s1 q=>z00 (wpAny_standAt (z01 q)))
  ·simp[hd] at e
end
end PV
namespace EX
open PySem PySem.Spec L2
open PyProof.Rows hiding St
abbrev Cx.mk2 (X:Cx) (e:Addr):Cx:={ X with A:=X.A.mark (some (.ref e)),calm:=false,xe:=λ _ _=>False }
section
variable {e R:Addr}{K:zFr}
theorem YG (I:Inv X π σ H s):Inv (Cx.mk2 X e) π σ H s:=
 ⟨⟨I.ok.mod,I.ok.kind,I.ok.glob,I.ok.blt,I.ok.above,I.ok.inj,I.ok.has,I.ok.cab,(λ z=>nomatch z),I.ok.frames,I.ok.stk,I.ok.exf,I.ok.bs,I.ok.bsz,I.ok.noex,I.ok.exfs,I.ok.funs,I.ok.frf⟩,I.os,I.bare,I.base,I.loc,I.cell,I.free,I.freeC,I.pin,I.hok,I.len⟩
theorem S5 (ok:X.Ok) (I:Inv (Cx.mk2 X e) π σ H s):Inv X π σ H s:=⟨ok,I.os,I.bare,I.base,I.loc,I.cell,I.free,I.freeC,I.pin,I.hok,I.len⟩
abbrev Cx.tr (X:Cx) (E:zQ) (pn:zP):Cx:={ X with xe:=E,pn:=pn }
theorem xK {pn:zP}(ok:X.Ok):(Cx.tr X E pn).Ok:=⟨ok.mod,ok.kind,ok.glob,ok.blt,ok.above,ok.inj,ok.has,ok.cab,ok.hd,ok.frames,ok.stk,ok.exf,ok.bs,ok.bsz,ok.noex,ok.exfs,ok.funs,ok.frf⟩
theorem vL (I:Inv X π σ H s):Inv (Cx.tr X E (X.pn++π)) [] σ H s:=⟨xK I.ok,I.os,I.bare,I.base,I.loc,I.cell,I.free,I.freeC,λ p hp=>I.pin p (by simpa using hp),I.hok,I.len⟩
theorem Ky (ok:X.Ok) (I:Inv (Cx.tr X E (X.pn++π)) pins' σ H s):Inv X π σ H s:=⟨ok,I.os,I.bare,I.base,I.loc,I.cell,I.free,I.freeC,λ p hp=>I.pin p (List.mem_append_left _ hp),I.hok,I.len⟩
theorem Rc {D:Ends}{f:Flow}(ok:X.Ok) (h:SP (Cx.tr X E (X.pn++π)) pins' D f s'):SP X π D f s':=by
 cases f with
 | next=>obtain⟨σ',H',I,q⟩:=h;exact⟨σ',H',Ky ok I,q⟩
 | brk=>obtain⟨σ',H',I,q⟩:=h;exact⟨σ',H',Ky ok I,q⟩
 | cont=>obtain⟨σ',H',I,q⟩:=h;exact⟨σ',H',Ky ok I,q⟩
 | ret u=>obtain⟨v,σ',H',I,r,q⟩:=h;exact⟨v,σ',H',Ky ok I,r,q⟩
theorem km {A:Around}{Q:Unit->Shared->Prop}{T:Addr}(I:Inv X π σ H s) (he:H e=some (excO e C od (some T))) (ht:H T=some (tbO T .none)) (k:∀ s',Inv X π σ H s'->Q () s'):wpAny M A (setFlight (.ref e) none) Q E s:=by
 obtain⟨⟨o,vs,q1,q2,q3,q4,q5,q6⟩,_⟩:=I.hok e _ he;obtain⟨⟨oT,ts,r1,r2,r3,r4⟩,_⟩:=I.hok T _ ht;have z3:3<ts.size:=(Array.getElem?_eq_some_iff.mp r3).1;unfold setFlight;refine z00 (z16 q1 q4 q6 ?_);rw[if_pos (show (tbV (some T) != Value.none)=true from by simp[tbV])];refine z0Y r1 r2 z3 (k _ ?_);have I1:=Ld (u':=tbO T .none) (i:=3) (v:=(none:Option Addr).elim Value.none λ f=>rawInt f) I ht trivial r1 r2 λ h' o' y1 y2 y3 y4=>TbP.ok ⟨o',_,y1,y4,by simp[z3],y2.trans r4⟩
 rwa [Sv ht] at I1
theorem cG {A:Around}{Q:Unit->Shared->Prop}{n:Str}(I:Inv X π σ H s) (hN:X.N.Nodup) (hi:X.N[i]?=some n) (hk:X.env.kindOf n=some .local)
  (h:∀ s',Inv X π (σ.set i none) H s'->Q () s'):wpAny M A (do bindName X.env n .none;unbindBehindTheSuite X.env n pos) Q E s:=by
 obtain⟨m,hn,hl⟩:=I.loc;have hcls:(X.env.scope.kind==.class||(X.env.scope.kind==.module&&X.env.locals != X.env.globals))=false:=by rw[I.ok.kind];rfl
 have cne:=I.cne;obtain⟨oL,_,_,hoL,_⟩:=id hn;refine wpAny_nameGoes_keeps hk hn hcls λ h' v hn' hs=>h _ ?_;have ne:∀ b o,X.s₀.heap.get? b=some o->b≠X.env.locals:=λ b o z=>z08 (z0m (z06 z) I.ok.above);refine⟨I.ok,I.os,I.bare,⟨λ b o z n hb hx=>(hs.2 b (ne b o z)).trans (I.base.keep b o z n hb hx),λ b o z n hb hx=>?_,I.base.free,λ b o z hx=>?_,I.base.tups,I.base.frzs,I.base.tbls⟩,⟨_,hn',λ j y v' e1 e2 e3=>?_⟩,λ y c z=>?_,I.free,I.freeC,λ p hp=>?_,λ b ob z=>?_,by simpa using I.len⟩
 ·obtain⟨sl,e1⟩:=I.base.slot b o z n hb hx;exact⟨sl,(hs.2 b (ne b o z)).trans e1⟩
 ·obtain⟨o',e1⟩:=I.base.there b o z hx;exact⟨o',(hs.2 b (ne b o z)).trans e1⟩
 ·by_cases hj:j=i
  ·subst hj;rw[List.getElem?_set] at e2;split at e2
   ·split at e2<;>cases e2
   ·rename_i z;exact absurd rfl z
  ·rw[z0v (Ne.symm hj)] at e2;obtain⟨u',r',q⟩:=hl j y v' e1 e2 e3;refine⟨u',r',?_⟩
   rcases q with ⟨k,z⟩ | ⟨k,c,z,z'⟩
   ·refine .inl ⟨k,?_⟩;have:y≠n:=λ w=>hj (Rk hN e1 (w▸hi));simp[this,z]
   ·exact .inr ⟨k,c,z,z'.sameBut hs (cne y c z)⟩
 ·obtain⟨w',z'⟩:=I.cell y c z;exact⟨w',z'.sameBut hs (cne y c z)⟩
 ·obtain⟨z,n,ne,nf,d⟩:=I.pin p hp;exact⟨(hs.2 p.1 ne).trans z,n,ne,nf,d⟩
 ·refine (I.hok b ob z).stay (λ c w' hc q=>(hs.2 c ?_).trans q) (λ _ q=>q) λ _ _ q=>q;rintro rfl
  rcases hc with hc | hc
  ·rw[<-hc,I.free] at z;cases z
  ·rw[I.free] at hc;cases hc
theorem Wk {A:Around}{Q:Bool->Shared->Prop}{oe:Obj}(KI:K.In s.heap) {R':Addr}(hR:excX K R=true) (xc:XC K C R') (hRR:R=R'∨R=C) (he:s.heap.get? e=some oe) (hcls:oe.cls=.ref C) (hq:Q true s) :
  wpAny M A (excMatches (.ref e) (.ref R)) Q E s:=by
 obtain⟨nm,qn,N,bs,bm,hdct,sn,sub,ab,col,dd,k0,k1,k2,k3,k5,hC,T⟩:=Ig KI hR;obtain⟨cd,c1,c2,c3⟩:=xc.cls;have L:PySem.W.Looks M s.heap (isSubtype (.ref C) (.ref R)) true:=PySem.W.looks_subIn KI (by show PySem.W.mroIn K C _=_;unfold PySem.W.mroIn;rw[c1,z0c,c2];rcases hRR with rfl | rfl<;>simp);have hcB:(Value.ref R::bm).contains (.type "BaseException")=true:=by rw[List.contains_cons,T.hasType (by decide +kernel:bmV.contains (.type "BaseException")=true),Bool.or_true]
 have f:=tc_notTuple;obtain⟨hp,g,d,t,os⟩:=s;unfold excMatches
 repeat (first | (with_reducible refine z1G he ?_;rw[hcls]) | with_reducible refine z1G hC ?_ | (with_reducible refine wpAny_isSubtype_exc hC ?_;rw[hcB]) | with_reducible refine L.at ?_ | wp_step)
 exact hq
end
end EX
namespace PV
open PySem PySem.Spec L2 EX
open PyProof.Rows hiding St
def offO (i:Nat) (o:Option Out):Option Out:=match o with
 | some (.nx ρ)=>some (.nx (ρ.set i .un))
 | some (.rt d ρ)=>some (.rt d (ρ.set i .un))
 | _=>none
def tryO (cs:List Str) (i:Nat) (h:FS) (o:Option Out):Option Out:=match o with
 | some (.rt d ρ)=>(match excOf d with
  | some (c,gs)=>if cs.contains c=true then offO i (h (ρ.set i (.fz (.err c gs)))) else none
  | none=>some (.rt d ρ))
 | o=>o
def tryF (cs:List Str) (i:Nat) (g h:FS):FS:=λ ρ=>tryO cs i h (g ρ)
section
theorem OkW.unset (w:OkW G A0 He A σ H ρ) (i:Nat):OkW G A0 He A (σ.set i none) H (ρ.set i .un):=by
 have key:∀ (j:Nat) (z:Slot),z≠.un->(ρ.set i .un)[j]?=some z->j≠i/\ρ[j]?=some z:=λ j z nz h=>by
  by_cases hj:j=i
  ·subst hj;rw[List.getElem?_set] at h;split at h
   ·split at h
    ·cases h;exact absurd rfl nz
    ·cases h
   ·rename_i q;exact absurd rfl q
  ·rw[z0v (Ne.symm hj)] at h;exact⟨hj,h⟩
 have ks:∀ (j:Nat),j≠i->(σ.set i none)[j]?=σ[j]?:=λ j hj=>z0v (Ne.symm hj);refine⟨w.same,w.sub,w.fr,w.l0,⟨by rw[z0W,z0W];exact w.ok.len,w.ok.live,λ j d h=>?_,λ j d h=>?_,λ j k d e a h1 h2 h3 h4=>?_⟩,λ j d a h1 h2=>?_,λ x d hx h0=>?_⟩
 ·obtain⟨hj,h⟩:=key j _ (by simp) h;rw[ks j hj];exact w.ok.fz j d h
 ·obtain⟨hj,h⟩:=key j _ (by simp) h;rw[ks j hj];exact w.ok.ow j d h
 ·obtain⟨hj,h1⟩:=key j _ (by simp) h1;obtain⟨hk,h2⟩:=key k _ (by simp) h2;rw[ks j hj] at h3;rw[ks k hk] at h4;exact w.ok.inj j k d e a h1 h2 h3 h4
 ·obtain⟨hj,h1⟩:=key j _ (by simp) h1;rw[ks j hj] at h2;exact w.ow0 j d a h1 h2
 ·obtain⟨hj,h0⟩:=key 0 _ (by simp) h0;rw[ks 0 hj];exact w.lt x d hx h0
theorem qM {cs:List Str}{n rx:Str}{R:Addr}{suite:List Stmt}{b0:Stmt}{np hpos:Pos}{g h:FS}(hst:X.stack=X.env::X.outer) (hf:X.env.frame=some X.env.locals) (hN:X.N.Nodup) (hi:X.N[i]?=some n) (hk:X.env.kindOf n=some .local) (hg:Gl X rx) (hm:X.mg rx=some (.ref R)) (hR:excX X.K R=true)
  (hcl:∀ c C,cs.contains c=true->G.xcl c=some C->∃ R',XC X.K C R'/\(R=R'∨R=C)) (hb:∀ E pn,PSZs (Cx.tr X E pn) G body g) (hs:∀ e,PSDs (Cx.mk2 X e) G (b0::suite) h) (hdb:(rx==("__debug__":Str))=false:=by decide) :
  PSD X G (.Try body [.ExceptHandler (some (.Name rx np)) (some n) (b0::suite) hpos] [] [] pos) (tryF cs i g h):=by
 rintro A0 He π s σ H D I ⟨ρ,o,ok,e,k⟩
 refine wpAny_Try_except ?_;unfold tryF at e;cases e1:g ρ with
 | none=>rw[e1] at e;cases e
 | some o1=>
  rw[e1] at e;have fin:∀ {E':zQ}(f:Flow) (s1:Shared),SP (Cx.tr X E' (X.pn++π)) [] D f s1->(match f with | .next=>wpAny (model X.prog X.w) X.A (execs [] X.env) (SP X π D) X.xe s1 | f=>SP X π D f s1):=λ f s1 q=>by
   cases f with
   | next=>exact wpAny_execs_nil (Rc I.ok q)
   | brk=>exact Rc I.ok q
   | cont=>exact Rc I.ok q
   | ret u=>exact Rc I.ok q
  refine z0D (hb (λ e s1=>wpAny (model X.prog X.w) X.A (noteFrame e X.env) (λ _ s2=>wpAny (model X.prog X.w) X.A (setFlight e none) (λ _ s3=>wpAny (model X.prog X.w) X.A (handleBy e X.env [.ExceptHandler (some (.Name rx np)) (some n) (b0::suite) hpos]) (SP X π D) X.xe s3) X.xe s2) X.xe s1) (X.pn++π) He [] s σ H D (vL I) ⟨ρ,o1,ok,e1,?_,?_⟩) (λ f s1 q=>fin f s1 q) λ e s1 q=>q
  ·cases o1 with
   | nx ρ'=>cases e;exact k
   | bk ρ'=>cases e;exact k
   | ct ρ'=>cases e;exact k
   | rt d ρ'=>
    cases e2:excOf d with
    | none=>simp only[tryO,e2] at e;cases e;exact k
    | some q=>exact λ v σ' H' A w r=>absurd e2 (by rw[kO r];simp)
  ·cases o1 with
   | nx ρ'=>trivial
   | bk ρ'=>trivial
   | ct ρ'=>trivial
   | rt d ρ'=>
    intro c gs e2 pins' σ1 H1 H2 s2 ea tb I2 ⟨A1,w1⟩ x;simp only[tryO,e2] at e
    by_cases hc:cs.contains c=true
    ·rw[if_pos hc] at e;have I2:=Ky I.ok I2;refine YC hst hf I2 x λ T H3 s3 I3 x3=>?_;obtain⟨C,dx,fs,y1,y2,y3,y4,y5⟩:=x3.ex;obtain⟨R',xc,hRR⟩:=hcl c C hc y1;have w3:=w1.mono x3.same;obtain⟨⟨oe,vs,q1,q2,q3,q4,q5,q6⟩,_⟩:=I3.hok ea _ y2;refine wpAny_handleBy_cons (codeAny_handlers_test ?_) (by intro q;cases q);refine GF (X:=Cx.mk2 X ea) (YG I3) hg hm ?_ hdb;refine Wk I3.kIn hR xc hRR q1 q2 ?_;refine codeAny_handlers_suite_as (km I3 y2 (x3.tbk T rfl).1 λ s4 I4=>?_);have noA:∀ b,H1 b=none->b∉A1:=λ b z q=>(w1.ok.live b q).ne z;have rp:Rep G (hid A1 H3) (.ref ea) (.err c gs):=.err y1 (by rw[Bp (noA ea x3.new)];exact y2) (by cases dx with | none=>exact y3 | some dx=>exact (by show hid A1 H3 dx=_;rw[Bp (noA dx (y5 dx rfl))];exact y3)) y4;refine M7 (X:=Cx.mk2 X ea) (YG I4) hN hi (Or.inl hk) (show RelV (.ref ea) (.ref ea) from rfl) (λ s5 I5=>?_) (.inr hk);cases e5:h (ρ'.set i (.fz (.err c gs))) with
     | none=>rw[e5] at e;cases e
     | some o5=>
      rw[e5] at e;refine z0D (hs ea He π s5 _ H3 { nx:=λ σ' H'=>D.nx (σ'.set i none) H',rt:=D.rt } I5 ⟨_,o5,⟨A1,w3.set rp i⟩,e5,?_⟩) (λ f s6 q=>?_) λ _ _ z=>z.elim
      ·cases o5 with
       | nx ρ5=>cases e;exact λ σ6 H6 ⟨A6,w6⟩=>k _ _ ⟨A6,w6.unset i⟩
       | rt d5 ρ5=>cases e;exact λ v σ6 H6 A6 w6 r6=>k v _ H6 A6 (w6.unset i) r6
       | bk ρ5=>cases e
       | ct ρ5=>cases e
      ·cases f with
       | next=>
        obtain⟨σ6,H6,I6,q⟩:=q;exact cG (S5 I.ok I6) hN hi hk λ s7 I7=>⟨_,H6,I7,q⟩
       | ret u=>
        obtain⟨v,σ6,H6,I6,r,q⟩:=q;exact cG (S5 I.ok I6) hN hi hk λ s7 I7=>⟨v,_,H6,I7,r,q⟩
       | brk=>obtain⟨_,_,_,q⟩:=q;exact q.elim
       | cont=>obtain⟨_,_,_,q⟩:=q;exact q.elim
    ·rw[if_neg hc] at e;cases e
end
end PV
namespace EX
open PySem PySem.W PySem.Spec PyProof.Rows PySem.Calls
section
variable {A:Around}{K:Frag}{x:Addr}{ox:Obj}{od:Option Obj}
theorem fB {Q:Option Value->Shared->Prop}(X:K.In s.heap) (I:InstAt s.heap x ox C od) (hga:findIn K (.ref C) "__getattribute__"=some (some (.builtin "BaseException.__getattribute__"))) (hgt:findIn K (.ref C) "__getattr__"=some none)
  (hsub:subIn K (.ref C) (.type "BaseException")=some true) (hcl:(clsIn K C).isSome=true) (ha:findIn K (.ref C) "__class__"=some (some (.builtin "object.__class__")))
  (hn:specialIn K (.builtin "object.__class__") "__get__"=some (some (.builtin "getset_descriptor.__get__"))) (htk:takesIn K (.builtin "object.__class__")=some true) (hm:mroIn K C (.type "object")=some true) (h:Q (some (.ref C)) { s with toks:=s.toks+1 }):wpAny (model prog w) A (getAttr? (.ref x) "__class__") Q E s:=by
 have hf:findObj K C od "__class__"=some (.bind (.builtin "getset_descriptor.__get__") (.builtin "object.__class__")):=by (obtain⟨cdx,hcx⟩:=Option.isSome_iff_exists.mp hcl;unfold findObj;rw[hcx,z0c,ha,z0c];simp[hn,htk])
 obtain⟨hp,g,d,t,os⟩:=s;have L0:=I.type (M:=model prog w);have L1:=looks_findIn (M:=model prog w) X hga;have L2:=looks_findIn (M:=model prog w) X hgt;have L3:=looks_find (M:=model prog w) X I hf;have L4:=looks_subIn (M:=model prog w) X hsub;have f3:=F.attr_ValueError.ga.bind (.ref x);have hk:builtinKind "BaseException.__getattribute__"=some .slot:=by decide +kernel
 have hsplit:splitId "BaseException.__getattribute__"=some ("BaseException","__getattribute__"):=by decide +kernel
 have hx2:(Value.builtin "BaseException.__getattribute__"==Value.builtin "object.__getattribute__")=false:=by decide +kernel
 have hx1:(onTheHeap (Value.ref C)&&Value.builtin "BaseException.__getattribute__"==Value.builtin "object.__getattribute__")=false:=by rw[hx2];rfl
 unfold getAttr? getAttrBy? getAttrBy;refine z00 (wpAny_mkText (z00 (wpAny_attempt (z0z (z00 (L0.at (z00 (L1.at ?_))))))));dsimp only;rw[hx1,if_neg (by decide)];have ck:∀ (Q:Unit->Shared->Prop) (B:Around) (E':zQ),Q () ⟨hp,g,d,t+1,os⟩->wpAny (model prog w) B (checkBuiltinCall "BaseException.__getattribute__" ⟨[.ref x,.str "__class__" t],[]⟩) Q E' ⟨hp,g,d,t+1,os⟩:=λ Q B E' hq=>by
  have ha:=F.args_bexc_ga (.ref x) (.str "__class__" t);simp only[checkBuiltinCall,hk,hsplit];refine z00 ?_;unfold isInstance;refine z00 (L0.at (L4.at ?_))
  repeat (any_goals (first | assumption | wp_step))
 have run:∀ (B:Around) (R:Result->Shared->Prop),R (.ok (.ret (.ref C))) ⟨hp,g,d,t+1,os⟩->codeAny (model prog w) B (.call (.builtin "BaseException.__getattribute__") ⟨[.ref x,.str "__class__" t],[]⟩) R ⟨hp,g,d,t+1,os⟩:=λ B R hq=>
  z1C F.attr_ValueError.ga.plain F.entry_bexc_ga (ck _ _ _ (by
   unfold Builtin.«object.__getattribute__»
   repeat (any_goals (first | assumption | with_reducible refine L0.at ?_ | with_reducible refine L3.at ?_ | wp_step))
   exact class_get (s:=⟨hp,g,d,t+1,os⟩) (ox:=ox) (od:=od) X I hm (z01 hq)))
 repeat (any_goals (first | assumption | with_reducible refine L2.at ?_ | wp_step))
 refine run _ _ ?_;show wpAny _ _ (handedOut (.ref C)) _ _ _;rw[handedOut_of rfl];exact z01 (z01 h)
structure XK2 (K:Frag) (C:Addr):Prop where
 ha:findIn K (.ref C) "__class__"=some (some (.builtin "object.__class__"))
 hn:specialIn K (.builtin "object.__class__") "__get__"=some (some (.builtin "getset_descriptor.__get__"))
 htk:takesIn K (.builtin "object.__class__")=some true
theorem k_ {R:Addr}(xc:XC K C R) (k:XK2 K C):KitX K (.ref x) (.ref C) (λ h=>∃ ox od,InstAt h x ox C od):=by
 obtain⟨cd,c1,c2,c3⟩:=xc.cls;have mi:∀ v,(cd.mro.contains v)=true->mroIn K C v=some true:=λ v hv=>by unfold mroIn;rw[c1,z0c,hv,c2];rfl
 refine⟨λ M h _ ⟨ox,od,I⟩=>I.type,λ M h X _=>?_,λ h tp dd its n sl X htp=>?_,λ {prog w A E Q s} X ⟨ox,od,I⟩ h=>fB X I xc.ga xc.gt (mi _ (by rw[c2];rfl)) (by rw[c1];rfl) k.ha k.hn k.htk (mi _ (by rw[c2];rfl)) h⟩
 ·have hcD:=c1;unfold clsIn at hcD;split at hcD
  ·rename_i c' d' cd' sl' ho;intro A' Q' E' s' k q;unfold isType loadHead;exact z00 (wpAny_loadPart (k _ _ (X _ _ ho)) (z01 q))
  ·cases hcD
 ·have hcD:=c1;refine Bool.eq_false_iff.mpr λ q=>?_;have e:C=tp:=Value.ref.inj (z0N.mp q);subst e;unfold clsIn at hcD;split at hcD
  ·rename_i c' d' cd' sl' ho;have z:=(X _ _ ho).symm.trans htp;cases z
  ·cases hcD
end
end EX
namespace PV
open PySem PySem.Spec L2 EX
open PyProof.Rows hiding St
structure XT (G:Gx) (cs:List Str) (R:Addr):Prop where
 xc:∀ c C,cs.contains c=true->G.xcl c=some C->XC G.K C R
 xk:∀ c C,cs.contains c=true->G.xcl c=some C->XK2 G.K C
def isxD (cs ns:List Str):D->Option D
 | .non=>some (.bl (ns.contains "NoneType"))
 | .bl _=>some (.bl (ns.contains "bool"))
 | .int _=>some (.bl (ns.contains "int"))
 | .str _=>some (.bl (ns.contains "str"))
 | .err c _=>if cs.contains c=true then some (.bl (ns.contains c)) else none
 | _=>none
def kitB (K:zFr) (ecs:List (Str×Addr)) (cv:List Value) (ns:List Str):Bool:=
 (["NoneType","bool","int","str"]:List String).all (λ n=>PySem.W.kitAny K (.type n) cv==some (ns.contains (Str.ofString n)))&&ecs.all λ p=>PySem.W.kitAny K (.ref p.2) cv==some (ns.contains p.1)
structure Kit (G:Gx) (cs:List Str) (cv:List Value) (ns:List Str):Prop where
 non:PySem.W.kitAny G.K (.type "NoneType") cv=some (ns.contains "NoneType")
 bl:PySem.W.kitAny G.K (.type "bool") cv=some (ns.contains "bool")
 int:PySem.W.kitAny G.K (.type "int") cv=some (ns.contains "int")
 str:PySem.W.kitAny G.K (.type "str") cv=some (ns.contains "str")
 err:∀ c C,cs.contains c=true->G.xcl c=some C->PySem.W.kitAny G.K (.ref C) cv=some (ns.contains c)
inductive SpecV (H:Hp):V->List Value->Prop
 | cls (C:Addr):SpecV H (.ref C) [.ref C]
 | ty (T:String):SpecV H (.ty T) [.type T]
 | tup {p:Addr}{Cs:List Addr}:H p=some (.tup (Cs.map V.ref))->SpecV H (.ref p) (Cs.map Value.ref)
theorem VD:∀ {Cs:List Addr}{ws:List Value},Vals (Cs.map V.ref) ws->ws=Cs.map Value.ref
 | [],_,.nil=>rfl
 | _::_,_,.cons r t=>by rw[VD t,(show _=Value.ref _ from r)];rfl
def cH (cv:List Value):TE:=λ _ H Q=>∀ v H',Same H H'->SpecV H' v cv->Q v H'
def cI (Cs:List Addr):TA:=λ _ H Q=>Q (Cs.map V.ref) H
section
variable {a sp:Expr}{es:List Expr}{fa:FE}{p:Pos}{cs:List Str}{cv:List Value}{R:Addr}{Cs:List Addr}
theorem Hy {x:Str}(hg:Gl X x) (hm:X.mg x=some (.ref C)) (hd:(x==("__debug__":Str))=false:=by decide):PE X (.Name x pos) (cH [.ref C]):=Ca (EY (v:=.ref C) hg hm rfl hd) λ σ H Q h=>h _ H (Same.refl H) (.cls C)
theorem lA {x:Str}{T:String}(hg:Gl X x) (hm:X.mg x=none) (hv:bootBuiltins x=some (.type T)) (hn:x≠"__name__":=by decide) (hd:(x==("__debug__":Str))=false:=by decide):PE X (.Name x pos) (cH [.type T]):=Ca (Z5 (v:=.ty T) hg hm hv rfl hn hd) λ σ H Q h=>h _ H (Same.refl H) (.ty T)
theorem VG:PA X [] (cI []):=Cz
theorem G7 {x:Str}(hm:X.mg x=some (.ref C)) (hr:PA X es (cI Cs)) (hg:Gl X x:=by rfl) (hd:(x==("__debug__":Str))=false:=by decide) (hs:starEach (.Name x pos::es) X.env=(false,eval (.Name x pos) X.env)::starEach es X.env:=by rfl):PA X (.Name x pos::es) (cI (C::Cs)):=BZ (EY (v:=.ref C) hg hm rfl hd) hr hs
theorem VH {x1} (h:PA X es (cI Cs)) (hz:Nat.ble Cs.length 1000=true:=by rfl):PE X (.Tuple es x1 pos) (cH (Cs.map Value.ref)):=Ca (Y4 h) λ σ H Q h=>⟨by rw[z02];exact CV (z0a (Nat.le_of_ble_eq_true hz) (by decide)),λ p hp=>h _ _ (BR hp _) (.tup Ai)⟩
theorem cJ {K:zFr}{t c:Value}{b:Bool}(h:PySem.W.kitAny K t [c]=some b):PySem.W.kitOne K t c=some b:=by
 unfold PySem.W.kitAny at h;split at h
 ·rename_i e;rw[e];exact h
 ·rename_i e;rw[e];exact h
 ·cases h
theorem N8 {x t:Value}{b:Bool}{HH:Heap->Prop}{A:Around}(I:Inv X π σ H s) (Z:PySem.W.KitX X.K x t HH) (hh:HH s.heap) (e:PySem.W.kitAny X.K t cv=some b)
  (hx:x≠.builtin "__main__.__loader__#opaque") (sv:SpecV H v cv) (ru:RelV v u) (h:∀ tk,Q (.bool b) { s with toks:=tk }):wpAny (model X.prog X.w) A (call (.builtin "isinstance") [x,u]) Q E s:=by
 cases sv with
 | cls C=>obtain rfl:=(show u=Value.ref C from ru);exact z0G Z I.kIn hh (cJ e) hx h
 | ty T=>obtain rfl:=(show u=Value.type T from ru);exact z0G Z I.kIn hh (cJ e) hx h
 | tup hp=>
  obtain rfl:=(show u=Value.ref _ from ru);obtain⟨_,its,r,o,g1,g2,n,g3⟩:=I.hok _ _ hp;have:=VD r;subst this;obtain⟨oc,od,oda,osl⟩:=o;dsimp only at g2 g3;subst g2 g3;exact PySem.W.kia_tup Z I.kIn hh g1 e hx h
theorem lB {e:Addr}{fs:List (Str×V)}(I:Inv X π σ H s) (he:H e=some (excO e C od tb)) (hd:XdA H od fs):∃ ox oD,PySem.W.InstAt s.heap e ox C oD:=by
 obtain⟨⟨o,vs,q1,q2,q3,q4,q5,q6⟩,_⟩:=I.hok e _ he;cases od with
 | none=>exact⟨o,none,q1,q2,by unfold PySem.W.notCls;rw[q4],by rw[q3];trivial⟩
 | some dx=>
  obtain⟨mA,ns,r⟩:=I.hok dx _ hd;obtain⟨oD,g1,g2⟩:=Lb ns;exact⟨o,some oD,q1,q2,by unfold PySem.W.notCls;rw[q4],by rw[q3];exact g1⟩
theorem lC (hG:G.K=X.K) (t:XT G cs R) (kt:Kit G cs cv ns):Eb X (.builtin "isinstance") (λ xs H Q=>∃ x v A d b,xs=[x,v]/\Rep G (hid A H) x d/\isxD cs ns d=some (.bl b)/\SpecV H v cv/\Q (.bl b) H):=by
 rintro π s σ H xs us Q I r ⟨x,v,A,d,b,rfl,rp,e,sv,q⟩;cases r with
 | cons rx r=>
  cases r with
  | cons rv r=>
   cases r;have fin:∀ tk,EP X π σ Q (.bool b) { s with toks:=tk }:=λ tk=>⟨.bl b,H,I.tok _,rfl,q⟩;cases rp with
   | non=>obtain rfl:=(show _=Value.none from rx);cases e;exact N8 I PySem.W.kitx_none True.intro (hG▸kt.non) (λ z=>nomatch z) sv rv fin
   | bl y=>obtain rfl:=(show _=Value.bool y from rx);cases e;exact N8 I PySem.W.kitx_bool True.intro (hG▸kt.bl) (λ z=>nomatch z) sv rv fin
   | int i=>obtain⟨t',rfl⟩:=(show ∃ t,_=Value.int i t from rx);cases e;exact N8 I PySem.W.kitx_int True.intro (hG▸kt.int) (λ z=>nomatch z) sv rv fin
   | str i=>obtain⟨t',rfl⟩:=(show ∃ t,_=Value.str i t from rx);cases e;exact N8 I PySem.W.kitx_str True.intro (hG▸kt.str) (λ z=>nomatch z) sv rv fin
   | @err a C dx tb c fs gs hC h1 h2 h3=>
    obtain rfl:=(show _=Value.ref a from rx);have e':(if cs.contains c=true then some (D.bl (ns.contains c)) else none)=some (.bl b):=e;split at e'
    ·rename_i hc;cases e';exact N8 I (k_ (hG▸t.xc c C hc hC) (hG▸t.xk c C hc hC)) (lB I (BK _ _ h1) (h2.mono BK)) (hG▸kt.err c C hc hC) (λ z=>nomatch z) sv rv fin
    ·cases e'
   | tup=>cases e
   | lst=>cases e
   | dk=>cases e
   | dt=>cases e
   | adr=>cases e
   | ob=>cases e
theorem vM {d d':D}(h:isxD cs ns d=some d'):∃ b,d'=.bl b:=by
 unfold isxD at h;split at h
 ·cases h;exact⟨_,rfl⟩
 ·cases h;exact⟨_,rfl⟩
 ·cases h;exact⟨_,rfl⟩
 ·cases h;exact⟨_,rfl⟩
 ·split at h
  ·cases h;exact⟨_,rfl⟩
  ·cases h
 ·cases h
theorem J8 {x:Str}(hG:G.K=X.K) (t:XT G cs R) (kt:Kit G cs cv ns) (hg:Gl X x) (hm:X.mg x=none) (hv:bootBuiltins x=some (.builtin "isinstance")) (ha:PF X G a fa) (hsp:PE X sp (cH cv))
  (hn:x≠"__name__":=by decide) (hdb:(x==("__debug__":Str))=false:=by decide) (he:starEach [a,sp] X.env=(false,eval a X.env)::starEach [sp] X.env:=by rfl) (he2:starEach [sp] X.env=(false,eval sp X.env)::starEach [] X.env:=by rfl) :
  PF X G (.Call (.Name x p) [a,sp] [] pos) (uF (isxD cs ns) fa):=λ A=>Ca (Kl (lC hG t kt) hg hm hv (BZ (@ha A) (BZ hsp Cz he2) he) hn hdb he (by rw[he2];rfl))<|by
 rintro σ H Q ⟨ρ,d,o,e,k⟩
 unfold uF at e;cases e1:fa ρ with
 | none=>simp[e1] at e
 | some dx=>
  rw[e1] at e;have e2:isxD cs ns dx=some d:=e;obtain⟨b,rfl⟩:=vM e2;exact⟨ρ,dx,o,e1,λ v H1 s1 r1=>λ w H2 s2 sv=>⟨v,w,A,dx,b,rfl,r1.mono (BV s2),e2,sv,k _ H2 (s1.trans s2) (.bl b)⟩⟩
def fldE (cs:List Str) (f:Str):D->Option D
 | .err c gs=>if cs.contains c=true then gs.lookup f else none
 | _=>none
theorem qN {fs:List (Str×V)}{d:D}(h:FsV fs gs) (l:gs.lookup f=some d):∃ y,fs.lookup f=some y/\flV d=some y:=by
 unfold FsV at h
 induction fs generalizing gs with
 | nil=>cases gs with
  | nil=>cases l
  | cons q t=>cases h
 | cons q t ih=>
  cases gs with
  | nil=>cases l
  | cons q' t'=>
   obtain⟨k,v⟩:=q;obtain⟨k',v'⟩:=q';simp only[z03,List.cons.injEq,Prod.mk.injEq] at h;obtain⟨⟨rfl,h1⟩,h2⟩:=h;simp only[List.lookup] at l ⊢;split at l
   ·cases l;exact⟨v,rfl,h1.symm⟩
   ·exact ih h2 l
theorem lD {d:D}(h:flV d=some y):Rep G H y d:=by
 cases d<;>first | (cases h;constructor) | cases h
theorem Hr (hG:G.K=X.K) (t:XT G cs R) (ha:PF X G a fa) (n:∀ c C,cs.contains c=true->G.xcl c=some C->BX G.K C f)
  (hb:attributeBase a f X.env (eval a X.env)=eval a X.env:=by rfl) :
  PF X G (.Attribute a f pos) (uF (fldE cs f) fa):=by
 rintro A π s σ H Q I ⟨ρ,d,o,e,k⟩
 unfold uF at e;cases e1:fa ρ with
 | none=>simp[e1] at e
 | some d0=>
  rw[e1] at e;have e2:fldE cs f d0=some d:=e;refine aB hb (thn (@ha A π s σ H (λ v H1=>Same H H1/\Rep G (hid A H1) v d0) I ⟨ρ,d0,o,e1,λ v H1 s1 r1=>⟨s1,r1⟩⟩) λ u s1 ⟨v,H1,I1,rv,s1',rp⟩=>?_);cases rp with
  | @err ae C dx tb c fs gs hC h1 h2 h3=>
   obtain rfl:=(show u=Value.ref ae from rv);have e':(if cs.contains c=true then gs.lookup f else none)=some d:=e2;split at e'
   ·rename_i hc;obtain⟨y,l1,l2⟩:=qN h3 e';cases dx with
    | none=>cases h2;cases l1
    | some dx=>exact qL I1 (BK _ _ h1) (BK _ _ h2) (hG▸t.xc c C hc hC) (hG▸n c C hc hC) l1 λ u' s2 I2 ru=>⟨y,H1,I2,ru,k y H1 s1' (lD l2)⟩
   ·cases e'
  | _=>cases e2
end
end PV
namespace PV
open PySem PySem.Spec
section
variable {A:Around}{T:String}{r d:Addr}{P:Nat->Value->Prop}{OK:Heap->Prop}
end
section
variable {A:Around}
end
open L2
section
variable {a:Expr}{fa:FE}{p:Pos}
end
end PV
namespace PV
open PySem PySem.Spec L2 EX
open PyProof.Rows hiding St
theorem xM {base:Heap}{x:Str}{st:Stmt}{f:Addr}{k:Nat}{b:FS}(F:FunD G.K x qual st f fd) (S:FnScope N ps (Ad st)) (hl:ps.length<=N.length)
  (hb:∀ (cdv:Value) (A:Around) (outer:List Env) (s:Shared) (H:Hp) (E:XK),Room k (A.deeper (envOfC qual (Ad st) s.heap.objs.size f cdv))->PSZs (cxOf (CX1 P w) P w G.K mg base N qual (Ad st) f cdv A outer s H E) G (Bk st) b) :
  FnOk P w G.K mg base (CX1 P w) (k+1) f fd ps (spZ G (runF N.length ps.length b)):=by
 obtain⟨oc,od,dV,kV,doc,pm,an,cdv,ct,osl,rfl,lk,hcd⟩:=F.ex;refine gf lk hcd S (λ vs H Q E h=>?_) (λ A outer s H vs Q E hr h=>?_)
 ·obtain⟨A,ds,d,lv,r,e,_⟩:=h;unfold runF at e;split at e
  ·rename_i hz;rw[r.1];exact hz
  ·cases e
 ·obtain⟨A0,ds,d,lv,r,e,k,kx⟩:=h;unfold runF at e;split at e
  ·rename_i hz;have hzz:=hb cdv A outer s H E hr;refine⟨_,@hzz A0 H,FN N.length ds,?_⟩;cases e1:b (FN N.length ds) with
   | none=>simp[e1] at e
   | some o=>
    refine⟨o,R_ lv r (by rw[r.1,hz];exact hl),rfl,?_⟩;cases o with
    | nx ρ=>
     simp only[e1] at e;cases e;exact⟨λ σ H' ⟨A,w⟩=>k _ H' w.same .non,trivial⟩
    | rt d' ρ'=>
     simp only[e1] at e;cases e;exact⟨λ v σ H' A w r'=>k v H' w.same (r'.mono (GR w.sub)),vI kx⟩
    | bk ρ=>simp[e1] at e
    | ct ρ=>simp[e1] at e
  ·cases e
def okID:D->Bool
 | .int n=>decide (n.natAbs.log2<1920)
 | _=>false
def okSD:D->Bool
 | .str z=>decide (z.length<=100000)&&z.cps.toList.all λ c=>decide (c<4294967296)
 | _=>false
theorem Rf (d:D) (h:okID d=true):∃ y,flV d=some y/\okI y:=by
 cases d with
 | int n=>exact⟨_,rfl,n,rfl,z1y h⟩
 | _=>cases h
theorem Lr (d:D) (h:okSD d=true):∃ y,flV d=some y/\okS y:=by
 cases d with
 | str z=>
  simp only[okSD,z0x,z1Q,z0L] at h;exact⟨_,rfl,z,rfl,h.1,h.2⟩
 | _=>cases h
structure Mx (K:zFr) (C:Addr) (m qual:Str) (st:Stmt) (ps:List Str) where
 f:Addr
 fd:FuncData
 F:Fun K m qual st f fd
 B:Binds K fd ps []
 me:Meth K C m f
structure Rx (K:zFr) (mg:Str->Option Value) (rn:Str) where
 R:Addr
 m:mg rn=some (.ref R)
 x:excX K R=true
 h1:PySem.W.specialIn K (.ref R) "__getattribute__"=some (some (.builtin "type.__getattribute__"))
 h2:PySem.W.readsIn K R (.type "type")=true
 h3:PySem.W.findCls K (.ref R) (.type "type") "__init__"=some (.val (.builtin "ValueError.__init__"))
structure Xx (G:Gx) (mg:Str->Option Value) (R:Addr) (cn f qual:Str) (st:Stmt) (ps:List Str) where
 C:Addr
 fi:Addr
 fd:FuncData
 g:G.xcl cn=some C
 xc:XC G.K C R
 hi:PySem.W.findIn G.K (.ref C) "__init__"=some (some (.ref fi))
 hf:PySem.W.isFn G.K (.ref fi)=true
 kp:PySem.W.keepIn G.K (.ref C)=true
 na:BX G.K C f
 m:mg cn=some (.ref C)
 F:Fun G.K "__init__" qual st fi fd
 B:Binds G.K fd ps []
section
variable {a ob:Expr}{es:List Expr}{fs:FA}{fa fo:FE}{p np cpos:Pos}
theorem fZ {k:Nat}{x:Str}{st:Stmt}{d:Dx X.K X.mg x st ps}{g:List D->Option D}(F:FnOk X.prog X.w X.K X.mg X.base (CX1 X.prog X.w) k d.f d.fd ps (spZ G g)) (hr:Room k' X.A) (ha:PFA X G (a::es) fs) (hle:k<=k':=by omega) (hg:Gl X x:=by rfl) (hdb:(x==("__debug__":Str))=false:=by decide)
  (he:starEach (a::es) X.env=(false,eval a X.env)::starEach es X.env:=by rfl) (hpl:(backTo pos (starEach es X.env)).any (·.1)=false:=by rfl):PFZ X G (.Call (.Name x p) (a::es) [] pos) (An g fs):=vH F (hr.mono hle) hg d.m d.F.kp d.B ha hdb he hpl
theorem rZ {R:Addr}{st:Stmt}{x:Xx G X.mg R cn f qual st ps}{k:Nat}{c:V->Prop}{ok:D->Bool}(F:FnOk X.prog X.w X.K X.mg X.base CX0 k x.fi x.fd ps (spE X.K f c)) (hr:Room k' X.A) (hok:∀ d,ok d=true->∃ y,flV d=some y/\c y) (ha:PF X G a fa) (hle:k+1<=k':=by omega) (hG:G.K=X.K:=by rfl) (hg:Gl X cn:=by rfl) (hc:X.calm=true:=by rfl)
  (hdb:(cn==("__debug__":Str))=false:=by decide) (he:starEach [a] X.env=[(false,eval a X.env)]:=by rfl) (hpl:(backTo cpos (starEach [] X.env)).any (·.1)=false:=by rfl):PSZ X G (.Raise (some (.Call (.Name cn np) [a] [] cpos)) none pos) (retF (excF cn f ok fa)):=
 e_ (hG▸x.xc) (hG▸x.hi) (hG▸x.hf) (hG▸x.kp) (hG▸x.na) F (hr.mono hle) (hG▸x.B) hg x.m x.g hc hok ha hdb he hpl
end
section
variable {x:Str}{st:Stmt}{base:Heap}{k:Nat}{b:FS}
theorem fnZ (d:Dx G.K mg x st ps) (S:FnScope N ps (Ad st))
  (hb:∀ (cdv:Value) (A:Around) (outer:List Env) (s:Shared) (H:Hp) (E:XK),Room k (A.deeper (envOfC x (Ad st) s.heap.objs.size d.f cdv))->PSZs (cxOf (CX1 P w) P w G.K mg base N x (Ad st) d.f cdv A outer s H E) G (Bk st) b) (hl:ps.length<=N.length:=by decide) :
  FnOk P w G.K mg base (CX1 P w) (k+1) d.f d.fd ps (spZ G (runF N.length ps.length b)):=xM d.F S hl hb
end
def gx2 (K:zFr) (cn:Str) (C:Addr) (l:List (Str×Addr)):Gx:={ K:=K,cl:=λ c=>if c=cn then some C else none,xcl:=λ c=>l.lookup c }
section
variable {K:zFr}{x m:Str}{st:Stmt}{f R:Addr}{dV kV:Value}{l:List (Str×Addr)}
theorem vN:(gx2 K cn C l).cl cn=some C:=if_pos rfl
theorem Zc (X:K.In h) (cl:Cls K C) (n:PySem.W.findIn K (.ref C) x=some none):∀ c C',(gx2 K cn C l).cl c=some C'->Cls K C'/\BX K C' x:=λ c C' h=>by
 unfold gx2 at h;simp only at h;split at h
 ·cases h;exact⟨cl,n⟩
 ·cases h
theorem S6 {P:Addr->Prop}:∀ {l:List (Str×Addr)},(∀ p∈l,P p.2)->∀ {c:Str}{C:Addr},l.lookup c=some C->P C
 | [],_,_,_,h=>nomatch h
 | (k,v)::r,hp,c,C,h=>by
  simp only[List.lookup] at h;split at h
  ·cases h;exact hp (k,v) z0i
  ·exact S6 (λ p hm=>hp p (z0b _ hm)) h
theorem vO {cs:List Str}(X:K.In h) (hp:∀ p∈l,XC K p.2 R/\XK2 K p.2):XT (gx2 K cn C l) cs R:=⟨λ c C' _ g=>(S6 (P:=λ C=>XC K C R/\XK2 K C) hp g).1,λ c C' _ g=>(S6 (P:=λ C=>XC K C R/\XK2 K C) hp g).2⟩
theorem vP {cs:List Str}(X:K.In h) (hp:∀ p∈l,PySem.W.findIn K (.ref p.2) x=some none):∀ c C',cs.contains c=true->(gx2 K cn C l).xcl c=some C'->BX (gx2 K cn C l).K C' x:=λ c C' _ g=>S6 (P:=λ C=>PySem.W.findIn K (.ref C) x=some none) hp g
theorem lE {cv:List Value}{ns:List Str}:∀ {l:List (Str×Addr)},(∀ p∈l,PySem.W.kitAny K (.ref p.2) cv=some (ns.contains p.1))->∀ {c:Str}{C:Addr},l.lookup c=some C->PySem.W.kitAny K (.ref C) cv=some (ns.contains c)
 | [],_,_,_,h=>nomatch h
 | (k,v)::r,hp,c,C,h=>by
  simp only[List.lookup] at h;split at h
  ·rename_i e;have:c=k:=by simpa using e
   cases h;subst this;exact hp (c,v) z0i
  ·exact lE (λ p hm=>hp p (z0b _ hm)) h
theorem qO {cs:List Str}{cv:List Value}(X:K.In h) (h1:PySem.W.kitAny K (.type "NoneType") cv=some (ns.contains "NoneType")) (h2:PySem.W.kitAny K (.type "bool") cv=some (ns.contains "bool")) (h3:PySem.W.kitAny K (.type "int") cv=some (ns.contains "int")) (h4:PySem.W.kitAny K (.type "str") cv=some (ns.contains "str"))
  (hp:∀ p∈l,PySem.W.kitAny K (.ref p.2) cv=some (ns.contains p.1)):Kit (gx2 K cn C l) cs cv ns:=⟨h1,h2,h3,h4,λ c C' _ g=>lE hp g⟩
def kx2 {g:Addr}{n:Nat}{its:Array Value}{xs:List Str}(X:K.In h) (N:h.Ns mainGlobals mg) (a:PySem.W.nsIn K mainGlobals x=some (some (.ref g))) (lk:K.lookup g=some ⟨.type "tuple",od,.seq its n,osl⟩) (hz:its.size<=sizeLine) (r:Vals (xs.map V.str) its.toList):Kx (gx2 K cn C l) mg x (.tup (xs.map .str)):=⟨g,z10 X N a,U3 lk hz r⟩
def mx (X:K.In h) (a:PySem.W.findIn K (.ref C) m=some (some (.ref f))) (i:PySem.W.isFn K (.ref f)=true) (lk:K.lookup f=some ⟨oc,od,.func (PySem.W.fnOf m qual (Cd st) (Bk st) (Ad st) .none kV doc pm an cdv ct),osl⟩) (c:PySem.W.codeIn K cdv qual=true) (k:PySem.W.keepIn K (.ref f)=true)
  (b:∀ (kV doc pm:Value) (an:Option Addr) (cdv ct:Value) (us:List Value),us.length=ps.length->bindArgs (PySem.W.fnOf m qual (Cd st) (Bk st) (Ad st) .none kV doc pm an cdv ct) ⟨us,[]⟩=pure (ps.zip us)):Mx K C m qual st ps:=⟨f,_,Jz lk c k,(Jz lk c k).binds b,a,i,k⟩
def rx (X:K.In h) (N:h.Ns mainGlobals mg) (a:PySem.W.nsIn K mainGlobals x=some (some (.ref R))) (e:excX K R=true) (h1:PySem.W.specialIn K (.ref R) "__getattribute__"=some (some (.builtin "type.__getattribute__"))) (h2:PySem.W.readsIn K R (.type "type")=true)
  (h3:PySem.W.findCls K (.ref R) (.type "type") "__init__"=some (.val (.builtin "ValueError.__init__"))):Rx K mg x:=⟨R,z10 X N a,e,h1,h2,h3⟩
def xx {fn:Str}{fi:Addr}(X:K.In h) (N:h.Ns mainGlobals mg) (a:PySem.W.nsIn K mainGlobals x=some (some (.ref f))) (g:l.lookup x=some f) (xc:XC K f R) (hi:PySem.W.findIn K (.ref f) "__init__"=some (some (.ref fi))) (i:PySem.W.isFn K (.ref fi)=true) (kp:PySem.W.keepIn K (.ref f)=true) (na:PySem.W.findIn K (.ref f) fn=some none)
  (lk:K.lookup fi=some ⟨oc,od,.func (PySem.W.fnOf "__init__" qual (Cd st) (Bk st) (Ad st) .none kV doc pm an cdv ct),osl⟩) (c:PySem.W.codeIn K cdv qual=true) (k:PySem.W.keepIn K (.ref fi)=true)
  (b:∀ (kV doc pm:Value) (an:Option Addr) (cdv ct:Value) (us:List Value),us.length=ps.length->bindArgs (PySem.W.fnOf "__init__" qual (Cd st) (Bk st) (Ad st) .none kV doc pm an cdv ct) ⟨us,[]⟩=pure (ps.zip us)):Xx (gx2 K cn C l) mg R x fn qual st ps:=⟨f,fi,_,g,xc,hi,i,kp,na,z10 X N a,Jz lk c k,(Jz lk c k).binds b⟩
theorem UG:bootBuiltins "ValueError"=some (.type "ValueError"):=by decide +kernel
end
end PV
namespace PV
open PySem PySem.Spec L2
open PyProof.Rows hiding St
section
variable {b:Expr}{fb:FE}{p1:Pos}{es:List Expr}{fs:FA}
end
structure Ax (mg:Str->Option Value) (x:Str) where
 a:Addr
 m:mg x=some (.ref a)
def ax {K:zFr}{h:Heap}{mg:Str->Option Value}{x:Str}{C:Addr}(X:K.In h) (N:h.Ns mainGlobals mg) (a:PySem.W.nsIn K mainGlobals x=some (some (.ref C))):Ax mg x:=⟨C,z10 X N a⟩
end PV
namespace PV
open PySem PySem.Spec L2 EX
open PyProof.Rows hiding St
def tXZ (X:Cx) (G:Gx) (A0:List Addr) (He:Hp) (h:FZ):TE:=λ σ H Q=>∃ ρ d ρ' A,OkW G A0 He A σ H ρ/\h ρ=some (d,ρ')/\(∀ v H' A',OkW G A0 He A' σ H' ρ'->Same (hid A H) (hid A' H')->Rep G (hid A' H') v d->Q v H')/\RzO X G A0 He d ρ'
def PXZ (X:Cx) (G:Gx) (e:Expr) (h:FZ):Prop:=∀ ⦃A0⦄ He,PE X e (tXZ X G A0 He h)
section
variable {a b c:Expr}{fa fb fc:FE}{p2 px rp p:Pos}{es:List Expr}{fs:FA}{h:FZ}{hs:FZA}
end
section
variable {k:Nat}{f:Addr}{m:Str}{o:Expr}{ta:TE}
end
section
variable {b:Expr}{rp p:Pos}{es:List Expr}{fs:FA}
end
def nxD (d:D):Option D:=match excOf d with | none=>some d | some _=>none
def noX (g:List D->Option D):List D->Option D:=λ ds=>(g ds).bind nxD
section
variable {K:zFr}{base:Heap}{k:Nat}{f:Addr}{sp':Sp}
theorem qP (F:FnOk P w K mg base (CX1 P w) k f fd ps sp) (h:∀ vs H Q E,sp' vs H Q E->sp vs H Q λ _ _ _=>False):FnOk P w K mg base CX0 k f fd ps sp':=
 ⟨λ vs H Q E q=>F.len vs H Q _ (h _ _ _ _ q),λ A outer s H args us vs Q E hr he hb hv hs=>z0O (F.run A outer s H args us vs Q _ hr he hb hv (h _ _ _ _ hs)) λ r s' q=>by
  cases r with
  | error v=>obtain⟨_,_,_,_,_,_,_,z⟩:=q;exact z.elim
  | ok fl=>cases fl<;>exact q⟩
theorem YH {g:List D->Option D}{d:D}(e:noX g ds=some d):g ds=some d/\excOf d=none:=by
 unfold noX nxD at e;cases e1:g ds with
 | none=>simp[e1] at e
 | some d'=>
  rw[e1,z0c] at e;split at e
  ·rename_i z;cases e;exact⟨rfl,z⟩
  ·cases e
theorem cL {g:List D->Option D}(F:FnOk P w K mg base (CX1 P w) k f fd ps (spZ G g)):FnOk P w K mg base CX0 k f fd ps (spD G (noX g)):=
 qP F λ vs H Q E ⟨A,ds,d,lv,r,e,q⟩=>⟨A,ds,d,lv,r,(YH e).1,q,λ c gs z=>by rw[(YH e).2] at z;cases z⟩
theorem lF:FnOk P w K mg base CX k f fd ps (spZ G λ _=>none):=
 ⟨λ vs H Q E ⟨_,_,_,_,_,e,_⟩=>(nomatch e),λ A outer s H args us vs Q E hr he hb hv ⟨_,_,_,_,_,e,_⟩=>nomatch e⟩
end
section
variable {a b:Expr}{es:List Expr}{fs:FA}{rp p:Pos}{h:FZ}
end
end PV
namespace PV
open PySem PySem.Spec L2
open PyProof.Rows hiding St
end PV
namespace L2
end L2
namespace PV
open PySem PySem.Spec L2
section
variable {es l1 l2:List Expr}{a b c:Expr}
theorem Kz {k j}:starEach (.Constant k j pos::es) env=(false,eval (.Constant k j pos) env)::starEach es env:=rfl
theorem Rg {x}:starEach (.Name x pos::es) env=(false,eval (.Name x pos) env)::starEach es env:=rfl
theorem Js {o}:starEach (.BinOp a o b pos::es) env=(false,eval (.BinOp a o b pos) env)::starEach es env:=rfl
theorem Ah:starEach (.Subscript a b pos::es) env=(false,eval (.Subscript a b pos) env)::starEach es env:=rfl
theorem Gf {x}:starEach (.Attribute a x pos::es) env=(false,eval (.Attribute a x pos) env)::starEach es env:=rfl
theorem K1 {x}:starEach (.Tuple l1 x pos::es) env=(false,eval (.Tuple l1 x pos) env)::starEach es env:=rfl
theorem qQ:starEach (.List l1 pos::es) env=(false,eval (.List l1 pos) env)::starEach es env:=rfl
theorem Fi {k}:starEach (.Call a l1 k pos::es) env=(false,eval (.Call a l1 k pos) env)::starEach es env:=rfl
theorem cM {k}:starEach (.Dict k l1 pos::es) env=(false,eval (.Dict k l1 pos) env)::starEach es env:=rfl
end
section
variable {es:List Expr}{fs:FA}
theorem iS {i j} (h:PFA X G es fs):PFA X G (.Constant (.str i) j pos::es) (Aa (kF (.str i)) fs):=Ag Ja h Kz
theorem iI {i j} (h:PFA X G es fs):PFA X G (.Constant (.int i) j pos::es) (Aa (kF (.int i)) fs):=Ag Kr h Kz
end
section
variable {cs:List Str}{R:Addr}{st:Stmt}
theorem qR (x:XT G cs R):∀ c C,cs.contains c=true->G.xcl c=some C->∃ R',EX.XC G.K C R'/\(R=R'∨R=C):=λ c C h g=>⟨R,x.xc c C h g,.inl rfl⟩
end
open PyProof.Rows hiding St
section
variable {a b:Expr}{fs:FA}{px pt:Pos}
end
end PV
namespace PV
open PySem PySem.Spec L2 EX
open PyProof.Rows hiding St
section
variable {a:Expr}{fa:FE}{np cpos p:Pos}{gb:FS}{es:List Expr}{fs:FA}
theorem OutX.base {A0:List Addr}{He Hf:Hp}{o:Out}(k:OutX X G A0 He o) (s:Same He Hf) (l0:∀ a∈A0,He a≠none):OutX X G A0 Hf o:=by
 cases o with
 | rt d ρ=>exact λ c gs z π σ H1 H s' e tb I ⟨A,w⟩ x=>k c gs z π σ H1 H s' e tb I ⟨A,w.base s l0⟩ x
 | _=>trivial
theorem Rh {it:Expr}(hp:PassesOwn (model X.prog X.w) X.A X.env X.xe) (hc:X.calm=true) (hi:PFI X G false tg it src) (hg:PGD X G tg fg) (hb:PSZs X G body gb)
  (hs:∀ x,foldedSetIterable it X.env x=pure x:=by intro _;rfl):PSZ X G (.For tg it body [] pos) (forS src fg gb):=by
 rintro A0 He π s σ H D I ⟨ρ,o,⟨A,w⟩,e,k,kx⟩
 cases e1:src ρ with
 | none=>simp[forS,e1] at e
 | some ds=>
  have e':forF (λ d ρ=>(fg d ρ).bind gb) ds ρ=some o:=by
   have e2:forF (tgB fg gb) ds ρ=some o:=by simpa [forS,e1] using e
   exact e2
  have hb':PSs X body (λ D σ H=>∃ A0 He,tSZ X G A0 He gb D σ H):=λ π s σ H D I ⟨A0,He,q⟩=>@hb A0 He π s σ H D I q;have hg':PG X tg (λ v σ H Q=>∃ A0 He,tGD G A0 He fg v σ H Q):=λ π s σ H v u Q I r ⟨A0,He,q⟩=>@hg A0 He π s σ H v u Q I r q;refine Yr hp hc (@hi A) hg' hb' hs π s σ H D I ⟨ρ,ds,w.ok,e1,λ J H1 s1 sr=>?_⟩;obtain⟨sHe,w2⟩:=(w.mono s1).here;have k2:=k.base sHe w.l0;have kx2:=kx.base sHe w.l0;generalize hHf:hid (A.filter λ a=>decide (a∉A0)) H1=Hf at sHe w2 k2 kx2;refine⟨λ i m σ' H'=>m=ds.length-i/\i<=ds.length/\∃ ρ',OkS G A0 Hf σ' H' ρ'/\forF (λ d ρ=>(fg d ρ).bind gb) (ds.drop i) ρ'=some o,⟨ds.length,by simp,z0P _,ρ,⟨A,w2⟩,by simpa using e'⟩,?_⟩;rintro i m σ3 H3 ⟨rfl,hil,ρ3,⟨B,w3⟩,e3⟩;have pl:Same (hid A H1) (hid B H3):=by rw[<-hHf] at w3;exact OkW.plain w.sub w3
  by_cases hlt:i<ds.length
  ·right;have hd:ds[i]?=some ds[i]:=by simp[hlt]
   have ed:ds.drop i=ds[i]::ds.drop (i+1):=z1A hlt;rw[ed] at e3;unfold forF at e3;refine⟨sr.go i H3 (pl.trans BK) hlt,λ σ' H'=>∃ ρ',OkS G A0 Hf σ' H' ρ'/\forF (λ d ρ=>(fg d ρ).bind gb) (ds.drop (i+1)) ρ'=some o,λ σ' H' q=>⟨ds.length-(i+1),by omega,rfl,hlt,q⟩,λ x H' y=>?_⟩;obtain⟨sy,rx⟩:=sr.yld i H3 x H' _ (pl.trans BK) hd y;refine⟨A0,Hf,B,ρ3,ds[i],?_⟩;cases e4:fg ds[i] ρ3 with
   | none=>simp[e4] at e3
   | some ρ4=>
    refine⟨ρ4,w3.mono sy,rx B w3.ok.live pl,rfl,λ σ5 H5 ok5=>⟨A0,Hf,ρ4,?_⟩⟩;cases e5:gb ρ4 with
    | none=>simp[e4,e5] at e3
    | some o5=>
     refine⟨o5,ok5,rfl,?_⟩;cases o5 with
     | nx ρ5=>
      simp only[e4,e5,z0c] at e3;exact⟨λ σ' H' ok'=>⟨ρ5,ok',e3⟩,trivial⟩
     | ct ρ5=>
      simp only[e4,e5,z0c] at e3;exact⟨λ σ' H' ok'=>⟨ρ5,ok',e3⟩,trivial⟩
     | bk ρ5=>
      simp only[e4,e5,z0c] at e3;cases e3;exact⟨λ σ' H' ok'=>k2 σ' H' ok',trivial⟩
     | rt d5 ρ5=>
      simp only[e4,e5,z0c] at e3;cases e3;exact⟨k2,kx2⟩
  ·left;have ei:i=ds.length:=by omega
   subst ei;rw[List.drop_length] at e3;cases e3;exact⟨sr.stop _ H3 (pl.trans BK) (z04 _),k2 σ3 H3 ⟨B,w3⟩⟩
theorem lG {k:Nat}{f:Addr}{Q:VK}(F:FnOk X.prog X.w X.K X.mg X.base (CX1 X.prog X.w) k f fd ps sp) (hr:Room k X.A) (hb:Binds X.K fd ps [.none])
  (I:Inv X π σ H s) (r:Vals vs us) (h:sp (vs++[.non]) H Q (YD X σ)):wpAny (model X.prog X.w) X.A (call (.ref f) us) (EP X π σ Q) X.xe s:=by
 have r2:Vals (vs++[.non]) (us++[.none]):=r.append (.cons rfl .nil);have hl:(us++[Value.none]).length=ps.length:=by rw[<-r2.length];exact F.len _ _ _ _ h
 refine z14 (z0O (F.run X.A X.stack s H ⟨us,[]⟩ (us++[.none]) (vs++[.non]) Q _ hr I.env0 (hb s us I.kIn hl) r2 h) λ r s' hq=>?_);cases r with
 | error v=>
  obtain⟨e,H',rfl,q1,q2,q3,q4,q5⟩:=hq;exact q5 π s' (I.call' q1 q3 q4 q2 λ _ z=>nomatch z)
 | ok fl=>
  cases fl with
  | ret u=>exact I.after hq
  | next=>exact False.elim hq
  | brk=>exact False.elim hq
  | cont=>exact False.elim hq
theorem fZ1 {k:Nat}{x:Str}{st:Stmt}{d:Dx X.K X.mg x st ps}{g:List D->Option D}(hb:Binds X.K d.fd ps [.none]) (F:FnOk X.prog X.w X.K X.mg X.base (CX1 X.prog X.w) k d.f d.fd ps (spZ G g)) (hr:Room k' X.A) (ha:PFA X G (a::es) fs) (hle:k<=k':=by omega) (hg:Gl X x:=by rfl) (hdb:(x==("__debug__":Str))=false:=by decide)
  (he:starEach (a::es) X.env=(false,eval a X.env)::starEach es X.env:=by rfl) (hpl:(backTo pos (starEach es X.env)).any (·.1)=false:=by rfl):PFZ X G (.Call (.Name x p) (a::es) [] pos) (An (λ xs=>g (xs++[.non])) fs):=by
 rintro A0 He π s σ H Q I ⟨ρ,d',A,w,e,k,kx⟩
 unfold An at e;cases e1:fs ρ with
 | none=>simp[e1] at e
 | some ds=>
  have e':g (ds++[.non])=some d':=by simpa [e1] using e
  refine z15 (GF I hg d.m ?_ hdb);refine z1h (h₀:=X.base) I.ok.mod.kin d.F.kp (thn (@ha A pos π s σ H _ I ⟨ρ,ds,w.ok,e1,λ vs H1 s1 r1=>(show spZ G g (vs++[.non]) H1 Q (YD X σ) from⟨A,ds++[.non],d',(w.mono s1).ok.live,r1.append (.cons .non .nil),e',λ v H2 s2 r2=>k v H2 (s1.trans s2) r2,sH (w.mono s1) kx⟩)⟩) λ us s1 ⟨vs,H1,I1,r,q⟩=>⟨I1.kIn,?_⟩) he hpl;exact lG F (hr.mono hle) hb I1 r q
def mkE (c f:Str) (ok:D->Bool) (fa:FE):FE:=λ ρ=>(fa ρ).bind λ d=>if ok d=true then some (.err c [(f,d)]) else none
theorem Wm {R:Addr}{st:Stmt}{x:Xx G X.mg R cn f qual st ps}{k:Nat}{c:V->Prop}{ok:D->Bool}(F:FnOk X.prog X.w X.K X.mg X.base CX0 k x.fi x.fd ps (spE X.K f c)) (hr:Room k' X.A) (hok:∀ d,ok d=true->∃ y,flV d=some y/\c y) (ha:PF X G a fa) (hle:k+1<=k':=by omega) (hG:G.K=X.K:=by rfl) (hg:Gl X cn:=by rfl)
  (hdb:(cn==("__debug__":Str))=false:=by decide) (he:starEach [a] X.env=[(false,eval a X.env)]:=by rfl) (hpl:(backTo cpos (starEach [] X.env)).any (·.1)=false:=by rfl):PF X G (.Call (.Name cn np) [a] [] cpos) (mkE cn f ok fa):=by
 rintro A π s σ H Q I ⟨ρ,d,o,e,k⟩
 unfold mkE at e;cases e1:fa ρ with
 | none=>simp[e1] at e
 | some d0=>
  rw[e1] at e
  by_cases hd:ok d0=true
  ·simp only[z0c,hd,if_true] at e;cases e;obtain⟨y,hy,cy⟩:=hok d0 hd;refine z15 (GF I hg x.m ?_ hdb);have pa:=BZ (@ha A) Cz he cpos π s σ H (λ vs H1=>vs=[y]/\Same H H1) I ⟨ρ,d0,o,e1,λ v H1 s1 r1=>⟨by rw[N7 r1 hy],s1⟩⟩;refine z1h (h₀:=X.base) I.ok.mod.kin (hG▸x.kp) (thn pa λ us s1 ⟨vs,H1,I1,r,ev,s1'⟩=>⟨I1.kIn,?_⟩) he hpl;subst ev;refine cF (hG▸x.xc) (hG▸x.hi) (hG▸x.hf) (hG▸x.na) F (hr.mono hle) (hG▸x.B) I1 r cy λ e dx h1 h2 h3=>?_;have sm:Same H1 (upd (upd H1 dx (.xd [(f,y)])) e (excO e x.C (some dx) none)):=λ b u q=>by rw[Al (Aw q h1),Al (Aw q h2)];exact q
   have noA:∀ b,H1 b=none->b∉A:=λ b z q=>((o.mono s1').live b q).ne z;refine k _ _ (s1'.trans sm) (.err (od:=some dx) x.g (by rw[Bp (noA e h1)];exact Ai) (by show hid A _ dx=_;rw[Bp (noA dx h2),Al h3];exact Ai) ?_);simp[FsV,hy]
  ·simp[hd] at e
end
end PV
namespace EX
open PySem PySem.W PySem.Spec PyProof.Rows PySem.Calls
section
variable {A:Around}{K:Frag}{x:Addr}{ox:Obj}{name:Str}{v:Value}
open Builtin Builtin.ObjectAttr in
theorem lH {R dx:Addr}{oD:Obj}{cd:ClassData}{vs:Array Value}{m:Str->Option Value}{l:List Str}{Q:Unit->Shared->Prop}(X:K.In s.heap) (I:InstAt s.heap x ox C (some oD)) (hdx:ox.dict=some dx) (hfl:ox.data=.fields vs) (hs:findIn K (.ref C) "__setattr__"=some (some (.builtin "object.__setattr__"))) (hc:clsIn K C=some cd)
  (hm:cd.mro=[.ref C,.ref R,.type "ValueError",.type "Exception",.type "BaseException",.type "object"]) (hd:cd.hasDict=true) (ht:findIn K (.ref C) name=some none) (hn:s.heap.Ns1 dx m) (hw:Within m l) (hl:l.length<=10)
  (h:∀ h':Heap,h'.Ns1 dx (λ y=>if y=name then some v else m y)->Heap.SameBut dx s.heap h'->Q () { s with heap:=h',toks:=s.toks+2 }) :
  wpAny (model prog w) A (setAttr (.ref x) name v) Q E s:=by
 obtain⟨hp,g,d,t,os⟩:=s;have SF:=F.store_object;have VF:=F.store_ValueError;have hpass:refuseLoop (.ref x) "__setattr__" cd.mro=pure ():=by rw[hm,refuseLoop_ref,refuseLoop_ref];exact VF.passes _
 have sub:Looks (model prog w) hp (isInstance (.ref x) (.type "object")) true:=I.type.andThen (looks_mroIn X (by unfold mroIn;rw[hc,z0c,hm];rfl));have lm:Looks (model prog w) hp (mroOf (.ref C)) cd.mro:=(looks_clsIn X hc).andThen .now;have la:=looks_findIn (M:=model prog w) X ht;have lt:=I.type (M:=model prog w);have lc:=looks_clsIn (M:=model prog w) X hc;refine set_plain X I hs (z1C SF.slot.plain SF.entry ?_);refine @check_slot (model prog w) _ _ ⟨hp,g,d,t+1,os⟩ "object.__setattr__" "object" "__setattr__" (.ref x) [.str name t,v] [] _ SF.kind SF.split sub (SF.args (.ref x) (.str name t) v) ?_;rw[osa_eq,refuse_eq];refine z00 (z00 (lt.at (z00 (lm.at ?_))));rw[hpass];refine z01 (z00 (lt.at (z00 (la.at (z00 (z01 ?_))))));dsimp only;obtain⟨hx,hcl,hn',hdi⟩:=I;obtain⟨oc,odi,oda,osl⟩:=ox;dsimp only at hcl hdi hfl hdx;subst hcl hfl hdx;unfold storeInOwnDict;refine z00 (z01 (z00 (z00 (wpAny_loadPart hx (z00 (lc.at ?_))))));rw[hd];refine z01 ?_;show wpAny _ _ (storeInDict dx (.str name t) name v) _ _ _;unfold storeInDict newKeyGuard;refine z00 (z01 (z00 (wpAny_nsSet1 hn λ h' hn' hs'=>?_)));obtain⟨oD',esD,epD,hoD,hdD,hcD⟩:=hn'.count (Within.cons name v hw);refine z00 (wpAny_lookBehind hoD (by rw[hdD];exact pastItsLine_dict (z0a hcD (by rw[z0s,sizeLine_eq];omega))) ?_);exact z01 (h h' hn' hs')
end
end EX
namespace EX
open PySem PySem.Spec L2
open PyProof.Rows hiding St
section
variable {e R dx:Addr}{A:Around}
theorem lJ {fs:List (Str×V)}{Q:Unit->Shared->Prop}(I:Inv X π σ H s) (he:H e=some (excO e C (some dx) tb)) (hd:H dx=some (.xd fs)) (x:XC X.K C R) (n:BX X.K C f) (ry:RelV y u) (hl:fs.length<=9)
  (h:∀ s',Inv X π σ (upd H dx (.xd ((f,y)::fs))) s'->Q () s'):wpAny (model X.prog X.w) A (setAttr (.ref e) f u) Q E s:=by
 obtain⟨⟨o,vs,q1,q2,q3,q4,q5,q6⟩,_⟩:=I.hok e _ he;obtain⟨mA,ns,r⟩:=I.hok dx _ hd;obtain⟨oD,g1,g2⟩:=Lb ns;obtain⟨cd,c1,c2,c3⟩:=x.cls;have ia:PySem.W.InstAt s.heap e o C (some oD):=⟨q1,q2,by unfold PySem.W.notCls;rw[q4],by rw[q3];exact g1⟩;have wi:Within mA (fs.map (·.1)):=λ g hg=>by
  have:=r g;cases q:fs.lookup g with
  | none=>
   rw[q] at this;cases z:mA g with
   | none=>exact absurd z hg
   | some w=>rw[z] at this;exact this.elim
  | some w=>
   clear this
   induction fs with
   | nil=>cases q
   | cons p rest ih=>
    obtain⟨a,b⟩:=p;simp only[List.lookup] at q;split at q
    ·rename_i ee;simp at ee;simp[ee]
    ·exact z0b _ (by
      have:∀ {l:List (Str×V)},l.lookup g=some w->g∈l.map (·.1):=λ {l}=>by
       induction l with
       | nil=>intro z;cases z
       | cons p l ih=>
        intro z;obtain⟨a,b⟩:=p;simp only[List.lookup] at z;split at z
        ·rename_i ee;simp at ee;simp[ee]
        ·exact z0b _ (ih z)
      exact this q)
 refine lH I.kIn ia q3 q4 x.sa c1 c2 c3 n ns wi (by rw[z02];omega) λ h' hn' hs'=>h _ ?_;have nx:∀ b v,H b=some v->(∀ gs,v≠.xd gs)->b≠dx:=λ b v q z w=>by rw[w,hd] at q;cases q;exact z _ rfl
 have ot:∀ b v,H b=some v->(∀ gs,v≠.xd gs)->upd H dx (.xd ((f,y)::fs)) b=some v:=λ b v q z=>by rw[Al (nx b v q z)];exact q
 refine I.un ⟨λ b ob z nb _ _=>(hs'.2 b (Ne.symm (Aw hd nb))).trans z,λ b ob z nb _ _=>⟨ob.slots,(hs'.2 b (Ne.symm (Aw hd nb))).trans z⟩,λ b ob z nb _=>?_,λ b ob z _=>?_,λ b xs z=>ot b _ z (λ _ z=>nomatch z),λ b o' u' z=>ot b _ z (λ _ z=>nomatch z),λ b ps z=>⟨#[],by rw[ot b _ z (λ _ z=>nomatch z)];simp⟩⟩ λ b v z=>?_
 ·rw[Al (Ne.symm (Aw hd nb))];exact nb
 ·by_cases hb:b=dx
  ·obtain⟨o',_,_,z',_⟩:=hn';rw[hb];exact⟨o',z'⟩
  ·exact⟨ob,(hs'.2 b hb).trans z⟩
 ·by_cases hb:b=dx
  ·subst hb;rw[Ai] at z;cases z;refine⟨_,hn',λ g=>?_⟩
   by_cases hg:g=f
   ·subst hg;simp[List.lookup];exact ry
   ·have:(g==f)=false:=z0y.mpr hg;simp only[List.lookup,this,hg,if_false];exact r g
  ·rw[Al hb] at z;refine (I.hok b v z).stay (λ c w hc k=>(hs'.2 c ?_).trans k) (λ c q=>ot c _ q (λ _ z=>nomatch z)) (λ c xs q=>ot c _ q (λ _ z=>nomatch z))
   rcases hc with hc | hc
   ·rw[hc];exact hb
   ·exact nx c _ hc (λ _ z=>nomatch z)
end
section
variable {o value:Expr}{ta tv:TE}
theorem PP.imp {c c':St->Prop}(h:PP X c e) (w:∀ σ,c' σ->c σ):PP X c' e:=λ π s σ H I hc=>h π s σ H I (w σ hc)
def sXg (K:zFr) (ta tv:TE) (f:Str):TS:=λ D σ H=>tv σ H λ y H1=>ta σ H1 λ x H2=>∃ e C R tb dx fs,x=.ref e/\H2 e=some (excO e C (some dx) tb)/\H2 dx=some (.xd fs)/\XC K C R/\BX K C f/\fs.length<=9/\D.nx σ (upd H2 dx (.xd ((f,y)::fs)))
theorem lK (ha:PE X o ta) (hv:PE X value tv) (hs:swapsWith value (some (.Attribute o f pos')) pos.line X.env=pure false):PS X (.Assign [.Attribute o f pos'] value pos) (sXg X.K ta tv f):=by
 intro π s σ H D I h;refine plainObj_wpAny_Assign_Attribute (thn (hv π s σ H _ I h) λ u s1 ⟨y,H1,I1,ry,q⟩=>thn (ha π s1 σ H1 _ I1 q) λ ov s2 ⟨x,H2,I2,rx,e,C,R,tb,dx,fs,ex,ea,ed,c,n,hl,q2⟩=>?_) hs;subst ex;obtain rfl:ov=Value.ref e:=rx;exact lJ I2 ea ed c n ry hl λ s3 I3=>⟨σ,_,I3,q2⟩
end
def spE2 (K:zFr) (f g:Str) (c:V->V->Prop):Sp:=λ vs H Q _=>∃ e y z C R,vs=[.ref e,y,z]/\H e=some (excO e C none none)/\XC K C R/\(BX K C f/\BX K C g)/\c y z/\∀ dx,H dx=none->Q .non (upd (upd H dx (.xd [(g,z),(f,y)])) e (excO e C (some dx) none))
theorem Zd {K:zFr}{g:Str}{c:V->V->Prop}{cs:St->Prop}{Q:VK}{E:XK}(h:spE2 K f g c vs H Q E) (hN:N.length=3) (hc:∀ e y z,c y z->cs [some (.ref e),some y,some z]) :
  tSeq (gD (tSup K (QZ (tVar 0) (QZ (tTxt cs) tNil)))) (tSeq (sXf K (tVar 0) (tVar 1) f) (sXg K (tVar 0) (tVar 2) g)) { nx:=λ _ H'=>Q .non H',rt:=Q } (start N vs) H:=by
 obtain⟨e,y,z,C,R,rfl,he,xc,n,cy,q⟩:=h;have st:start N [.ref e,y,z]=[some (.ref e),some y,some z]:=by delta L2.start;rw[hN];rfl
 rw[st];refine⟨_,rfl,hc e y z cy,λ t=>⟨e,t,C,R,none,none,rfl,he,xc,_,rfl,_,rfl,e,C,R,none,rfl,he,xc,n.1,λ dx hd=>?_⟩⟩;have ne:dx≠e:=λ w=>by rw[w,he] at hd;cases hd
 refine⟨_,rfl,_,rfl,e,C,R,none,dx,[(f,y)],rfl,Ai,by rw[Al ne,Ai],xc,n.2,by simp,?_⟩;have:=q dx hd;have e2:upd (upd (upd H dx (.xd [(f,y)])) e (excO e C (some dx) none)) dx (.xd [(g,z),(f,y)])=upd (upd H dx (.xd [(g,z),(f,y)])) e (excO e C (some dx) none):=by
  funext b;delta upd
  by_cases h1:b=dx
  ·subst h1;simp[ne]
  ·by_cases h2:b=e
   ·subst h2;simp[h1]
   ·simp[h1,h2]
 rw[e2];exact this
theorem lL {K:zFr}{g:Str}{c:V->V->Prop}{Q:VK}{E:XK}(h:spE2 K f g c vs H Q E):vs.length=3:=by
 obtain⟨e,y,z,C,R,rfl,_⟩:=h;rfl
def okII (y z:V):Prop:=okI y/\okI z
theorem qT (e:Addr) (y z:V) (h:okII y z):QF 1 [some (.ref e),some y,some z]/\QF 2 [some (.ref e),some y,some z]:=by
 obtain⟨⟨n,rfl,h1⟩,⟨m,rfl,h2⟩⟩:=h;exact⟨⟨n,rfl,h1⟩,⟨m,rfl,h2⟩⟩
section
variable {R fi:Addr}{k:Nat}{g:Str}{c:V->V->Prop}
theorem lN {Q:VK}{z:V}(x:XC X.K C R) (hi:PySem.W.findIn X.K (.ref C) "__init__"=some (some (.ref fi))) (hf:PySem.W.isFn X.K (.ref fi)=true) (n:BX X.K C f) (n2:BX X.K C g)
  (F:FnOk X.prog X.w X.K X.mg X.base CX0 k fi fd ps (spE2 X.K f g c)) (hr:Room (k+1) X.A) (hb:Binds X.K fd ps []) (I:Inv X π σ H s) (r:Vals [y,z] us) (cy:c y z)
  (h:∀ e dx,H e=none->H dx=none->dx≠e->Q (.ref e) (upd (upd H dx (.xd [(g,z),(f,y)])) e (excO e C (some dx) none))):wpAny (model X.prog X.w) X.A (call (.ref C) us) (EP X π σ Q) X.xe s:=by
 have I2:=Inv.exc (C:=C) (us:=us) I;have hfe:H (s.heap.objs.size+1)=none:=I.hok.fresh (z0Q _);have sp:spE2 X.K f g c [.ref (s.heap.objs.size+1),y,z] (upd H (s.heap.objs.size+1) (excO (s.heap.objs.size+1) C none none)) (λ v H2=>v=.non/\Q (.ref (s.heap.objs.size+1)) H2) E0:=by
  refine⟨_,y,z,C,R,rfl,Ai,x,⟨n,n2⟩,cy,λ dx hd=>⟨rfl,?_⟩⟩;have ne:dx≠s.heap.objs.size+1:=λ z=>by rw[z,Ai] at hd;cases hd
  rw[Al ne] at hd;have:=h _ dx hfe hd ne;have e:upd (upd (upd H (s.heap.objs.size+1) (excO (s.heap.objs.size+1) C none none)) dx (.xd [(g,z),(f,y)])) (s.heap.objs.size+1) (excO (s.heap.objs.size+1) C (some dx) none)=upd (upd H dx (.xd [(g,z),(f,y)])) (s.heap.objs.size+1) (excO (s.heap.objs.size+1) C (some dx) none):=by
   funext b;delta upd;split<;>rfl
  rw[e];exact this
 have r2:Vals [V.ref (s.heap.objs.size+1),y,z] (Value.ref (s.heap.objs.size+1)::us):=.cons rfl r;have hl:(Value.ref (s.heap.objs.size+1)::us).length=ps.length:=by rw[<-r2.length];exact F.len _ _ _ _ sp
 have hb':=hb { s with heap:=(s.heap.push (Ge us)).push (G6 C s.heap.objs.size) } (Value.ref (s.heap.objs.size+1)::us) I2.kIn (by rw[z0t];exact hl);rw[z0t] at hb';have hus:us.length<=sizeLine:=by rw[<-r.length];exact PV.CV (by show 2<=_;decide)
 obtain⟨nm,qn,N,bs,bm,hdct,sn,sub,ab,col,dd,k0,k1,k2,k3,k5,hC,T⟩:=Ig I.kIn x.obj;have KI:=I.kIn;have run:=F.run _ X.stack _ _ ⟨Value.ref (s.heap.objs.size+1)::us,[]⟩ (Value.ref (s.heap.objs.size+1)::us) _ _ E0 (hr.make C us []) (I2.env0.make C us []) hb' r2 sp;obtain⟨hp,g',d,t,os⟩:=s;refine z14 (Su z20 T hC (PySem.W.looks_findIn KI hi) (λ self=>PySem.W.bind_fn KI self (z0N.mp hf)) (z0O run λ r s' hq'=>?_) hus);cases r with
 | error e=>exact hq'.elim
 | ok fl=>
  cases fl with
  | ret u=>
   obtain⟨v,H',I3,rv,ev,q3⟩:=I2.after hq';subst ev;exact⟨rv,⟨V.ref (hp.objs.size+1),H',I3,rfl,q3⟩⟩
  | next=>exact False.elim hq'
  | brk=>exact False.elim hq'
  | cont=>exact False.elim hq'
end
end EX
namespace PV
open PySem PySem.Spec L2 EX
open PyProof.Rows hiding St
structure Xx2 (G:Gx) (mg:Str->Option Value) (R:Addr) (cn f g qual:Str) (st:Stmt) (ps:List Str) where
 C:Addr
 fi:Addr
 fd:FuncData
 gc:G.xcl cn=some C
 xc:XC G.K C R
 hi:PySem.W.findIn G.K (.ref C) "__init__"=some (some (.ref fi))
 hf:PySem.W.isFn G.K (.ref fi)=true
 kp:PySem.W.keepIn G.K (.ref C)=true
 na:BX G.K C f
 nb:BX G.K C g
 m:mg cn=some (.ref C)
 F:Fun G.K "__init__" qual st fi fd
 B:Binds G.K fd ps []
def two2 (mk:Str->List (Str×D)->D) (cn f g:Str) (ds:List D):Option D:=match ds with
 | [d1,d2]=>if (okID d1&&okID d2)=true then some (mk cn [(g,d2),(f,d1)]) else none
 | _=>none
def mkE2 (cn f g:Str) (fs:FA):FE:=λ ρ=>(fs ρ).bind (two2 .err cn f g)
theorem fC {mk:Str->List (Str×D)->D}{g:Str}{d:D}(h:two2 mk cn f g ds=some d):∃ d1 d2 y z,ds=[d1,d2]/\flV d1=some y/\flV d2=some z/\okII y z/\d=mk cn [(g,d2),(f,d1)]:=by
 unfold two2 at h;split at h
 ·rename_i d1 d2;split at h
  ·rename_i hk;rw[z0x] at hk;obtain⟨y,hy,oy⟩:=Rf d1 hk.1;obtain⟨z,hz,oz⟩:=Rf d2 hk.2;cases h;exact⟨d1,d2,y,z,rfl,hy,hz,⟨oy,oz⟩,rfl⟩
  ·cases h
 ·cases h
section
variable {a b:Expr}{fs:FA}{np cpos:Pos}{R:Addr}{g:Str}{st:Stmt}{x:Xx2 G X.mg R cn f g qual st ps}{k:Nat}
theorem qU {d1 d2:D}{z:V}(r:RepL G H vs [d1,d2]) (hy:flV d1=some y) (hz:flV d2=some z):vs=[y,z]:=by
 obtain⟨v,ws,rfl,r1,r2⟩:=r.uncons;obtain⟨w,us,rfl,r3,r4⟩:=r2.uncons;have:=r4.nil_inv;subst this;rw[N7 r1 hy,N7 r3 hz]
theorem qW (F:FnOk X.prog X.w X.K X.mg X.base CX0 k x.fi x.fd ps (spE2 X.K f g okII)) (hr:Room k' X.A) (ha:PFA X G [a,b] fs) (hle:k+1<=k':=by omega) (hG:G.K=X.K:=by rfl) (hg:Gl X cn:=by rfl)
  (hdb:(cn==("__debug__":Str))=false:=by decide) (he:starEach [a,b] X.env=(false,eval a X.env)::starEach [b] X.env:=by rfl) (hpl:(backTo cpos (starEach [b] X.env)).any (·.1)=false:=by rfl):PF X G (.Call (.Name cn np) [a,b] [] cpos) (mkE2 cn f g fs):=by
 rintro A π s σ H Q I ⟨ρ,d,o,e,k⟩
 unfold mkE2 at e;cases e1:fs ρ with
 | none=>simp[e1] at e
 | some ds=>
  rw[e1,z0c] at e;obtain⟨d1,d2,y,z,rfl,hy,hz,cy,rfl⟩:=fC e;refine z15 (GF I hg x.m ?_ hdb);have pa:=@ha A cpos π s σ H (λ vs H1=>vs=[y,z]/\Same H H1) I ⟨ρ,[d1,d2],o,e1,λ vs H1 s1 r1=>⟨qU r1 hy hz,s1⟩⟩;refine z1h (h₀:=X.base) I.ok.mod.kin (hG▸x.kp) (thn pa λ us s1 ⟨vs,H1,I1,r,ev,s1'⟩=>⟨I1.kIn,?_⟩) he hpl;subst ev;refine lN (hG▸x.xc) (hG▸x.hi) (hG▸x.hf) (hG▸x.na) (hG▸x.nb) F (hr.mono hle) (hG▸x.B) I1 r cy λ e dx h1 h2 h3=>?_;have sm:Same H1 (upd (upd H1 dx (.xd [(g,z),(f,y)])) e (excO e x.C (some dx) none)):=λ b u q=>by rw[Al (Aw q h1),Al (Aw q h2)];exact q
  have noA:∀ b,H1 b=none->b∉A:=λ b z q=>((o.mono s1').live b q).ne z;refine k _ _ (s1'.trans sm) (.err (od:=some dx) x.gc (by rw[Bp (noA e h1)];exact Ai) (by show hid A _ dx=_;rw[Bp (noA dx h2),Al h3];exact Ai) ?_);simp[FsV,hy,hz]
end
end PV
namespace EX
open PySem PySem.Spec L2
open PyProof.Rows hiding St
section
variable {R:Addr}
theorem lO {Q:VK}(x:XC X.K C R) (hi:PySem.W.findIn X.K (.ref C) "__init__"=some (some (.builtin "ValueError.__init__"))) (I:Inv X π σ H s) (r:Vals [y] us)
  (h:∀ e,H e=none->Q (.ref e) (upd H e (excO e C none none))):wpAny (model X.prog X.w) X.A (call (.ref C) us) (EP X π σ Q) X.xe s:=by
 obtain⟨u,rfl⟩:∃ u,us=[u]:=by
  cases r with
  | cons a b=>cases b;exact⟨_,rfl⟩
 have I2:=Inv.exc (C:=C) (us:=[u]) I;have hfe:H (s.heap.objs.size+1)=none:=I.hok.fresh (z0Q _);have hq:=h _ hfe;have hus:[u].length<=sizeLine:=by show 1<=sizeLine;decide
 obtain⟨nm,qn,N,bs,bm,hdct,sn,sub,ab,col,dd,k0,k1,k2,k3,k5,hC,T⟩:=Ig I.kIn x.obj;obtain⟨nm',qn',N',bs',bm',hdct',sn',sub',ab',col',dd',k0',k1',k2',k3',k5',hC',T'⟩:=Ig I2.kIn x.obj;have KI:=I.kIn;have F:=z20;have he:(upd H (s.heap.objs.size+1) (excO (s.heap.objs.size+1) C none none)) (s.heap.objs.size+1)=some (excO (s.heap.objs.size+1) C none none):=Ai;obtain⟨⟨o,vs,q1,q2,q3,q4,q5,q6⟩,_⟩:=I2.hok _ _ he;have I3:=I2.kept (h':=((s.heap.push (Ge [u])).push (G6 C s.heap.objs.size)).push { cls:=.type "tuple",data:=.seq [u].toArray }) (t':=s.toks) λ b v z=>z05 _ z;have g1:=z05 (h:=(s.heap.push (Ge [u])).push (G6 C s.heap.objs.size)) { cls:=.type "tuple",data:=.seq [u].toArray } q1;have I4:=Ld (u':=excO (s.heap.objs.size+1) C none none) (i:=0) (v:=.ref ((s.heap.push (Ge [u])).push (G6 C s.heap.objs.size)).objs.size) I3 he trivial g1 q4 λ h' o' r1 r2 r3 r4=>ExcP.ok ⟨o',_,r1,r2.trans q2,r3.trans q3,r4,by simpa using q5,by rw[Array.getElem?_setIfInBounds_ne (by decide)];exact q6⟩;rw[Sv he] at I4;obtain⟨hp,g,d,t,os⟩:=s;have h0:∃ v0,vs[0]?=some v0:=⟨vs[0]'(by omega),by simp⟩;obtain⟨v0,h0⟩:=h0;refine z14 (Su F T hC (PySem.W.looks_findIn KI hi) (λ self=>by rw[F.init.bind];exact .now) (z1C F.init.plain F.initEntry (wpAny_check_init_subT F T' hC' q1 q2 ?_)) hus);unfold Builtin.«BaseException.__init__»;dsimp only;rw[if_neg (by simp)];unfold newTuple Builtin.BaseException.bexcPut;refine z00 (z0R (z00 (z00 (z16 g1 q4 h0 (z00 (z0Y g1 q4 (by omega) ?_))))) (by show 1<=sizeLine;decide));have z:EP X π σ Q (.ref (hp.objs.size+1)) _:=⟨V.ref (hp.objs.size+1),_,I4,rfl,hq⟩;cases v0<;>first | exact wpAny_letGo (z01 ⟨rfl,z⟩) | exact z01 (z01 ⟨rfl,z⟩)
end
end EX
namespace PV
open PySem PySem.Spec L2 EX
open PyProof.Rows hiding St
structure Xx0 (G:Gx) (mg:Str->Option Value) (R:Addr) (cn:Str) where
 C:Addr
 gc:G.xcl cn=some C
 xc:XC G.K C R
 hi:PySem.W.findIn G.K (.ref C) "__init__"=some (some (.builtin "ValueError.__init__"))
 kp:PySem.W.keepIn G.K (.ref C)=true
 m:mg cn=some (.ref C)
def mkE0 (cn:Str) (fa:FE):FE:=λ ρ=>(fa ρ).map λ _=>.err cn []
section
variable {a:Expr}{fa:FE}{np cpos:Pos}{R:Addr}
theorem cP (x:Xx0 G X.mg R cn) (ha:PF X G a fa) (hG:G.K=X.K:=by rfl) (hg:Gl X cn:=by rfl) (hdb:(cn==("__debug__":Str))=false:=by decide) (he:starEach [a] X.env=[(false,eval a X.env)]:=by rfl) (hpl:(backTo cpos (starEach [] X.env)).any (·.1)=false:=by rfl) :
  PF X G (.Call (.Name cn np) [a] [] cpos) (mkE0 cn fa):=by
 rintro A π s σ H Q I ⟨ρ,d,o,e,k⟩
 unfold mkE0 at e;cases e1:fa ρ with
 | none=>simp[e1] at e
 | some d0=>
  rw[e1,z0k] at e;cases e;refine z15 (GF I hg x.m ?_ hdb);have pa:=BZ (@ha A) Cz he cpos π s σ H (λ vs H1=>(∃ y,vs=[y])/\Same H H1) I ⟨ρ,d0,o,e1,λ v H1 s1 r1=>⟨⟨v,rfl⟩,s1⟩⟩;refine z1h (h₀:=X.base) I.ok.mod.kin (hG▸x.kp) (thn pa λ us s1 ⟨vs,H1,I1,r,⟨y,ev⟩,s1'⟩=>⟨I1.kIn,?_⟩) he hpl;subst ev;refine lO (hG▸x.xc) (hG▸x.hi) I1 r λ e h1=>?_;have noA:∀ b,H1 b=none->b∉A:=λ b z q=>((o.mono s1').live b q).ne z;exact k _ _ (s1'.trans (BR h1 _)) (.err (od:=none) (fs:=[]) x.gc (by rw[Bp (noA e h1)];exact Ai) rfl rfl)
end
section
variable {K:zFr}{x:Str}{st:Stmt}{f R:Addr}{kV:Value}{l:List (Str×Addr)}
def xx2 {fn gn:Str}{fi:Addr}(X:K.In h) (N:h.Ns mainGlobals mg) (a:PySem.W.nsIn K mainGlobals x=some (some (.ref f))) (g:l.lookup x=some f) (xc:XC K f R) (hi:PySem.W.findIn K (.ref f) "__init__"=some (some (.ref fi))) (i:PySem.W.isFn K (.ref fi)=true) (kp:PySem.W.keepIn K (.ref f)=true) (na:PySem.W.findIn K (.ref f) fn=some none) (nb:PySem.W.findIn K (.ref f) gn=some none)
  (lk:K.lookup fi=some ⟨oc,od,.func (PySem.W.fnOf "__init__" qual (Cd st) (Bk st) (Ad st) .none kV doc pm an cdv ct),osl⟩) (c:PySem.W.codeIn K cdv qual=true) (k:PySem.W.keepIn K (.ref fi)=true)
  (b:∀ (kV doc pm:Value) (an:Option Addr) (cdv ct:Value) (us:List Value),us.length=ps.length->bindArgs (PySem.W.fnOf "__init__" qual (Cd st) (Bk st) (Ad st) .none kV doc pm an cdv ct) ⟨us,[]⟩=pure (ps.zip us)):Xx2 (gx2 K cn C l) mg R x fn gn qual st ps:=⟨f,fi,_,g,xc,hi,i,kp,na,nb,z10 X N a,Jz lk c k,(Jz lk c k).binds b⟩
def xx0 (X:K.In h) (N:h.Ns mainGlobals mg) (a:PySem.W.nsIn K mainGlobals x=some (some (.ref f))) (g:l.lookup x=some f) (xc:XC K f R) (hi:PySem.W.findIn K (.ref f) "__init__"=some (some (.builtin "ValueError.__init__"))) (kp:PySem.W.keepIn K (.ref f)=true):Xx0 (gx2 K cn C l) mg R x:=⟨f,g,xc,hi,kp,z10 X N a⟩
end
theorem scO {P:List Str}(a:sc.kind=.function:=by rfl) (b:sc.isCoroutine=false:=by rfl) (c:sc.isGenerator=false:=by rfl) (d:N.Nodup:=by decide +kernel) (e:N.take P.length=P:=by rfl)
  (f:∀ x∈P,sc.names.lookup x=some .local ∨sc.names.lookup x=some .cell :=by decide +kernel) (g:∀ y∈sc.names,y.2≠.free :=by decide +kernel):FnScope N P sc:=⟨a,b,c,d,e,f,g⟩
theorem pav {es:List Expr}{fs:FA}{x:Str}{px:Pos}(i:Nat) (h:PFA X G es fs) (hN:X.N[i]?=some x:=by rfl) (hv:Vis X.env.scope x:=by first | exact Or.inl rfl | exact Or.inr (Or.inl rfl) | exact Or.inr (Or.inr rfl)) (hd:(x==("__debug__":Str))=false:=by decide) (hcd:(x==("__classdict__":Str))=false:=by decide):PFA X G (.Name x px::es) (Aa (vF i) fs):=Ag (vr i hN hv hd hcd) h Rg
section
variable {K:zFr}{x:Str}{R f:Addr}{l:List (Str×Addr)}{cs:List Str}{cv:List Value}
def xcB (K:zFr) (R C:Addr):Bool:=excX K C&&decide (PySem.W.findIn K (.ref C) "__setattr__"=some (some (.builtin "object.__setattr__")))&&decide (PySem.W.findIn K (.ref C) "__getattribute__"=some (some (.builtin "BaseException.__getattribute__")))&&decide (PySem.W.findIn K (.ref C) "__getattr__"=some none) &&
 (PySem.W.clsIn K C).any (λ cd=>cd.mro==[.ref C,.ref R,.type "ValueError",.type "Exception",.type "BaseException",.type "object"]&&cd.hasDict)&&decide (PySem.W.findIn K (.ref C) "__class__"=some (some (.builtin "object.__class__")))
def xtB (K:zFr) (R:Addr) (l:List (Str×Addr)):Bool:=l.all (λ p=>xcB K R p.2)&&decide (PySem.W.specialIn K (.builtin "object.__class__") "__get__"=some (some (.builtin "getset_descriptor.__get__")))&&decide (PySem.W.takesIn K (.builtin "object.__class__")=some true)
theorem cQ (e:xtB K R l=true):∀ p∈l,XC K p.2 R/\XK2 K p.2:=λ p hp=>by
 unfold xtB at e;simp only[z0x,z0L,z1Q] at e;obtain⟨⟨e1,e2⟩,e3⟩:=e;have q:=e1 p hp;unfold xcB at q;simp only[z0x,z1Q] at q;obtain⟨⟨⟨⟨⟨q1,q2⟩,q3⟩,q4⟩,q5⟩,q6⟩:=q;exact⟨⟨q1,q2,q3,q4,q5⟩,⟨q6,e2,e3⟩⟩
theorem S7 (e:xtB K R l=true) (g:l.lookup x=some f):XC K f R:=(S6 (P:=λ C=>XC K C R/\XK2 K C) (cQ e) g).1
theorem qX (X:K.In h) (e:xtB K R l=true):XT (gx2 K cn C l) cs R:=vO X (cQ e)
theorem Ih (X:K.In h) (e:kitB K l cv ns=true):Kit (gx2 K cn C l) cs cv ns:=by
 unfold kitB at e;simp only[z0x,z1k,List.all_nil,z0L,z0N,and_true] at e;obtain⟨⟨e1,e2,e3,e4⟩,e5⟩:=e;exact qO X e1 e2 e3 e4 e5
def naB (K:zFr) (x:Str) (l:List (Str×Addr)):Bool:=l.all λ p=>decide (PySem.W.findIn K (.ref p.2) x=some none)
theorem Ls (X:K.In h) (e:naB K x l=true):∀ c C',cs.contains c=true->(gx2 K cn C l).xcl c=some C'->BX (gx2 K cn C l).K C' x:=vP X λ p hp=>by
 unfold naB at e;rw[z0L] at e;exact z1y (e p hp)
end
theorem sI {α:Type}{us:List α}(h:us.length=1):∃ a,us=[a]:=by
 cases us with
 | nil=>cases h
 | cons a r=>exact⟨a,by rw[List.eq_nil_of_length_eq_zero (Nat.succ.inj h)]⟩
theorem sJ {α:Type}{us:List α}(h:us.length=2):∃ a b,us=[a,b]:=by
 cases us with
 | nil=>cases h
 | cons z r=>
  obtain⟨a,rfl⟩:=sI (Nat.succ.inj h);exact⟨z,a,rfl⟩
theorem lQ {α:Type}{us:List α}(h:us.length=3):∃ a b c,us=[a,b,c]:=by
 cases us with
 | nil=>cases h
 | cons z r=>
  obtain⟨a,b,rfl⟩:=sJ (Nat.succ.inj h);exact⟨z,a,b,rfl⟩
theorem sO {α:Type}{us:List α}(h:us.length=4):∃ a b c d,us=[a,b,c,d]:=by
 cases us with
 | nil=>cases h
 | cons z r=>
  obtain⟨a,b,c,rfl⟩:=lQ (Nat.succ.inj h);exact⟨z,a,b,c,rfl⟩
theorem xN {α:Type}{us:List α}(h:us.length=5):∃ a b c d e,us=[a,b,c,d,e]:=by
 cases us with
 | nil=>cases h
 | cons z r=>
  obtain⟨a,b,c,d,rfl⟩:=sO (Nat.succ.inj h);exact⟨z,a,b,c,d,rfl⟩
end PV
namespace K16
open PySem PySem.Spec L2 PV EX
open PyProof.Rows hiding St
noncomputable section
abbrev cs_:List Str:=["NoWord","NoThing","NoName","TooGreat","NoSaying","Unlike","NoPointing"]
def c_KEPT_TEXTS:D:=(.tup ((["not","and","or","some","all"]:List Str).map .str))
def c_FACTS:D:=(.tup ((["mark","tie","same"]:List Str).map .str))
def c_BINDERS:D:=(.tup ((["some","all"]:List Str).map .str))
noncomputable def Eg:FS:=seqF (setF 3 (bF addD (vF 3) (bF ixD (vF 1) (bF modD (bF Dt (vF 2) (kF (.int 7))) (kF (.int 26)))))) (setF 2 (bF Dt (vF 2) (kF (.int 11))))
noncomputable def Ii:FE:=bF addD (bF addD (slF (vF 3) (noO) (someO (vF 5))) (bF ixD (vF 1) (bF modD (bF addD (bF Dt (vF 2) (kF (.int 5))) (bF mulD (kF (.int 5)) (vF 7))) (kF (.int 26))))) (slF (vF 3) (someO (vF 5)) (noO))
def Ij:FE:=bF ixD (vF 1) (bF modD (bF Dt (vF 2) (bF addD (kF (.int 3)) (bF mulD (vF 7) (vF 7)))) (kF (.int 26)))
def Ik:FE:=slF (vF 3) (noO) (someO (bF addD (vF 7) (kF (.int 1))))
noncomputable def Bw:FT:=blF (bF (inD false) (vF 7) (lstF (Aa (kF (.str "not")) (Aa (kF (.str "and")) (Aa (kF (.str "or")) (Aa (kF (.str "some")) (Aa (kF (.str "all")) (nilA))))))))
def Cu:FE:=vF 7
def Eh:FE:=bF addD (kF (.str "z")) (vF 7)
noncomputable def Es:FS:=seqF (setF 1 (kF (.str "abcdefghijklmnopqrstuvwxyz"))) (seqF (setF 2 (bF modD (bF mulD (vF 0) (kF (.int 1000000007))) (bF powD (kF (.int 10)) (kF (.int 18))))) (seqF (setF 3 (kF (.str ""))) (seqF (forS (rngI (bF modD (vF 2) (kF (.int 7)))) (CT 4) (Eg)) (seqF (setF 5 (bF modD (bF Dt (vF 2) (kF (.int 7))) (bF addD (uF lenD (vF 3)) (kF (.int 1))))) (seqF (setF 6 (BJ (rngI (kF (.int 6))) (allT) (Ii))) (seqF (ifS (blF (bF (eqD false) (bF modD (vF 2) (kF (.int 3))) (kF (.int 0)))) (seqF (setF 3 (bF aH (kF (.str "")) (BJ (rngI (kF (.int 6))) (allT) (Ij)))) (setF 6 (BJ (rngI (kF (.int 6))) (allT) (Ik)))) (nxF)) (seqF (ifS (blF (bF gtD (uF lenD (BJ (seqI (vF 6)) (Bw) (Cu))) (kF (.int 0)))) (retF (BJ (seqI (vF 6)) (allT) (Eh))) (nxF)) (retF (vF 6)))))))))
def Dp:List D->Option D:=runF 7 1 Es
noncomputable def Gg:FT:=blF (bF (eqD false) (bF MN (bF shrD (vF 3) (bF addD (bF mulD (kF (.int 5)) (vF 6)) (vF 10))) (kF (.int 1))) (kF (.int 1)))
def K3:FE:=vF 10
def Ei:FS:=putF 5 (bF ixE (vF 2) (vF 6)) (BJ (rngI (vF 4)) (Gg) (K3))
noncomputable def Gh:FT:=blF (bF (eqD false) (bF MN (bF shrD (vF 3) (bF addD (bF addD (bF addD (kF (.int 15)) (bF mulD (kF (.int 25)) (vF 6))) (bF mulD (kF (.int 5)) (vF 9))) (vF 10))) (kF (.int 1))) (kF (.int 1)))
def Il:FE:=tupF (Aa (vF 9) (Aa (vF 10) (nilA)))
def Gi:FS:=setF 8 (bF addD (vF 8) (BJ (rngI (vF 4)) (Gh) (Il)))
noncomputable def Dk:FS:=seqF (setF 8 (lstF (nilA))) (seqF (forS (rngI (vF 4)) (CT 9) (Gi)) (putF 7 (bF ixE (vF 2) (bF subD (kF (.int 5)) (vF 6))) (vF 8)))
noncomputable def Hs:FS:=seqF (setF 3 (bF modD (bF mulD (vF 1) (kF (.int 27182818284590452353602874713526624977572470936999595749669))) (bF shlD (kF (.int 1)) (kF (.int 90))))) (seqF (ifS (blF (bF (eqD false) (bF modD (vF 0) (kF (.int 3))) (kF (.int 2)))) (setF 3 (bF modD (vF 1) (bF shlD (kF (.int 1)) (kF (.int 90))))) (nxF)) (seqF (setF 0 (bF modD (bF mulD (bF Dt (vF 0) (kF (.int 3))) (kF (.int 1000000007))) (kF (.int 2147483647)))) (seqF (setF 4 (bF modD (vF 0) (kF (.int 6)))) (seqF (setW 5 (kF (.dk []))) (seqF (forS (rngI (bF modD (bF Dt (vF 0) (kF (.int 6))) (kF (.int 4)))) (CT 6) (Ei)) (seqF (setW 7 (kF (.dk []))) (seqF (forS (rngI (bF modD (bF Dt (vF 0) (kF (.int 24))) (kF (.int 4)))) (CT 6) (Dk)) (fzS [5,7] (retF (lstF (Aa (vF 4) (Aa (vF 5) (Aa (vF 7) (nilA))))))))))))))
def Et:List D->Option D:=runF 10 3 Hs
noncomputable def Im:FE:=bF ixD (vF 1) (bF modD (bF addD (bF modD (vF 0) (kF (.int 26))) (bF mulD (bF addD (kF (.int 7)) (bF mulD (bF modD (bF Dt (vF 0) (kF (.int 26))) (kF (.int 2))) (kF (.int 2)))) (vF 2))) (kF (.int 26)))
def J9:FS:=seqF (setF 1 (kF (.str "abcdefghijklmnopqrstuvwxyz"))) (retF (BJ (rngI (kF (.int 3))) (allT) (Im)))
def Ht:List D->Option D:=runF 2 1 J9
def JH:FS:=seqF (ifS (blF (bF ltD (vF 1) (uF lenD (vF 0)))) (retF (bF ixD (vF 0) (vF 1))) (nxF)) (retF (kF (.int 0)))
def BW:List D->Option D:=runF 2 2 JH
noncomputable def BP:FS:=seqF (setF 6 (bF modD (bF Dt (vF 0) (bF ixE (lstF (Aa (kF (.int 1)) (Aa (kF (.int 11)) (Aa (kF (.int 121)) (nilA))))) (vF 5))) (kF (.int 11)))) (seqF (setF 7 (bF modD (bF mulD (bF Dt (vF 0) (bF ixE (lstF (Aa (kF (.int 1)) (Aa (kF (.int 11)) (Aa (kF (.int 121)) (nilA))))) (vF 5))) (kF (.int 48271))) (bF maxD (vF 3) (kF (.int 1))))) (seqF (ifS (andT (blF (bF (eqD false) (bF modD (bF Dt (vF 1) (kF (.int 2))) (kF (.int 2))) (kF (.int 1)))) (blF (bF gtD (vF 6) (kF (.int 4))))) (setF 7 (bF ixE (lstF (Aa (kF (.int 0)) (Aa (kF (.int 1)) (Aa (kF (.int 2)) (Aa (kF (.int 3)) (Aa (kF (.int 4)) (Aa (kF (.int 5)) (Aa (kF (.int 6)) (Aa (kF (.int 7)) (Aa (vF 3) (Aa (bF addD (bF powD (kF (.int 10)) (kF (.int 40))) (bF modD (vF 0) (bF powD (kF (.int 10)) (kF (.int 40))))) (Aa (bF subD (uF negD (kF (.int 1))) (bF modD (vF 0) (bF powD (kF (.int 10)) (kF (.int 40))))) (nilA))))))))))))) (vF 6))) (nxF)) (ifS (orT (blF (bF (eqD false) (bF modD (vF 1) (kF (.int 2))) (kF (.int 0)))) (blF (bF gtD (bF modD (vF 6) (kF (.int 3))) (kF (.int 0))))) (putF 4 (bF ixE (vF 2) (vF 5)) (vF 7)) (nxF))))
def Jc:FS:=seqF (setW 4 (kF (.dk []))) (seqF (forS (rngI (kF (.int 3))) (CT 5) (BP)) (fzS [4] (retF (vF 4))))
def HN:List D->Option D:=runF 8 4 Jc
def Io:FS:=ifS (blF (bF gtD (vF 0) (vF 1))) (badF) (nxF)
def Bx:List D->Option D:=runF 2 2 Io
noncomputable def DQ:FS:=ifS (orT (blF (bF ltD (vF 1) (kF (.int 0)))) (blF (bF geD (vF 1) (vF 0)))) (retF (excF "NoThing" "thing" okID (vF 1))) (nxF)
def Az:List D->Option D:=runF 2 2 DQ
def Fj:FS:=seqF (JB (An (noX (Az)) (Aa (vF 0) (Aa (vF 3) (nilA))))) (putF 2 (vF 3) (kF (.bl true)))
def Jd:FS:=seqF (setW 2 (kF (.dk []))) (seqF (forS (seqA (vF 1)) (CT 3) (Fj)) (fzS [2] (retF (vF 2))))
def Dw:List D->Option D:=runF 4 2 Jd
noncomputable def Gj:FS:=seqF (JB (An (noX (Az)) (Aa (vF 0) (Aa (vF 3) (nilA))))) (seqF (JB (An (noX (Az)) (Aa (vF 0) (Aa (vF 4) (nilA))))) (Xw 2 (Aa (vF 3) (Aa (vF 4) (nilA))) (kF (.bl true))))
noncomputable def J_:FS:=seqF (setW 2 (kF (.dt []))) (seqF (forS (seqA (vF 1)) (tupG 2 (Cy 3 (Cy 4 (nilG)))) (Gj)) (fzS [2] (retF (vF 2))))
def Eu:List D->Option D:=runF 5 2 J_
def Hh:FE:=bF (inF false) (vF 1) (kF (.str "abcdefghijklmnopqrstuvwxyz"))
noncomputable def QG:FS:=seqF (ifS (orT (blF (bF (inF false) (vF 0) (kF c_KEPT_TEXTS))) (orT (blF (bF (eqD false) (uF lenE (vF 0)) (kF (.int 0)))) (blF (bF gtD (uF lenE (vF 0)) (kF (.int 8)))))) (retF (kF (.bl false))) (nxF)) (retF (uF allD (BJ (seqA (vF 0)) (allT) (Hh))))
def Ew:List D->Option D:=runF 1 1 QG
noncomputable def Cv:FEs:=Ib (ifE (SN (notT (trF (An (Ew) (Aa (vF 4) (nilA))))))) (Qj "marked" (vF 4) (An (Dw) (Aa (vF 1) (Aa (vF 5) (nilA)))))
noncomputable def Cw:FEs:=Ib (ifE (orTE (SN (notT (trF (An (Ew) (Aa (vF 4) (nilA)))))) (inTE "marked" (vF 4)))) (Qj "tied" (vF 4) (An (Eu) (Aa (vF 1) (Aa (vF 6) (nilA)))))
noncomputable def G8:FEs:=Ib (pureE (JB (An (Bx) (Aa (vF 1) (Aa (kF (.int 5)) (nilA)))))) (Ib (pureE (JB (An (Bx) (Aa (uF lenE (vF 2)) (Aa (kF (.int 3)) (nilA)))))) (Ib (pureE (JB (An (Bx) (Aa (uF lenE (vF 3)) (Aa (kF (.int 3)) (nilA)))))) (Ib (bO "size" (vF 1)) (Ib (Qi "marked" (kF (.dk []))) (Ib (Qi "tied" (kF (.dk []))) (Ib (forE (Mu (vF 2)) (tupG 2 (Cy 4 (Cy 5 (nilG)))) (Cv)) (Ib (forE (Mu (vF 3)) (tupG 2 (Cy 4 (Cy 6 (nilG)))) (Cw)) (nilE))))))))
def Dl:Addr->List D->Option Ef:=runI 7 4 G8
def Fq (rec__law_bad_words:List D->Option D):FT:=blF (bF (inF true) (vF 3) (vF 1))
def Ft (rec__law_bad_words:List D->Option D):FE:=vF 3
def Fv (rec__law_bad_words:List D->Option D):FT:=blF (bF (inF true) (vF 3) (vF 2))
def Fw (rec__law_bad_words:List D->Option D):FE:=vF 3
noncomputable def Ba (rec__law_bad_words:List D->Option D):FS:=seqF (ifS (blF (bF (eqD false) (bF ixE (vF 0) (kF (.int 0))) (kF (.str "mark")))) (retF (BJ (seqA (lstF (Aa (bF ixE (vF 0) (kF (.int 1))) (nilA)))) ((Fq rec__law_bad_words)) ((Ft rec__law_bad_words)))) (nxF)) (seqF (ifS (blF (bF (eqD false) (bF ixE (vF 0) (kF (.int 0))) (kF (.str "tie")))) (retF (BJ (seqA (lstF (Aa (bF ixE (vF 0) (kF (.int 1))) (nilA)))) ((Fv rec__law_bad_words)) ((Fw rec__law_bad_words)))) (nxF)) (seqF (ifS (blF (bF (eqD false) (bF ixE (vF 0) (kF (.int 0))) (kF (.str "same")))) (retF (lstF (nilA))) (nxF)) (seqF (ifS (blF (bF (eqD false) (bF ixE (vF 0) (kF (.int 0))) (kF (.str "not")))) (retF (An (rec__law_bad_words) (Aa (bF ixE (vF 0) (kF (.int 1))) (Aa (vF 1) (Aa (vF 2) (nilA)))))) (nxF)) (seqF (ifS (orT (blF (bF (eqD false) (bF ixE (vF 0) (kF (.int 0))) (kF (.str "both")))) (blF (bF (eqD false) (bF ixE (vF 0) (kF (.int 0))) (kF (.str "either"))))) (retF (bF addD (An (rec__law_bad_words) (Aa (bF ixE (vF 0) (kF (.int 1))) (Aa (vF 1) (Aa (vF 2) (nilA))))) (An (rec__law_bad_words) (Aa (bF ixE (vF 0) (kF (.int 2))) (Aa (vF 1) (Aa (vF 2) (nilA))))))) (nxF)) (retF (An (rec__law_bad_words) (Aa (bF ixE (vF 0) (kF (.int 2))) (Aa (vF 1) (Aa (vF 2) (nilA))))))))))
def Ay:Nat->List D->Option D
 | 0=>λ _=>none
 | n+1=>runF 3 3 (Ba (Ay n))
def Dy (rec__law_free:List D->Option D):FT:=blF (bF (eqD true) (vF 1) (bF ixD (vF 0) (kF (.int 1))))
def HQ (rec__law_free:List D->Option D):FE:=vF 1
noncomputable def Ej (rec__law_free:List D->Option D):FS:=seqF (ifS (orT (blF (bF (eqD false) (bF ixD (vF 0) (kF (.int 0))) (kF (.str "mark")))) (blF (bF (eqD false) (bF ixD (vF 0) (kF (.int 0))) (kF (.str "tie"))))) (retF (uF Us (slF (vF 0) (someO (kF (.int 2))) (noO)))) (nxF)) (seqF (ifS (blF (bF (eqD false) (bF ixD (vF 0) (kF (.int 0))) (kF (.str "same")))) (retF (uF Us (slF (vF 0) (someO (kF (.int 1))) (noO)))) (nxF)) (seqF (ifS (blF (bF (eqD false) (bF ixD (vF 0) (kF (.int 0))) (kF (.str "not")))) (retF (An (rec__law_free) (Aa (bF ixD (vF 0) (kF (.int 1))) (nilA)))) (nxF)) (seqF (ifS (orT (blF (bF (eqD false) (bF ixD (vF 0) (kF (.int 0))) (kF (.str "both")))) (blF (bF (eqD false) (bF ixD (vF 0) (kF (.int 0))) (kF (.str "either"))))) (retF (bF addD (An (rec__law_free) (Aa (bF ixD (vF 0) (kF (.int 1))) (nilA))) (An (rec__law_free) (Aa (bF ixD (vF 0) (kF (.int 2))) (nilA))))) (nxF)) (retF (BJ (seqI (An (rec__law_free) (Aa (bF ixD (vF 0) (kF (.int 2))) (nilA)))) ((Dy rec__law_free)) ((HQ rec__law_free)))))))
def Bb:Nat->List D->Option D
 | 0=>λ _=>none
 | n+1=>runF 1 1 (Ej (Bb n))
def Gk:FT:=blF (bF (inF true) (vF 9) (vF 1))
def Gm:FE:=vF 9
def Ex:FT:=orT (blF (bF ltD (bF ixE (vF 1) (vF 9)) (kF (.int 0)))) (blF (bF geD (bF ixE (vF 1) (vF 9)) (vF 2)))
def Ey:FE:=bF ixE (vF 1) (vF 9)
noncomputable def G9:FS:=seqF (setF 5 (uF ssD (An (Bb 60) (Aa (vF 0) (nilA))))) (seqF (setF 6 (BJ (seqA (vF 5)) (Gk) (Gm))) (seqF (ifS (blF (bF (eqD true) (vF 6) (lstF (nilA)))) (retF (lstF (Aa (kF (.str "name")) (Aa (bF ixE (vF 6) (kF (.int 0))) (nilA))))) (nxF)) (seqF (setF 7 (BJ (seqA (vF 5)) (Ex) (Ey))) (seqF (ifS (blF (bF (eqD true) (vF 7) (lstF (nilA)))) (retF (lstF (Aa (kF (.str "thing")) (Aa (bF ixE (vF 7) (kF (.int 0))) (nilA))))) (nxF)) (seqF (setF 8 (An (Ay 60) (Aa (vF 0) (Aa (vF 3) (Aa (vF 4) (nilA)))))) (seqF (ifS (blF (bF (eqD true) (vF 8) (lstF (nilA)))) (retF (lstF (Aa (kF (.str "word")) (Aa (bF ixE (vF 8) (kF (.int 0))) (nilA))))) (nxF)) (retF (lstF (nilA)))))))))
def Ek:List D->Option D:=runF 9 5 G9
noncomputable def El:FS:=seqF (setF 4 (bF ixD (vF 3) (bF modD (bF Dt (vF 0) (kF (.int 3))) (kF (.int 3))))) (seqF (setF 5 (bF ixD (vF 3) (bF modD (bF Dt (vF 0) (kF (.int 9))) (kF (.int 3))))) (seqF (ifS (andT (blF (bF (eqD false) (bF modD (vF 0) (kF (.int 3))) (kF (.int 1)))) (blF (bF (eqD true) (vF 1) (lstF (nilA))))) (retF (tupF (Aa (kF (.str "mark")) (Aa (bF ixD (vF 1) (bF modD (bF Dt (vF 0) (kF (.int 27))) (uF lenD (vF 1)))) (Aa (vF 4) (nilA)))))) (nxF)) (seqF (ifS (andT (blF (bF (eqD false) (bF modD (vF 0) (kF (.int 3))) (kF (.int 2)))) (blF (bF (eqD true) (vF 2) (lstF (nilA))))) (retF (tupF (Aa (kF (.str "tie")) (Aa (bF ixD (vF 2) (bF modD (bF Dt (vF 0) (kF (.int 27))) (uF lenD (vF 2)))) (Aa (vF 4) (Aa (vF 5) (nilA))))))) (nxF)) (retF (tupF (Aa (kF (.str "same")) (Aa (vF 4) (Aa (vF 5) (nilA)))))))))
def DR:List D->Option D:=runF 6 4 El
noncomputable def Bd:FS:=seqF (setF 7 (bF modD (bF mulD (bF Dt (vF 6) (kF (.int 8))) (kF (.int 1000000007))) (kF (.int 2147483647)))) (seqF (setF 8 (bF ixE (vU 5) (uF negD (kF (.int 1))))) (ifS (andT (blF (bF gtD (bF modD (vF 6) (kF (.int 8))) (kF (.int 5)))) (blF (bF ltD (bF ixE (vF 8) (kF (.int 1))) (vF 4)))) (Sq 5 (uF negD (kF (.int 1))) (lstF (Aa (tupF (Aa (bF ixE (lstF (Aa (kF (.str "some")) (Aa (kF (.str "all")) (nilA)))) (bF modD (vF 7) (kF (.int 2)))) (Aa (bF ixE (vF 3) (bF modD (bF Dt (vF 7) (kF (.int 2))) (kF (.int 3)))) (Aa (bF ixE (vF 8) (kF (.int 0))) (nilA))))) (Aa (bF addD (bF ixE (vF 8) (kF (.int 1))) (kF (.int 1))) (nilA))))) (ifS (blF (bF (eqD false) (bF modD (vF 6) (kF (.int 8))) (kF (.int 5)))) (Sq 5 (uF negD (kF (.int 1))) (lstF (Aa (tupF (Aa (kF (.str "not")) (Aa (bF ixE (vF 8) (kF (.int 0))) (nilA)))) (Aa (bF ixE (vF 8) (kF (.int 1))) (nilA))))) (ifS (andT (blF (bF gtD (bF modD (vF 6) (kF (.int 8))) (kF (.int 2)))) (blF (bF gtD (uF lenE (vU 5)) (kF (.int 1))))) (seqF (popF 5) (Sq 5 (uF negD (kF (.int 1))) (lstF (Aa (tupF (Aa (bF ixE (lstF (Aa (kF (.str "both")) (Aa (kF (.str "either")) (nilA)))) (bF modD (vF 7) (kF (.int 2)))) (Aa (bF ixE (bF ixE (vU 5) (uF negD (kF (.int 1)))) (kF (.int 0))) (Aa (bF ixE (vF 8) (kF (.int 0))) (nilA))))) (Aa (bF maxD (bF ixE (bF ixE (vU 5) (uF negD (kF (.int 1)))) (kF (.int 1))) (bF ixE (vF 8) (kF (.int 1)))) (nilA)))))) (mutF appL 5 (lstF (Aa (An (DR) (Aa (vF 7) (Aa (vF 1) (Aa (vF 2) (Aa (vF 3) (nilA)))))) (Aa (kF (.int 0)) (nilA)))))))))
def Dm:FT:=blF (bF gtD (uF lenE (vU 5)) (kF (.int 1)))
noncomputable def Gn:FS:=seqF (popT 5 8) (Sq 5 (uF negD (kF (.int 1))) (lstF (Aa (tupF (Aa (bF ixE (lstF (Aa (kF (.str "either")) (Aa (kF (.str "both")) (nilA)))) (bF modD (uF lenE (vU 5)) (kF (.int 2)))) (Aa (bF ixE (bF ixE (vU 5) (uF negD (kF (.int 1)))) (kF (.int 0))) (Aa (bF ixE (vF 8) (kF (.int 0))) (nilA))))) (Aa (bF maxD (bF ixE (bF ixE (vU 5) (uF negD (kF (.int 1)))) (kF (.int 1))) (bF ixE (vF 8) (kF (.int 1)))) (nilA)))))
noncomputable def KC:FS:=seqF (setW 5 (lstF (Aa (lstF (Aa (An (DR) (Aa (uF lenE (vF 0)) (Aa (vF 1) (Aa (vF 2) (Aa (vF 3) (nilA)))))) (Aa (kF (.int 0)) (nilA)))) (nilA)))) (seqF (forS (seqA (vF 0)) (CT 6) (Bd)) (seqF (JT (Dm) (Gn) 60) (retF (bF ixE (vU 5) (kF (.int 0))))))
def Gp:List D->Option D:=runF 9 5 KC
noncomputable def Fz:FS:=seqF (ifS (orT (blF (uF (isND false) (vF 0))) (blF (bF (eqD false) (vF 1) (lstF (nilA))))) (retF (andF (uF (isND false) (vF 0)) (bF (eqD false) (vF 1) (lstF (nilA))))) (nxF)) (seqF (ifS (orT (notT (trF (uF (isxD cs_ cs_) (vF 0)))) (trF (uF (isxD cs_ ["NoPointing","NoSaying","TooGreat","Unlike"]) (vF 0)))) (retF (kF (.bl false))) (nxF)) (seqF (ifS (trF (uF (isxD cs_ ["NoName"]) (vF 0))) (retF (andF (notF (uF (isxD cs_ ["NoThing","NoWord"]) (vF 0))) (bF (eqD false) (vF 1) (lstF (Aa (kF (.str "name")) (Aa (uF (fldE cs_ "name") (vF 0)) (nilA))))))) (nxF)) (seqF (ifS (trF (uF (isxD cs_ ["NoThing"]) (vF 0))) (retF (andF (notF (uF (isxD cs_ ["NoWord"]) (vF 0))) (bF (eqD false) (vF 1) (lstF (Aa (kF (.str "thing")) (Aa (uF (fldE cs_ "thing") (vF 0)) (nilA))))))) (nxF)) (retF (andF (uF (isxD cs_ ["NoWord"]) (vF 0)) (bF (eqD false) (vF 1) (lstF (Aa (kF (.str "word")) (Aa (uF (fldE cs_ "word") (vF 0)) (nilA))))))))))
def CG:List D->Option D:=runF 2 2 Fz
noncomputable def K4:FS:=seqF (ifS (orT (blF (bF (eqD true) (uF (fldE cs_ "thing") (mkE "NoThing" "thing" okID (vF 0))) (vF 0))) (orT (blF (bF (eqD true) (uF (fldE cs_ "name") (mkE "NoName" "name" okSD (kF (.str "x")))) (kF (.str "x")))) (blF (bF (eqD true) (uF (fldE cs_ "word") (mkE "NoWord" "word" okSD (kF (.str "red")))) (kF (.str "red")))))) (retF (kF (.bl false))) (nxF)) (seqF (setF 1 (mkE2 "TooGreat" "number" "most" (Aa (vF 0) (Aa (kF (.int 5)) (nilA))))) (seqF (ifS (orT (blF (bF (eqD true) (uF (fldE cs_ "number") (vF 1)) (vF 0))) (orT (blF (bF (eqD true) (uF (fldE cs_ "most") (vF 1)) (kF (.int 5)))) (blF (bF (eqD true) (uF (fldE cs_ "line") (mkE "NoSaying" "line" okSD (kF (.str "x=")))) (kF (.str "x=")))))) (retF (kF (.bl false))) (nxF)) (retF (andF (uF (isxD cs_ cs_) (mkE0 "Unlike" (kF (.str "so")))) (uF (isxD cs_ cs_) (mkE0 "NoPointing" (kF (.str "so"))))))))
def JK:List D->Option D:=runF 2 1 K4
noncomputable def KD:FS:=seqF (ifS (blF (bF (inF false) (bF ixE (vF 0) (kF (.int 0))) (kF c_FACTS))) (retF (tupF (nilA))) (nxF)) (seqF (ifS (blF (bF (inF false) (bF ixE (vF 0) (kF (.int 0))) (kF c_BINDERS))) (retF (slF (vF 0) (someO (kF (.int 2))) (noO))) (nxF)) (retF (slF (vF 0) (someO (kF (.int 1))) (noO))))
def CW:List D->Option D:=runF 1 1 KD
noncomputable def Ip:FS:=seqF (ifS (blF (bF (eqD false) (bF ixE (vF 0) (kF (.int 0))) (kF (.str "same")))) (retF (slF (vF 0) (someO (kF (.int 1))) (noO))) (nxF)) (retF (slF (vF 0) (someO (kF (.int 2))) (noO)))
def Fx:List D->Option D:=runF 1 1 Ip
def Gq (rec_free_names:List D->Option D):FS:=mutF extL 1 (An (rec_free_names) (Aa (vF 2) (nilA)))
def Em (rec_free_names:List D->Option D):FT:=blF (bF (eqD true) (vF 3) (bF ixE (vF 0) (kF (.int 1))))
def Ir (rec_free_names:List D->Option D):FE:=vF 3
noncomputable def Ez (rec_free_names:List D->Option D):FS:=seqF (ifS (blF (bF (inF false) (bF ixE (vF 0) (kF (.int 0))) (kF c_FACTS))) (retF (uF ssD (An (Fx) (Aa (vF 0) (nilA))))) (nxF)) (seqF (setW 1 (lstF (nilA))) (seqF (forS (seqA (An (CW) (Aa (vF 0) (nilA)))) (CT 2) ((Gq rec_free_names))) (seqF (ifS (blF (bF (inF false) (bF ixE (vF 0) (kF (.int 0))) (kF c_BINDERS))) (setW 1 (BJ (seqI (vU 1)) ((Em rec_free_names)) ((Ir rec_free_names)))) (nxF)) (retF (uF ssD (vU 1))))))
def Bf:Nat->List D->Option D
 | 0=>λ _=>none
 | n+1=>runF 3 1 (Ez (Bf n))
def Av:FS:=ifS (blF (bF (inF true) (vF 3) (vF 2))) (retF (excF "NoName" "name" okSD (vF 3))) (nxF)
def BL:FS:=Mf (An (Az) (Aa (uF (fldD "size") (vF 0)) (Aa (bF ixE (vF 2) (vF 3)) (nilA))))
def DW:FS:=seqF (forS (seqA (vF 1)) (CT 3) (Av)) (forS (seqA (vF 1)) (CT 3) (BL))
def Bl:List D->Option D:=runF 4 3 DW
noncomputable def Ao (rec_refuse_strange_words:List D->Option D):FS:=Mf (An (rec_refuse_strange_words) (Aa (vF 0) (Aa (vF 2) (nilA))))
noncomputable def Aj (rec_refuse_strange_words:List D->Option D):FS:=seqF (ifS (andT (blF (bF (eqD false) (bF ixE (vF 1) (kF (.int 0))) (kF (.str "mark")))) (blF (bF (inF true) (bF ixE (vF 1) (kF (.int 1))) (uF (fldD "marked") (vF 0))))) (retF (excF "NoWord" "word" okSD (bF ixE (vF 1) (kF (.int 1))))) (nxF)) (seqF (ifS (andT (blF (bF (eqD false) (bF ixE (vF 1) (kF (.int 0))) (kF (.str "tie")))) (blF (bF (inF true) (bF ixE (vF 1) (kF (.int 1))) (uF (fldD "tied") (vF 0))))) (retF (excF "NoWord" "word" okSD (bF ixE (vF 1) (kF (.int 1))))) (nxF)) (forS (seqA (An (CW) (Aa (vF 1) (nilA)))) (CT 2) ((Ao rec_refuse_strange_words))))
def Ac:Nat->List D->Option D
 | 0=>λ _=>none
 | n+1=>runF 3 2 (Aj (Ac n))
def Gr:FE:=tupF (Aa (vF 2) (Aa (vF 2) (nilA)))
def KH:FE:=tupF (Aa (vF 2) (Aa (vF 2) (nilA)))
noncomputable def Iu:FS:=seqF (ifS (blF (bF (eqD false) (bF ixE (vF 1) (kF (.int 0))) (kF (.str "mark")))) (retF (BJ (seqA (bF ixE (uF (fldD "marked") (vF 0)) (bF ixE (vF 1) (kF (.int 1))))) (allT) (Gr))) (nxF)) (seqF (ifS (blF (bF (eqD false) (bF ixE (vF 1) (kF (.int 0))) (kF (.str "same")))) (retF (BJ (rngI (uF (fldD "size") (vF 0))) (allT) (KH))) (nxF)) (retF (uF Qk (bF ixE (uF (fldD "tied") (vF 0)) (bF ixE (vF 1) (kF (.int 1)))))))
def G_:List D->Option D:=runF 2 2 Iu
def Gs:FS:=setF 6 (bF borD (vF 6) (bF MN (bF ixE (vF 4) (vF 7)) (bF ixE (vF 5) (vF 8))))
noncomputable def KJ:FS:=seqF (setF 3 (An (Fx) (Aa (vF 1) (nilA)))) (seqF (setF 4 (bF ixE (vF 2) (bF ixE (vF 3) (kF (.int 0))))) (seqF (setF 5 (bF ixE (vF 2) (bF ixE (vF 3) (uF negD (kF (.int 1)))))) (seqF (setF 6 (kF (.int 0))) (seqF (forS (seqA (An (G_) (Aa (vF 0) (Aa (vF 1) (nilA))))) (tupG 2 (Cy 7 (Cy 8 (nilG)))) (Gs)) (retF (vF 6))))))
def Hu:List D->Option D:=runF 9 3 KJ
def Hv:FS:=setF 3 (bF borD (bF shlD (vF 3) (vF 1)) (vF 0))
def Mz:FS:=seqF (setF 3 (kF (.int 0))) (seqF (forS (rngI (vF 2)) (CT 4) (Hv)) (retF (vF 3)))
def KN:List D->Option D:=runF 5 3 Mz
def KQ:FS:=retF (bF subD (bF shlD (kF (.int 1)) (vF 0)) (kF (.int 1)))
def Cg:List D->Option D:=runF 1 1 KQ
def K5:FE:=An (KN) (Aa (vF 6) (Aa (vF 3) (Aa (uF (fldD "size") (vF 0)) (nilA))))
def JL:FS:=putF 4 (vF 5) (BJ (seqA (bF ixE (vF 2) (vF 5))) (allT) (K5))
def K6:FE:=bF shlD (An (Cg) (Aa (vF 3) (nilA))) (bF mulD (vF 6) (vF 3))
noncomputable def QH:FS:=seqF (setW 4 (kF (.dk []))) (seqF (forS (seqA (vF 2)) (CT 5) (JL)) (seqF (putF 4 (vF 1) (BJ (rngI (uF (fldD "size") (vF 0))) (allT) (K6))) (fzS [4] (retF (vF 4)))))
def Lw:List D->Option D:=runF 6 4 QH
noncomputable def Hl (rec_cases_so:List D->Option D):FE:=bF MN (bF shrD (vF 5) (bF mulD (vF 10) (vF 3))) (An (Cg) (Aa (vF 3) (nilA)))
def Fl (rec_cases_so:List D->Option D):FS:=seqF (setF 7 (bF borD (vF 7) (vF 9))) (setF 8 (bF MN (vF 8) (vF 9)))
noncomputable def HR (rec_cases_so:List D->Option D):FS:=seqF (setF 4 (An (Lw) (Aa (vF 0) (Aa (bF ixE (vF 1) (kF (.int 1))) (Aa (vF 2) (Aa (vF 3) (nilA))))))) (seqF (setF 5 (An (rec_cases_so) (Aa (vF 0) (Aa (bF ixE (vF 1) (kF (.int 2))) (Aa (vF 4) (Aa (bF mulD (vF 3) (uF (fldD "size") (vF 0))) (nilA))))))) (seqF (setF 6 (BJ (rngI (uF (fldD "size") (vF 0))) (allT) ((Hl rec_cases_so)))) (seqF (setF 7 (kF (.int 0))) (seqF (setF 8 (An (Cg) (Aa (vF 3) (nilA)))) (seqF (forS (seqA (vF 6)) (CT 9) ((Fl rec_cases_so))) (seqF (ifS (blF (bF (eqD false) (bF ixE (vF 1) (kF (.int 0))) (kF (.str "some")))) (retF (vF 7)) (nxF)) (retF (vF 8))))))))
def Fe (rec_cases_so:List D->Option D):List D->Option D:=runF 10 4 (HR rec_cases_so)
noncomputable def En (rec_cases_so:List D->Option D):FS:=seqF (ifS (blF (bF (inF false) (bF ixE (vF 1) (kF (.int 0))) (kF c_FACTS))) (retF (An (Hu) (Aa (vF 0) (Aa (vF 1) (Aa (vF 2) (nilA)))))) (nxF)) (seqF (ifS (blF (bF (inF false) (bF ixE (vF 1) (kF (.int 0))) (kF c_BINDERS))) (retF (An (Fe rec_cases_so) (Aa (vF 0) (Aa (vF 1) (Aa (vF 2) (Aa (vF 3) (nilA))))))) (nxF)) (seqF (setF 4 (An (rec_cases_so) (Aa (vF 0) (Aa (bF ixE (vF 1) (kF (.int 1))) (Aa (vF 2) (Aa (vF 3) (nilA))))))) (seqF (ifS (blF (bF (eqD false) (bF ixE (vF 1) (kF (.int 0))) (kF (.str "not")))) (retF (bF aG (An (Cg) (Aa (vF 3) (nilA))) (vF 4))) (nxF)) (seqF (setF 5 (An (rec_cases_so) (Aa (vF 0) (Aa (bF ixE (vF 1) (kF (.int 2))) (Aa (vF 2) (Aa (vF 3) (nilA))))))) (seqF (ifS (blF (bF (eqD false) (bF ixE (vF 1) (kF (.int 0))) (kF (.str "both")))) (retF (bF MN (vF 4) (vF 5))) (nxF)) (retF (bF borD (vF 4) (vF 5))))))))
def By:Nat->List D->Option D
 | 0=>λ _=>none
 | n+1=>runF 6 4 (En (By n))
def Lx:FE:=ifF (blF (bF (eqD false) (vF 7) (bF ixE (vF 3) (vF 6)))) (kF (.int 1)) (kF (.int 0))
def Ly:FS:=putF 5 (vF 6) (BJ (rngI (uF (fldD "size") (vF 0))) (allT) (Lx))
noncomputable def HS:FS:=seqF (setF 3 (ifF (blF (uF (isND false) (vF 2))) (kF (.dk [])) (vF 2))) (seqF (setF 4 (An (Bf 60) (Aa (vF 1) (nilA)))) (seqF (Mf (An (Bl) (Aa (vF 0) (Aa (vF 4) (Aa (vF 3) (nilA)))))) (seqF (Mf (An (Ac 60) (Aa (vF 0) (Aa (vF 1) (nilA))))) (seqF (setW 5 (kF (.dk []))) (seqF (forS (seqA (vF 4)) (CT 6) (Ly)) (fzS [5] (retF (bF (eqD false) (An (By 60) (Aa (vF 0) (Aa (vF 1) (Aa (vF 5) (Aa (kF (.int 1)) (nilA)))))) (kF (.int 1))))))))))
def Ce:List D->Option D:=runF 7 3 HS
noncomputable def Ff:FS:=seqF (setF 4 (kF .non)) (seqF (tryF cs_ 5 (ifS (blF (bF (eqD false) (vF 0) (kF (.int 0)))) (Mf (An (λ xs=>Ce (xs++[.non])) (Aa (vF 1) (Aa (vF 2) (nilA))))) (ifS (blF (bF (eqD false) (vF 0) (kF (.int 1)))) (Mf (An (Ce) (Aa (vF 1) (Aa (vF 2) (Aa (kF .non) (nilA)))))) (Mf (An (Ce) (Aa (vF 1) (Aa (vF 2) (Aa (vF 3) (nilA)))))))) (setF 4 (vF 5))) (retF (vF 4)))
def CZ:List D->Option D:=runF 6 4 Ff
noncomputable def cR:FS:=seqF (setF 1 (An (Dp) (Aa (An (BW) (Aa (vF 0) (Aa (kF (.int 0)) (nilA)))) (nilA)))) (seqF (asgF (An (Et) (Aa (An (BW) (Aa (vF 0) (Aa (kF (.int 1)) (nilA)))) (Aa (An (BW) (Aa (vF 0) (Aa (kF (.int 2)) (nilA)))) (Aa (vF 1) (nilA))))) (tupG 3 (Cy 2 (Cy 3 (Cy 4 (nilG)))))) (seqF (setF 5 (An (Ht) (Aa (An (BW) (Aa (vF 0) (Aa (kF (.int 3)) (nilA)))) (nilA)))) (seqF (setF 6 (An (BW) (Aa (vF 0) (Aa (kF (.int 4)) (nilA))))) (seqF (setF 7 (An (HN) (Aa (bF modD (bF Dt (vF 6) (kF (.int 8))) (bF powD (kF (.int 10)) (kF (.int 9)))) (Aa (vF 6) (Aa (vF 5) (Aa (vF 2) (nilA))))))) (seqF (setF 8 (uF Qk (vF 3))) (seqF (setF 9 (uF Qk (vF 4))) (seqF (ifS (blF (bF (eqF false) (bF modD (bF Dt (vF 6) (kF (.int 4))) (kF (.int 2))) (kF (.int 1)))) (seqF (setF 8 (bF addD (vF 8) (slF (vF 1) (someO (kF (.int 1))) (someO (kF (.int 4)))))) (setF 9 (bF addD (slF (vF 1) (someO (kF (.int 2))) (someO (kF (.int 5)))) (vF 9)))) (nxF)) (seqF (setF 10 (bF ixE (An (Gp) (Aa (slF (vF 0) (someO (kF (.int 5))) (someO (kF (.int 50)))) (Aa (vF 8) (Aa (vF 9) (Aa (vF 5) (Aa (kF (.int 3)) (nilA))))))) (kF (.int 0)))) (seqF (setF 11 (mkI "World" (Dl) (Aa (vF 2) (Aa (vF 3) (Aa (vF 4) (nilA)))))) (seqF (setF 12 (uF bI (vF 7))) (seqF (setF 13 (bF modD (bF modD (bF mulD (An (BW) (Aa (vF 0) (Aa (kF (.int 3)) (nilA)))) (kF (.int 1000000007))) (kF (.int 2147483647))) (kF (.int 6)))) (seqF (setF 14 (An (Ek) (Aa (vF 10) (Aa (bF ixE (lstF (Aa (kF (.dk [])) (Aa (kF (.dk [])) (Aa (vF 7) (nilA))))) (bF minD (vF 13) (kF (.int 2)))) (Aa (vF 2) (Aa (vF 3) (Aa (vF 4) (nilA)))))))) (seqF (ifS (notT (trF (An (CG) (Aa (An (CZ) (Aa (vF 13) (Aa (vF 11) (Aa (vF 10) (Aa (vF 7) (nilA)))))) (Aa (vF 14) (nilA)))))) (retF (kF (.bl false))) (nxF)) (seqF (ifS (blF (bF (eqF true) (vF 7) (vF 12))) (retF (kF (.bl false))) (nxF)) (seqF (setF 15 (tupF (Aa (kF (.str "all")) (Aa (bF ixE (vF 5) (kF (.int 0))) (Aa (tupF (Aa (kF (.str "same")) (Aa (bF ixE (vF 5) (kF (.int 0))) (Aa (bF ixE (vF 5) (kF (.int 0))) (nilA))))) (nilA)))))) (retF (andF (An (JK) (Aa (bF modD (vF 6) (bF powD (kF (.int 10)) (kF (.int 50)))) (nilA))) (uF (isiD "bool") (An (λ xs=>noX (Ce) (xs++[.non])) (Aa (vF 11) (Aa (vF 15) (nilA))))))))))))))))))))))
def VJ:List D->Option D:=runF 16 1 cR
end
def top (i:Nat):Stmt:=PySem.Challenge.pw_twinrounds_k16_no_name_thing_word.main.body.getD i (.Pass ⟨0,0,0,0⟩)
abbrev Dq:Stmt:=top 40
abbrev Hw:Stmt:=top 41
abbrev KR:Stmt:=top 42
abbrev Ql:Stmt:=top 39
abbrev Mg:Stmt:=top 47
abbrev K7:Stmt:=top 17
abbrev Qm:Stmt:=inClass (top 5) 0
abbrev JM:Stmt:=top 18
abbrev Mh:Stmt:=top 19
abbrev N_:Stmt:=top 20
abbrev QJ:Stmt:=top 16
abbrev Jt:Stmt:=inClass (top 21) 0
abbrev E_:Stmt:=top 46
abbrev K8:Stmt:=top 45
abbrev KY:Stmt:=top 49
abbrev Qn:Stmt:=top 43
abbrev OD:Stmt:=top 44
abbrev Qo:Stmt:=top 50
abbrev OJ:Stmt:=inClass (top 3) 0
abbrev S8:Stmt:=inClass (top 6) 0
abbrev S9:Stmt:=inClass (top 4) 0
abbrev Oa:Stmt:=inClass (top 7) 0
abbrev Qp:Stmt:=top 51
abbrev Ob:Stmt:=top 25
abbrev S_:Stmt:=top 26
abbrev KZ:Stmt:=top 27
abbrev JN:Stmt:=top 28
abbrev Gu:Stmt:=top 29
abbrev Ka:Stmt:=top 32
abbrev Oc:Stmt:=top 33
abbrev TF:Stmt:=top 31
abbrev Od:Stmt:=top 30
abbrev Lz:Stmt:=top 34
abbrev Je:Stmt:=top 35
abbrev TJ:Stmt:=top 36
abbrev Wn:Stmt:=top 37
abbrev Mi:Stmt:=top 48
abbrev sS:Stmt:=top 52
structure Tx (G:Gx) (mg:Str->Option Value) where
 C_World:Addr
 gc_World:G.cl "World"=some C_World
 cl_World:Cls G.K C_World
 mC_World:mg "World"=some (.ref C_World)
 x__law_words:Dx G.K mg "_law_words" Dq ["_law_cell_here"]
 x__law_world:Dx G.K mg "_law_world" Hw ["_law_one","_law_two","_law_words_here"]
 x__law_names:Dx G.K mg "_law_names" KR ["_law_cell_here"]
 x__law_cell:Dx G.K mg "_law_cell" Ql ["_law_script","_law_k"]
 x__law_handed:Dx G.K mg "_law_handed" Mg ["_law_cell_here","_law_kind","_law_names_here","_law_size"]
 x_refuse_above:Dx G.K mg "refuse_above" K7 ["number","most"]
 x_refuse_no_thing:Dx G.K mg "refuse_no_thing" JM ["size","thing"]
 x_kept_things:Dx G.K mg "kept_things" Mh ["size","things"]
 x_kept_pairs:Dx G.K mg "kept_pairs" N_ ["size","pairs"]
 x_is_word:Dx G.K mg "is_word" QJ ["text"]
 x_World___init__:Ix G.K C_World "World.__init__" Jt ["self","size","marks","ties"]
 x__law_bad_words:Dx G.K mg "_law_bad_words" E_ ["_law_saying","_law_marks","_law_ties"]
 x__law_free:Dx G.K mg "_law_free" K8 ["_law_saying"]
 x__law_due:Dx G.K mg "_law_due" KY ["_law_saying","_law_handed_here","_law_size","_law_marks","_law_ties"]
 x__law_atom:Dx G.K mg "_law_atom" Qn ["_law_number","_law_marks","_law_ties","_law_names_here"]
 x__law_built:Dx G.K mg "_law_built" OD ["_law_cells","_law_marks","_law_ties","_law_names_here","_law_most"]
 x__law_good:Dx G.K mg "_law_good" Qo ["_law_e","_law_due_here"]
 x__law_made:Dx G.K mg "_law_made" Qp ["_law_number"]
 x_sayings_in:Dx G.K mg "sayings_in" Ob ["saying"]
 x_names_in:Dx G.K mg "names_in" S_ ["fact"]
 x_free_names:Dx G.K mg "free_names" KZ ["saying"]
 x_refuse_unplaced:Dx G.K mg "refuse_unplaced" JN ["world","names","places"]
 x_refuse_strange_words:Dx G.K mg "refuse_strange_words" Gu ["world","saying"]
 x_pairs_of:Dx G.K mg "pairs_of" Ka ["world","fact"]
 x_fact_cases:Dx G.K mg "fact_cases" Oc ["world","fact","spots"]
 x_repeated:Dx G.K mg "repeated" TF ["cases","width","times"]
 x_every_case:Dx G.K mg "every_case" Od ["width"]
 x_widened:Dx G.K mg "widened" Lz ["world","name","spots","width"]
 x_bound_cases:Dx G.K mg "bound_cases" Je ["world","saying","spots","width"]
 x_cases_so:Dx G.K mg "cases_so" TJ ["world","saying","spots","width"]
 x_is_so:Dx G.K mg "is_so" Wn ["world","saying","places"]
 y_is_so:Binds G.K x_is_so.fd ["world","saying","places"] [.none]
 x__law_caught:Dx G.K mg "_law_caught" Mi ["_law_way","_law_world_here","_law_saying","_law_handed_here"]
 x_law:Dx G.K mg "law" sS ["_law_script"]
 r:Rx G.K mg "RoundError"
 xt:XT G cs_ r.R
 e_NoWord:Xx G mg r.R "NoWord" "word" "NoWord.__init__" S9 ["self","word"]
 e_NoThing:Xx G mg r.R "NoThing" "thing" "NoThing.__init__" Qm ["self","thing"]
 e_NoName:Xx G mg r.R "NoName" "name" "NoName.__init__" S8 ["self","name"]
 e_TooGreat:Xx2 G mg r.R "TooGreat" "number" "most" "TooGreat.__init__" OJ ["self","number","most"]
 e_NoSaying:Xx G mg r.R "NoSaying" "line" "NoSaying.__init__" Oa ["self","line"]
 e_Unlike:Xx0 G mg r.R "Unlike"
 e_NoPointing:Xx0 G mg r.R "NoPointing"
 a_RoundError:Ax mg "RoundError"
 k_0:Kit G cs_ [.type "ValueError"] cs_
 k_1:Kit G cs_ [.ref e_NoPointing.C,.ref e_NoSaying.C,.ref e_TooGreat.C,.ref e_Unlike.C] ["NoPointing","NoSaying","TooGreat","Unlike"]
 k_2:Kit G cs_ [.ref e_NoName.C] ["NoName"]
 k_3:Kit G cs_ [.ref e_NoThing.C,.ref e_NoWord.C] ["NoThing","NoWord"]
 k_4:Kit G cs_ [.ref e_NoThing.C] ["NoThing"]
 k_5:Kit G cs_ [.ref e_NoWord.C] ["NoWord"]
 k_6:Kit G cs_ [.ref a_RoundError.a] cs_
 nf_name:∀ c C,(cs_:List Str).contains c=true->G.xcl c=some C->BX G.K C "name"
 nf_thing:∀ c C,(cs_:List Str).contains c=true->G.xcl c=some C->BX G.K C "thing"
 nf_word:∀ c C,(cs_:List Str).contains c=true->G.xcl c=some C->BX G.K C "word"
 nf_number:∀ c C,(cs_:List Str).contains c=true->G.xcl c=some C->BX G.K C "number"
 nf_most:∀ c C,(cs_:List Str).contains c=true->G.xcl c=some C->BX G.K C "most"
 nf_line:∀ c C,(cs_:List Str).contains c=true->G.xcl c=some C->BX G.K C "line"
 z_ValueError:mg "ValueError"=none
 z_all:mg "all"=none
 z_bool:mg "bool"=none
 z_dict:mg "dict"=none
 z_isinstance:mg "isinstance"=none
 z_len:mg "len"=none
 z_list:mg "list"=none
 z_max:mg "max"=none
 z_min:mg "min"=none
 z_range:mg "range"=none
 z_set:mg "set"=none
 z_sorted:mg "sorted"=none
 s_MOST_LETTERS:Sx mg "MOST_LETTERS" (.int 8)
 s_LETTERS:Sx mg "LETTERS" (.str "abcdefghijklmnopqrstuvwxyz")
 s_MOST_THINGS:Sx mg "MOST_THINGS" (.int 5)
 s_MOST_WORDS:Sx mg "MOST_WORDS" (.int 3)
 fl_size:∀ c C,G.cl c=some C->Cls G.K C/\BX G.K C "size"
 fl_marked:∀ c C,G.cl c=some C->Cls G.K C/\BX G.K C "marked"
 fl_tied:∀ c C,G.cl c=some C->Cls G.K C/\BX G.K C "tied"
 c_KEPT_TEXTS:Kx G mg "KEPT_TEXTS" K16.c_KEPT_TEXTS
 c_FACTS:Kx G mg "FACTS" K16.c_FACTS
 c_BINDERS:Kx G mg "BINDERS" K16.c_BINDERS
section
variable {base:Heap}
abbrev Bc:List Str:=["_law_cell_here","_law_letters","_law_number","_law_base","_law_k","_law_at","_law_found"]
theorem Bq:FnScope Bc ["_law_cell_here"] (Ad Dq):=scO
theorem UJ (T:Tx G mg):DOk P w base T.x__law_words 1 (spD G Dp):=
 fnX (k:=0) (N:=Bc) (b:=Es) T.x__law_words Bq λ _ _ _ _ _ _ hr=>Ab (sF Bq.nd 1 (Ja)) (Ab (sF Bq.nd 2 (bMod (pU (bMul (vp 0) (iP))) (pU (Bs O5 Lh (iP) (iP))))) (Ab (sF Bq.nd 3 (Ja)) (Ab (Er z0E rfl (Dd rfl T.z_range (pU (bMod (vp 2) (iP)))) (Cr (gN Bq.nd 4)) (Ab (sF Bq.nd 3 (bAdd (vp 3) (pU (iD (vp 1) (pU (bMod (pU (bDiv (vp 2) (iP))) (iP))))))) (Af (sF Bq.nd 2 (bDiv (vp 2) (iP)))))) (Ab (sF Bq.nd 5 (bMod (pU (bDiv (vp 2) (iP))) (pU (bAdd (pU (DG (Cm rfl) Li rfl T.z_len G5 (vp 3))) (iP))))) (Ab (Ks (i:=6) ["_law_cell_here","_law_letters","_law_number","_law_base","","_law_at","_law_found","_law_k"] (by show Bv "_law_k" Bc++(["_law_k"]:List Str)=_;decide +kernel) (cO (N:=Bc) (sc:=Ad Dq) rfl rfl) rfl Bq.nd rfl (by first | exact Or.inl rfl | exact Or.inr rfl) (Dd rfl T.z_range (iP)) (λ _ _ _=>Dv) (λ _ _ _=>bAdd (pU (bAdd (pU (Du rfl (vp 3) (GZ) (Cq (vp 5)))) (pU (iD (vp 1) (pU (bMod (pU (bAdd (pU (bDiv (vp 2) (iP))) (pU (bMul (iP) (vp 7))))) (iP))))))) (pU (Du rfl (vp 3) (Cq (vp 5)) (GZ))))) (Ab (A_ (tEq hr (pU (bMod (vp 2) (iP))) (iP)) (Ab (sF Bq.nd 3 (o9 rfl (sP) (pU (Do ["_law_cell_here","_law_letters","_law_number","_law_base","","_law_at","_law_found","_law_k"] (by show Bv "_law_k" Bc++(["_law_k"]:List Str)=_;decide +kernel) (cO (N:=Bc) (sc:=Ad Dq) rfl rfl) rfl (Dd rfl T.z_range (iP)) (λ _ _ _=>Dv) (λ _ _ _=>iD (vp 1) (pU (bMod (pU (bDiv (vp 2) (pU (bAdd (iP) (pU (bMul (vp 7) (vp 7))))))) (iP)))))))) (Af (Ks (i:=6) ["_law_cell_here","_law_letters","_law_number","_law_base","","_law_at","_law_found","_law_k"] (by show Bv "_law_k" Bc++(["_law_k"]:List Str)=_;decide +kernel) (cO (N:=Bc) (sc:=Ad Dq) rfl rfl) rfl Bq.nd rfl (by first | exact Or.inl rfl | exact Or.inr rfl) (Dd rfl T.z_range (iP)) (λ _ _ _=>Dv) (λ _ _ _=>Du rfl (vp 3) (GZ) (Cq (pU (bAdd (vp 7) (iP)))))))) (Ar)) (Ab (A_ (tGt (pU (DG (Cm rfl) Li rfl T.z_len G5 (pU (Do (nT Bc "_law_word") (by show Bv "_law_word" Bc++(["_law_word"]:List Str)=_;decide +kernel) (cO (N:=Bc) (sc:=Ad Dq) rfl rfl) rfl (RN rfl (vp 6)) (λ _ _ _=>Ga (Fb ZD (jF false) (vp 7) (pU (Bh (iS (iS (iS (iS (iS (Ae)))))))) (by with_unfolding_all rfl))) (λ _ _ _=>vr 7))))) (iP)) (Af (Ak (Do (nT Bc "_law_word") (by show Bv "_law_word" Bc++(["_law_word"]:List Str)=_;decide +kernel) (cO (N:=Bc) (sc:=Ad Dq) rfl rfl) rfl (RN rfl (vp 6)) (λ _ _ _=>Dv) (λ _ _ _=>bAdd (sP) (vp 7))))) (Ar)) (Af (Ak (vr 6))))))))))
abbrev Dr:List Str:=["_law_one","_law_two","_law_words_here","_law_bits","_law_size","_law_marks","_law_k","_law_ties","_law_found","_law_thing"]
theorem Be:FnScope Dr ["_law_one","_law_two","_law_words_here"] (Ad Hw):=scO
theorem UL (T:Tx G mg):DOk P w base T.x__law_world 1 (spD G Et):=
 fnX (k:=0) (N:=Dr) (b:=Hs) T.x__law_world Be λ _ _ _ _ _ _ hr=>Ab (sF Be.nd 3 (bMod (pU (bMul (vp 1) (iP))) (pU (Bs Ni Nj (iP) (iP))))) (Ab (A_ (tEq hr (pU (bMod (vp 0) (iP))) (iP)) (Af (sF Be.nd 3 (bMod (vp 1) (pU (Bs Ni Nj (iP) (iP)))))) (Ar)) (Ab (sF Be.nd 0 (bMod (pU (bMul (pU (bDiv (vp 0) (iP))) (iP))) (iP))) (Ab (sF Be.nd 4 (bMod (vp 0) (iP))) (Ab (sW Be.nd 5 (Nx)) (Ab (Er z0E rfl (Dd rfl T.z_range (pU (bMod (pU (bDiv (vp 0) (iP))) (iP)))) (Cr (gN Be.nd 6)) (Af (J4 (Hz hr) (pv 5) (iX hr (vp 2) (vp 6)) (Do ["_law_one","_law_two","_law_words_here","_law_bits","_law_size","_law_marks","_law_k","_law_ties","_law_found","","_law_thing"] (by show Bv "_law_thing" Dr++(["_law_thing"]:List Str)=_;decide +kernel) (cO (N:=Dr) (sc:=Ad Hw) rfl rfl) rfl (Dd rfl T.z_range (vp 4)) (λ _ _ _=>Ga (tEq hr (pU (Bs O6 Jj (pU (Bs Yt WQ (vp 3) (pU (bAdd (pU (bMul (iP) (vp 6))) (vp 10))))) (iP))) (iP))) (λ _ _ _=>vr 10))))) (Ab (sW Be.nd 7 (Nx)) (Ab (Er z0E rfl (Dd rfl T.z_range (pU (bMod (pU (bDiv (vp 0) (iP))) (iP)))) (Cr (gN Be.nd 6)) (Ab (sF Be.nd 8 (Bh (Ae))) (Ab (Er z0E rfl (Dd rfl T.z_range (vp 4)) (Cr (gN Be.nd 9)) (Af (sF Be.nd 8 (bAdd (vp 8) (pU (Do (nT Dr "_law_to") (by show Bv "_law_to" Dr++(["_law_to"]:List Str)=_;decide +kernel) (cO (N:=Dr) (sc:=Ad Hw) rfl rfl) rfl (Dd rfl T.z_range (vp 4)) (λ _ _ _=>Ga (tEq hr (pU (Bs O6 Jj (pU (Bs Yt WQ (vp 3) (pU (bAdd (pU (bAdd (pU (bAdd (iP) (pU (bMul (iP) (vp 6))))) (pU (bMul (iP) (vp 9))))) (vp 10))))) (iP))) (iP))) (λ _ _ _=>G4 (pav 9 (pav 10 (Ae)))))))))) (Af (J4 (Hz hr) (pv 7) (iX hr (vp 2) (pU (bSub (iP) (vp 6)))) (vr 8)))))) (Af (Pu [5,7] (Ak (Bh (pav 4 (pav 5 (pav 7 (Ae)))))))))))))))
abbrev Gv:List Str:=["_law_cell_here","_law_letters"]
theorem Mj:FnScope Gv ["_law_cell_here"] (Ad KR):=scO
theorem UT (T:Tx G mg):DOk P w base T.x__law_names 1 (spD G Ht):=
 fnX (k:=0) (N:=Gv) (b:=J9) T.x__law_names Mj λ _ _ _ _ _ _ hr=>Ab (sF Mj.nd 1 (Ja)) (Af (Ak (Do (nT Gv "_law_k") (by show Bv "_law_k" Gv++(["_law_k"]:List Str)=_;decide +kernel) (cO (N:=Gv) (sc:=Ad KR) rfl rfl) rfl (Dd rfl T.z_range (iP)) (λ _ _ _=>Dv) (λ _ _ _=>iD (vp 1) (pU (bMod (pU (bAdd (pU (bMod (vp 0) (iP))) (pU (bMul (pU (bAdd (iP) (pU (bMul (pU (bMod (pU (bDiv (vp 0) (iP))) (iP))) (iP))))) (vp 2))))) (iP)))))))
abbrev Qq:List Str:=["_law_script","_law_k"]
theorem Wo:FnScope Qq ["_law_script","_law_k"] (Ad Ql):=scO
theorem FJ (T:Tx G mg):DOk P w base T.x__law_cell 1 (spD G BW):=
 fnX (k:=0) (N:=Qq) (b:=JH) T.x__law_cell Wo λ _ _ _ _ _ _ hr=>Ab (A_ (tLt (vp 1) (pU (DG (Cm rfl) Li rfl T.z_len G5 (vp 0)))) (Af (Ak (iD (vp 0) (vp 1)))) (Ar)) (Af (Ak (Kr)))
abbrev Ml:List Str:=["_law_cell_here","_law_kind","_law_names_here","_law_size","_law_handed_here","_law_k","_law_number","_law_place"]
theorem Dn:FnScope Ml ["_law_cell_here","_law_kind","_law_names_here","_law_size"] (Ad Mg):=scO
theorem TQ (T:Tx G mg):DOk P w base T.x__law_handed 1 (spD G HN):=
 fnX (k:=0) (N:=Ml) (b:=Jc) T.x__law_handed Dn λ _ _ _ _ _ _ hr=>Ab (sW Dn.nd 4 (Nx)) (Ab (Er z0E rfl (Dd rfl T.z_range (iP)) (Cr (gN Dn.nd 5)) (Ab (sF Dn.nd 6 (bMod (pU (bDiv (vp 0) (pU (iX hr (pU (Bh (iI (iI (iI (Ae)))))) (vp 5))))) (iP))) (Ab (sF Dn.nd 7 (bMod (pU (bMul (pU (bDiv (vp 0) (pU (iX hr (pU (Bh (iI (iI (iI (Ae)))))) (vp 5))))) (iP))) (pU (Nk (O8 rfl) R6 rfl T.z_max ZG (vp 3) (iP))))) (Ab (A_ (PFW.pt (J2 (tEq hr (pU (bMod (pU (bDiv (vp 1) (iP))) (iP))) (iP)) (Fp (tGt (vp 6) (iP))))) (Af (sF Dn.nd 7 (iX hr (pU (Bh (iI (iI (iI (iI (iI (iI (iI (iI (pav 3 (Ag (bAdd (pU (Bs O5 Lh (iP) (iP))) (pU (bMod (vp 0) (pU (Bs O5 Lh (iP) (iP)))))) (Ag (bSub (pU (IW (iP))) (pU (bMod (vp 0) (pU (Bs O5 Lh (iP) (iP)))))) (Ae) Js) Js)))))))))))) (vp 6)))) (Ar)) (Af (A_ (PFW.pt (GX (tEq hr (pU (bMod (vp 1) (iP))) (iP)) (Di (tGt (pU (bMod (vp 6) (iP))) (iP))))) (Af (J4 (Hz hr) (pv 4) (iX hr (vp 2) (vp 5)) (vr 7))) (Ar))))))) (Af (Pu [4] (Ak (vr 4)))))
abbrev K9:List Str:=["number","most"]
theorem Qz:FnScope K9 ["number","most"] (Ad K7):=scO
theorem Hm (T:Tx G mg):DOk P w base T.x_refuse_above 1 (spD G Bx):=
 fnX (k:=0) (N:=K9) (b:=Io) T.x_refuse_above Qz λ _ _ _ _ _ _ hr=>Af (A_ (tGt (vp 0) (vp 1)) (Af (Pn)) (Ar))
abbrev YJ:List Str:=["self","thing"]
theorem Wq:FnScope YJ ["self","thing"] (Ad Qm):=scO
theorem TV (T:Tx G mg):FnOk P w G.K mg base CX0 1 T.e_NoThing.fi T.e_NoThing.fd ["self","thing"] (spE G.K "thing" okI):=
 T.e_NoThing.F.ok Wq (λ vs H Q E h=>Rb h) λ cdv A outer s H vs Q E hr h=>⟨_,FW (HB (Kw rfl T.r.m T.r.h1 T.r.h2 T.r.h3 (BZ (pv 0) (BZ (Sw (Za (pv 1)) QD) Cz)))) (I_ (N6 (pv 0) (pv 1) rfl)),Lq h rfl vK⟩
abbrev JP:List Str:=["size","thing"]
theorem M3:FnScope JP ["size","thing"] (Ad JM):=scO
theorem Ds (T:Tx G mg):FnOk P w G.K mg base (CX1 P w) 3 T.x_refuse_no_thing.f T.x_refuse_no_thing.fd ["size","thing"] (spZ G Az):=
 fnZ (k:=2) (N:=JP) (b:=DQ) T.x_refuse_no_thing M3 λ _ _ _ _ _ _ hr=>DP (QC (PFW.pt (GX (tLt (vp 1) (iP)) (Di (tGe (vp 1) (vp 0))))) (DP (rZ (x:=T.e_NoThing) (TV T) hr Rf (vr 1))) (RZ))
abbrev Mm:List Str:=["size","things","kept","thing"]
theorem Iv:FnScope Mm ["size","things"] (Ad Mh):=scO
theorem TX (T:Tx G mg):DOk P w base T.x_kept_things 4 (spD G Dw):=
 fnX (k:=3) (N:=Mm) (b:=Jd) T.x_kept_things Iv λ _ _ _ _ _ _ hr=>Ab (sW Iv.nd 2 (Nx)) (Ab (Er z0E rfl (CJ rfl (vr 1)) (Cr (gN Iv.nd 3)) (Ab (Jm (fX (cL (Ds T)) hr (pav 0 (pav 3 (Ae))))) (Af (J4 (Hz hr) (pv 2) (vr 3) (Qe))))) (Af (Pu [2] (Ak (vr 2)))))
abbrev Oe:List Str:=["size","pairs","kept","one","other"]
theorem HW:FnScope Oe ["size","pairs"] (Ad N_):=scO
theorem UV (T:Tx G mg):DOk P w base T.x_kept_pairs 4 (spD G Eu):=
 fnX (k:=3) (N:=Oe) (b:=J_) T.x_kept_pairs HW λ _ _ _ _ _ _ hr=>Ab (sW HW.nd 2 (wy)) (Ab (Er z0E rfl (CJ rfl (vr 1)) (Ny rfl rfl (Dj (gN HW.nd 3) (Dj (gN HW.nd 4) (Ku)))) (Ab (Jm (fX (cL (Ds T)) hr (pav 0 (pav 3 (Ae))))) (Ab (Jm (fX (cL (Ds T)) hr (pav 0 (pav 4 (Ae))))) (Af (jm (Hz hr) (pv 2) (pav 3 (pav 4 (Ae))) (Qe)))))) (Af (Pu [2] (Ak (vr 2)))))
abbrev Ju:List Str:=["text"]
theorem Ze:FnScope Ju ["text"] (Ad QJ):=scO
theorem TY (T:Tx G mg):DOk P w base T.x_is_word 1 (spD G Ew):=
 fnX (k:=0) (N:=Ju) (b:=QG) T.x_is_word Ze λ _ _ _ _ _ _ hr=>Ab (A_ (PFW.pt (GX (tIn hr (vp 0) (pU (FP (EY (v:=.ref T.c_KEPT_TEXTS.a) rfl T.c_KEPT_TEXTS.m rfl) T.c_KEPT_TEXTS.r))) (GX (tEq hr (pU (DG ((Cm rfl).or Ed) Hd rfl T.z_len G5 (vp 0))) (iP)) (Di (tGt (pU (DG ((Cm rfl).or Ed) Hd rfl T.z_len G5 (vp 0))) (pU (FP (EY (v:=(.int 8)) rfl T.s_MOST_LETTERS.m ⟨_,rfl⟩) (.int _)))))))) (Af (Ak (Qe))) (Ar)) (Af (Ak (DG (eY rfl) pZ rfl T.z_all uy (pU (Do (nT Ju "letter") (by show Bv "letter" Ju++(["letter"]:List Str)=_;decide +kernel) (cO (N:=Ju) (sc:=Ad QJ) rfl rfl) rfl (PFI.top (CJ rfl (vr 0))) (λ _ _ _=>Dv) (λ _ _ _=>cIn hr (vp 1) (pU (FP (EY (v:=(.str "abcdefghijklmnopqrstuvwxyz")) rfl T.s_LETTERS.m ⟨_,rfl⟩) (.str _)))))))))
abbrev Jv:List Str:=["self","size","marks","ties","word","things","pairs"]
theorem DX:FnScope Jv ["self","size","marks","ties"] (Ad Jt):=scO
theorem Og (T:Tx G mg):FnOk P w G.K mg base CX0 5 T.x_World___init__.f T.x_World___init__.fd ["self","size","marks","ties"] (spI G "World" Dl):=
 fn_I (c:="World") (k:=4) (N:=Jv) (b:=G8) T.x_World___init__.F DX (by decide) λ cdv A outer s H E hr=>Hg (SQ (Jm (fX (Hm T) hr (pav 1 (Ag (FP (EY (v:=(.int 5)) rfl T.s_MOST_THINGS.m ⟨_,rfl⟩) (.int _)) (Ae) Rg)))) Wi) (Hg (SQ (Jm (fX (Hm T) hr (Ag (DG ((Cm rfl).or Ed) Hd rfl T.z_len G5 (vp 2)) (Ag (FP (EY (v:=(.int 3)) rfl T.s_MOST_WORDS.m ⟨_,rfl⟩) (.int _)) (Ae) Rg) Fi))) Wi) (Hg (SQ (Jm (fX (Hm T) hr (Ag (DG ((Cm rfl).or Ed) Hd rfl T.z_len G5 (vp 3)) (Ag (FP (EY (v:=(.int 3)) rfl T.s_MOST_WORDS.m ⟨_,rfl⟩) (.int _)) (Ae) Rg) Fi))) Wi) (Hg (ju T.fl_size (pv 0) (vr 1)) (Hg (X5 T.fl_marked (pv 0) Nx) (Hg (X5 T.fl_tied (pv 0) Nx) (Hg (bR z0E rfl (U8 (top:=false) (vr 2)) (Ny rfl rfl (Dj (gN DX.nd 4) (Dj (gN DX.nd 5) (Ku)))) (jz (RV (by decide) (RV (by decide) (jw)))) (X3 (jt (X4 (RL (J3 (pU (fX (TY T) hr (pav 4 (Ae)))) rfl))) (Af Pn)) (bQ (X6 (Hz hr) T.fl_marked (pv 0) (vr 4) (fX (TX T) hr (pav 1 (pav 5 (Ae)))))))) (Hg (bR z0E rfl (U8 (top:=false) (vr 3)) (Ny rfl rfl (Dj (gN DX.nd 4) (Dj (gN DX.nd 6) (Ku)))) (jz (RV (by decide) (RV (by decide) (jw)))) (X3 (jt (PWE.pt (u0 (X4 (RL (J3 (pU (fX (TY T) hr (pav 4 (Ae)))) rfl))) (ph (u5 (Hz hr) T.fl_marked (pv 0) (vr 4))))) (Af Pn)) (bQ (X6 (Hz hr) T.fl_tied (pv 0) (vr 4) (fX (UV T) hr (pav 1 (pav 6 (Ae)))))))) (p7))))))))
abbrev Br:List Str:=["_law_saying","_law_marks","_law_ties"]
theorem Oh:FnScope Br ["_law_saying","_law_marks","_law_ties"] (Ad E_):=scO
theorem DY (T:Tx G mg):∀ n:Nat,DOk P w base T.x__law_bad_words (n*1+0) (spD G (Ay n))
 | 0=>RP
 | n+1=>(fnX (k:=n*1+0) (N:=Br) (b:=Ba (Ay n)) T.x__law_bad_words Oh λ _ _ _ _ _ _ hr=>Ab (A_ (tEq hr (pU (iX hr (vp 0) (iP))) (sP)) (Af (Ak (Do (nT Br "_law_word") (by show Bv "_law_word" Br++(["_law_word"]:List Str)=_;decide +kernel) (cO (N:=Br) (sc:=Ad E_) rfl rfl) rfl (PFI.top (CJ rfl (Bh (Ag (iX hr (vp 0) (iP)) (Ae) Ah)))) (λ _ _ _=>Ga (tNi hr (vp 3) (vp 1))) (λ _ _ _=>vr 3)))) (Ar)) (Ab (A_ (tEq hr (pU (iX hr (vp 0) (iP))) (sP)) (Af (Ak (Do (nT Br "_law_word") (by show Bv "_law_word" Br++(["_law_word"]:List Str)=_;decide +kernel) (cO (N:=Br) (sc:=Ad E_) rfl rfl) rfl (PFI.top (CJ rfl (Bh (Ag (iX hr (vp 0) (iP)) (Ae) Ah)))) (λ _ _ _=>Ga (tNi hr (vp 3) (vp 2))) (λ _ _ _=>vr 3)))) (Ar)) (Ab (A_ (tEq hr (pU (iX hr (vp 0) (iP))) (sP)) (Af (Ak (Bh (Ae)))) (Ar)) (Ab (A_ (tEq hr (pU (iX hr (vp 0) (iP))) (sP)) (Af (Ak (fX (DY T n) hr (Ag (iX hr (vp 0) (iP)) (pav 1 (pav 2 (Ae))) Ah)))) (Ar)) (Ab (A_ (PFW.pt (GX (tEq hr (pU (iX hr (vp 0) (iP))) (sP)) (Di (tEq hr (pU (iX hr (vp 0) (iP))) (sP))))) (Af (Ak (bAdd (pU (fX (DY T n) hr (Ag (iX hr (vp 0) (iP)) (pav 1 (pav 2 (Ae))) Ah))) (pU (fX (DY T n) hr (Ag (iX hr (vp 0) (iP)) (pav 1 (pav 2 (Ae))) Ah)))))) (Ar)) (Af (Ak (fX (DY T n) hr (Ag (iX hr (vp 0) (iP)) (pav 1 (pav 2 (Ae))) Ah))))))))).mono (by omega)
abbrev Hi:List Str:=["_law_saying"]
theorem Wr:FnScope Hi ["_law_saying"] (Ad K8):=scO
theorem Gw (T:Tx G mg):∀ n:Nat,DOk P w base T.x__law_free (n*1+0) (spD G (Bb n))
 | 0=>RP
 | n+1=>(fnX (k:=n*1+0) (N:=Hi) (b:=Ej (Bb n)) T.x__law_free Wr λ _ _ _ _ _ _ hr=>Ab (A_ (PFW.pt (GX (tEq hr (pU (iD (vp 0) (iP))) (sP)) (Di (tEq hr (pU (iD (vp 0) (iP))) (sP))))) (Af (Ak (Jl GJ R7 rfl T.z_list Nq (pU (Du rfl (vp 0) (Cq (iP)) (GZ)))))) (Ar)) (Ab (A_ (tEq hr (pU (iD (vp 0) (iP))) (sP)) (Af (Ak (Jl GJ R7 rfl T.z_list Nq (pU (Du rfl (vp 0) (Cq (iP)) (GZ)))))) (Ar)) (Ab (A_ (tEq hr (pU (iD (vp 0) (iP))) (sP)) (Af (Ak (fX (Gw T n) hr (Ag (iD (vp 0) (iP)) (Ae) Ah)))) (Ar)) (Ab (A_ (PFW.pt (GX (tEq hr (pU (iD (vp 0) (iP))) (sP)) (Di (tEq hr (pU (iD (vp 0) (iP))) (sP))))) (Af (Ak (bAdd (pU (fX (Gw T n) hr (Ag (iD (vp 0) (iP)) (Ae) Ah))) (pU (fX (Gw T n) hr (Ag (iD (vp 0) (iP)) (Ae) Ah)))))) (Ar)) (Af (Ak (Do (nT Hi "_law_name") (by show Bv "_law_name" Hi++(["_law_name"]:List Str)=_;decide +kernel) (cO (N:=Hi) (sc:=Ad K8) rfl rfl) rfl (RN rfl (pU (fX (Gw T n) hr (Ag (iD (vp 0) (iP)) (Ae) Ah)))) (λ _ _ _=>Ga (tNe hr (vp 1) (pU (iD (vp 0) (iP))))) (λ _ _ _=>vr 1)))))))).mono (by omega)
abbrev Eo:List Str:=["_law_saying","_law_handed_here","_law_size","_law_marks","_law_ties","_law_free_here","_law_lacks","_law_strange","_law_bad"]
theorem Hj:FnScope Eo ["_law_saying","_law_handed_here","_law_size","_law_marks","_law_ties"] (Ad KY):=scO
theorem YK (T:Tx G mg):DOk P w base T.x__law_due 61 (spD G Ek):=
 fnX (k:=60) (N:=Eo) (b:=G9) T.x__law_due Hj λ _ _ _ _ _ _ hr=>Ab (sF Hj.nd 5 (jg rfl rfl rfl T.z_sorted Pq rfl T.z_set ZJ (pU (fX (Gw T 60) hr (pav 0 (Ae)))))) (Ab (Ks (i:=6) (nT Eo "_law_name") (by show Bv "_law_name" Eo++(["_law_name"]:List Str)=_;decide +kernel) (cO (N:=Eo) (sc:=Ad KY) rfl rfl) rfl Hj.nd rfl (by first | exact Or.inl rfl | exact Or.inr rfl) (PFI.top (CJ rfl (vr 5))) (λ _ _ _=>Ga (tNi hr (vp 9) (vp 1))) (λ _ _ _=>vr 9)) (Ab (A_ (tNe hr (vp 6) (pU (Bh (Ae)))) (Af (Ak (Bh (iS (Ag (iX hr (vp 6) (iP)) (Ae) Ah))))) (Ar)) (Ab (Ks (i:=7) (nT Eo "_law_name") (by show Bv "_law_name" Eo++(["_law_name"]:List Str)=_;decide +kernel) (cO (N:=Eo) (sc:=Ad KY) rfl rfl) rfl Hj.nd rfl (by first | exact Or.inl rfl | exact Or.inr rfl) (PFI.top (CJ rfl (vr 5))) (λ _ _ _=>Ga (PFW.pt (GX (tLt (pU (iX hr (vp 1) (vp 9))) (iP)) (Di (tGe (pU (iX hr (vp 1) (vp 9))) (vp 2)))))) (λ _ _ _=>iX hr (vp 1) (vp 9))) (Ab (A_ (tNe hr (vp 7) (pU (Bh (Ae)))) (Af (Ak (Bh (iS (Ag (iX hr (vp 7) (iP)) (Ae) Ah))))) (Ar)) (Ab (sF Hj.nd 8 (fX (DY T 60) hr (pav 0 (pav 3 (pav 4 (Ae)))))) (Ab (A_ (tNe hr (vp 8) (pU (Bh (Ae)))) (Af (Ak (Bh (iS (Ag (iX hr (vp 8) (iP)) (Ae) Ah))))) (Ar)) (Af (Ak (Bh (Ae))))))))))
abbrev Qs:List Str:=["_law_number","_law_marks","_law_ties","_law_names_here","_law_one","_law_other"]
theorem Kc:FnScope Qs ["_law_number","_law_marks","_law_ties","_law_names_here"] (Ad Qn):=scO
theorem Oi (T:Tx G mg):DOk P w base T.x__law_atom 1 (spD G DR):=
 fnX (k:=0) (N:=Qs) (b:=El) T.x__law_atom Kc λ _ _ _ _ _ _ hr=>Ab (sF Kc.nd 4 (iD (vp 3) (pU (bMod (pU (bDiv (vp 0) (iP))) (iP))))) (Ab (sF Kc.nd 5 (iD (vp 3) (pU (bMod (pU (bDiv (vp 0) (iP))) (iP))))) (Ab (A_ (PFW.pt (J2 (tEq hr (pU (bMod (vp 0) (iP))) (iP)) (Fp (tNe hr (vp 1) (pU (Bh (Ae))))))) (Af (Ak (G4 (iS (Ag (iD (vp 1) (pU (bMod (pU (bDiv (vp 0) (iP))) (pU (DG (Cm rfl) Li rfl T.z_len G5 (vp 1)))))) (pav 4 (Ae)) Ah))))) (Ar)) (Ab (A_ (PFW.pt (J2 (tEq hr (pU (bMod (vp 0) (iP))) (iP)) (Fp (tNe hr (vp 2) (pU (Bh (Ae))))))) (Af (Ak (G4 (iS (Ag (iD (vp 2) (pU (bMod (pU (bDiv (vp 0) (iP))) (pU (DG (Cm rfl) Li rfl T.z_len G5 (vp 2)))))) (pav 4 (pav 5 (Ae))) Ah))))) (Ar)) (Af (Ak (G4 (iS (pav 4 (pav 5 (Ae))))))))))
abbrev Oj:List Str:=["_law_cells","_law_marks","_law_ties","_law_names_here","_law_most","_law_row","_law_cell_here","_law_number","_law_last"]
theorem Dz:FnScope Oj ["_law_cells","_law_marks","_law_ties","_law_names_here","_law_most"] (Ad OD):=scO
theorem UW (T:Tx G mg):DOk P w base T.x__law_built 2 (spD G Gp):=
 fnX (k:=1) (N:=Oj) (b:=KC) T.x__law_built Dz λ _ _ _ _ _ _ hr=>Ab (sW Dz.nd 5 (jP (Ag (Bh (Ag (fX (Oi T) hr (Ag (DG ((Cm rfl).or Ed) Hd rfl T.z_len G5 (vp 0)) (pav 1 (pav 2 (pav 3 (Ae)))) Fi)) (iI (Ae)) Fi)) (Ae) qQ))) (Ab (Er z0E rfl (CJ rfl (vr 0)) (Cr (gN Dz.nd 6)) (Ab (sF Dz.nd 7 (bMod (pU (bMul (pU (bDiv (vp 6) (iP))) (iP))) (iP))) (Ab (sF Dz.nd 8 (iX hr (vq 5) (pU (IW (iP))))) (Af (A_ (PFW.pt (J2 (tGt (pU (bMod (vp 6) (iP))) (iP)) (Fp (tLt (pU (iX hr (vp 8) (iP))) (vp 4))))) (Af (N5 (pv 5) (IW (iP)) (Bh (Ag (G4 (Ag (iX hr (pU (Bh (iS (iS (Ae))))) (pU (bMod (vp 7) (iP)))) (Ag (iX hr (vp 3) (pU (bMod (pU (bDiv (vp 7) (iP))) (iP)))) (Ag (iX hr (vp 8) (iP)) (Ae) Ah) Ah) Ah)) (Ag (bAdd (pU (iX hr (vp 8) (iP))) (iP)) (Ae) Js) K1)))) (Af (A_ (tEq hr (pU (bMod (vp 6) (iP))) (iP)) (Af (N5 (pv 5) (IW (iP)) (Bh (Ag (G4 (iS (Ag (iX hr (vp 8) (iP)) (Ae) Ah))) (Ag (iX hr (vp 8) (iP)) (Ae) Ah) K1)))) (Af (A_ (PFW.pt (J2 (tGt (pU (bMod (vp 6) (iP))) (iP)) (Fp (tGt (pU (DG ((Cm rfl).or Ed) Hd rfl T.z_len G5 (vq 5))) (iP))))) (Ab (qG (pv 5)) (Af (N5 (pv 5) (IW (iP)) (Bh (Ag (G4 (Ag (iX hr (pU (Bh (iS (iS (Ae))))) (pU (bMod (vp 7) (iP)))) (Ag (iX hr (pU (iX hr (vq 5) (pU (IW (iP))))) (iP)) (Ag (iX hr (vp 8) (iP)) (Ae) Ah) Ah) Ah)) (Ag (Nk (O8 rfl) R6 rfl T.z_max ZG (pU (iX hr (pU (iX hr (vq 5) (pU (IW (iP))))) (iP))) (pU (iX hr (vp 8) (iP)))) (Ae) Fi) K1))))) (Af (pC (pv 5) (Bh (Ag (fX (Oi T) hr (pav 7 (pav 1 (pav 2 (pav 3 (Ae)))))) (iI (Ae)) Fi))))))))))))) (Ab (d8 60 z0E (tGt (pU (DG ((Cm rfl).or Ed) Hd rfl T.z_len G5 (vq 5))) (iP)) (Ab (kJ (i:=5) (j:=8) (λ _ h=>Yo Dz.nd rfl (by first | exact Or.inl rfl | exact Or.inr rfl) h) (pv 5)) (Af (N5 (pv 5) (IW (iP)) (Bh (Ag (G4 (Ag (iX hr (pU (Bh (iS (iS (Ae))))) (pU (bMod (pU (DG ((Cm rfl).or Ed) Hd rfl T.z_len G5 (vq 5))) (iP)))) (Ag (iX hr (pU (iX hr (vq 5) (pU (IW (iP))))) (iP)) (Ag (iX hr (vp 8) (iP)) (Ae) Ah) Ah) Ah)) (Ag (Nk (O8 rfl) R6 rfl T.z_max ZG (pU (iX hr (pU (iX hr (vq 5) (pU (IW (iP))))) (iP))) (pU (iX hr (vp 8) (iP)))) (Ae) Fi) K1)))))) (Af (Ak (iX hr (vq 5) (iP))))))
abbrev Qt:List Str:=["_law_e","_law_due_here"]
theorem Ws:FnScope Qt ["_law_e","_law_due_here"] (Ad Qo):=scO
theorem Wt (T:Tx G mg):DOk P w base T.x__law_good 1 (spD G CG):=
 fnX (k:=0) (N:=Qt) (b:=Fz) T.x__law_good Ws λ _ _ _ _ _ _ hr=>Ab (A_ (PFW.pt (GX (bM (vp 0)) (Di (tEq hr (vp 1) (pU (Bh (Ae))))))) (Af (Ak (Pg (uz (vp 0)) (Pb (cEq hr (vp 1) (pU (Bh (Ae)))))))) (Ar)) (Ab (A_ (PFW.pt (GX (RL (J3 (pU (J8 rfl T.xt T.k_0 rfl T.z_isinstance Bu (vr 0) (lA rfl T.z_ValueError UG))) rfl)) (Di (J3 (pU (J8 rfl T.xt T.k_1 rfl T.z_isinstance Bu (vr 0) (VH (G7 T.e_NoPointing.m (G7 T.e_NoSaying.m (G7 T.e_TooGreat.m (G7 T.e_Unlike.m (VG)))))))) rfl)))) (Af (Ak (Qe))) (Ar)) (Ab (A_ (J3 (pU (J8 rfl T.xt T.k_2 rfl T.z_isinstance Bu (vr 0) (Hy rfl T.e_NoName.m))) rfl) (Af (Ak (Pg (jD (J8 rfl T.xt T.k_3 rfl T.z_isinstance Bu (vr 0) (VH (G7 T.e_NoThing.m (G7 T.e_NoWord.m (VG)))))) (Pb (cEq hr (vp 1) (pU (Bh (iS (Ag (Hr rfl T.xt (vr 0) T.nf_name) (Ae) Gf))))))))) (Ar)) (Ab (A_ (J3 (pU (J8 rfl T.xt T.k_4 rfl T.z_isinstance Bu (vr 0) (Hy rfl T.e_NoThing.m))) rfl) (Af (Ak (Pg (jD (J8 rfl T.xt T.k_5 rfl T.z_isinstance Bu (vr 0) (Hy rfl T.e_NoWord.m))) (Pb (cEq hr (vp 1) (pU (Bh (iS (Ag (Hr rfl T.xt (vr 0) T.nf_thing) (Ae) Gf))))))))) (Ar)) (Af (Ak (Pg (J8 rfl T.xt T.k_5 rfl T.z_isinstance Bu (vr 0) (Hy rfl T.e_NoWord.m)) (Pb (cEq hr (vp 1) (pU (Bh (iS (Ag (Hr rfl T.xt (vr 0) T.nf_word) (Ae) Gf))))))))))))
abbrev Wu:List Str:=["self","number","most"]
theorem Ua:FnScope Wu ["self","number","most"] (Ad OJ):=scO
theorem YL (T:Tx G mg):FnOk P w G.K mg base CX0 1 T.e_TooGreat.fi T.e_TooGreat.fd ["self","number","most"] (spE2 G.K "number" "most" okII):=
 T.e_TooGreat.F.ok Ua (λ vs H Q E h=>lL h) λ cdv A outer s H vs Q E hr h=>⟨_,FW (HB (Kw rfl T.r.m T.r.h1 T.r.h2 T.r.h3 (BZ (pv 0) (BZ (YF (c:=λ σ=>QF 1 σ/\QF 2 σ) (PP.imp (Za (pv 1)) λ _ z=>z.1) QD (PP.imp (Za (pv 2)) λ _ z=>z.2)) Cz)))) (FW (N6 (pv 0) (pv 1) rfl) (I_ (lK (pv 0) (pv 2) rfl))),Zd h rfl qT⟩
abbrev Zf:List Str:=["self","name"]
theorem YM:FnScope Zf ["self","name"] (Ad S8):=scO
theorem VL (T:Tx G mg):FnOk P w G.K mg base CX0 1 T.e_NoName.fi T.e_NoName.fd ["self","name"] (spE G.K "name" okS):=
 T.e_NoName.F.ok YM (λ vs H Q E h=>Rb h) λ cdv A outer s H vs Q E hr h=>⟨_,FW (HB (Kw rfl T.r.m T.r.h1 T.r.h2 T.r.h3 (BZ (pv 0) (BZ (YF QD (vJ (pv 1)) QD) Cz)))) (I_ (N6 (pv 0) (pv 1) rfl)),Lq h rfl Zb⟩
abbrev Zg:List Str:=["self","word"]
theorem YQ:FnScope Zg ["self","word"] (Ad S9):=scO
theorem QK (T:Tx G mg):FnOk P w G.K mg base CX0 1 T.e_NoWord.fi T.e_NoWord.fd ["self","word"] (spE G.K "word" okS):=
 T.e_NoWord.F.ok YQ (λ vs H Q E h=>Rb h) λ cdv A outer s H vs Q E hr h=>⟨_,FW (HB (Kw rfl T.r.m T.r.h1 T.r.h2 T.r.h3 (BZ (pv 0) (BZ (Sw (cD (pv 1)) QD) Cz)))) (I_ (N6 (pv 0) (pv 1) rfl)),Lq h rfl Zb⟩
abbrev Wv:List Str:=["self","line"]
theorem Ub:FnScope Wv ["self","line"] (Ad Oa):=scO
theorem YS (T:Tx G mg):FnOk P w G.K mg base CX0 1 T.e_NoSaying.fi T.e_NoSaying.fd ["self","line"] (spE G.K "line" okS):=
 T.e_NoSaying.F.ok Ub (λ vs H Q E h=>Rb h) λ cdv A outer s H vs Q E hr h=>⟨_,FW (HB (Kw rfl T.r.m T.r.h1 T.r.h2 T.r.h3 (BZ (pv 0) (BZ (Sw (cD (pv 1)) QD) Cz)))) (I_ (N6 (pv 0) (pv 1) rfl)),Lq h rfl Zb⟩
abbrev Qu:List Str:=["_law_number","_law_one"]
theorem Ol:FnScope Qu ["_law_number"] (Ad Qp):=scO
theorem Ww (T:Tx G mg):DOk P w base T.x__law_made 3 (spD G JK):=
 fnX (k:=2) (N:=Qu) (b:=K4) T.x__law_made Ol λ _ _ _ _ _ _ hr=>Ab (A_ (PFW.pt (GX (tNe hr (pU (Hr rfl T.xt (Wm (x:=T.e_NoThing) (TV T) hr Rf (vr 0)) T.nf_thing)) (vp 0)) (GX (tNe hr (pU (Hr rfl T.xt (Wm (x:=T.e_NoName) (VL T) hr Lr (Ja)) T.nf_name)) (sP)) (Di (tNe hr (pU (Hr rfl T.xt (Wm (x:=T.e_NoWord) (QK T) hr Lr (Ja)) T.nf_word)) (sP)))))) (Af (Ak (Qe))) (Ar)) (Ab (sF Ol.nd 1 (qW (x:=T.e_TooGreat) (YL T) hr (pav 0 (iI (Ae))))) (Ab (A_ (PFW.pt (GX (tNe hr (pU (Hr rfl T.xt (vr 1) T.nf_number)) (vp 0)) (GX (tNe hr (pU (Hr rfl T.xt (vr 1) T.nf_most)) (iP)) (Di (tNe hr (pU (Hr rfl T.xt (Wm (x:=T.e_NoSaying) (YS T) hr Lr (Ja)) T.nf_line)) (sP)))))) (Af (Ak (Qe))) (Ar)) (Af (Ak (Pg (J8 rfl T.xt T.k_6 rfl T.z_isinstance Bu (cP T.e_Unlike (Ja)) (Hy rfl T.a_RoundError.m)) (Pb (J8 rfl T.xt T.k_6 rfl T.z_isinstance Bu (cP T.e_NoPointing (Ja)) (Hy rfl T.a_RoundError.m))))))))
abbrev Om:List Str:=["saying"]
theorem Uc:FnScope Om ["saying"] (Ad Ob):=scO
theorem Mp (T:Tx G mg):DOk P w base T.x_sayings_in 1 (spD G CW):=
 fnX (k:=0) (N:=Om) (b:=KD) T.x_sayings_in Uc λ _ _ _ _ _ _ hr=>Ab (A_ (tIn hr (pU (iX hr (vp 0) (iP))) (pU (FP (EY (v:=.ref T.c_FACTS.a) rfl T.c_FACTS.m rfl) T.c_FACTS.r))) (Af (Ak (G4 (Ae)))) (Ar)) (Ab (A_ (tIn hr (pU (iX hr (vp 0) (iP))) (pU (FP (EY (v:=.ref T.c_BINDERS.a) rfl T.c_BINDERS.m rfl) T.c_BINDERS.r))) (Af (Ak (Du rfl (vp 0) (Cq (iP)) (GZ)))) (Ar)) (Af (Ak (Du rfl (vp 0) (Cq (iP)) (GZ)))))
abbrev Tc:List Str:=["fact"]
theorem YT:FnScope Tc ["fact"] (Ad S_):=scO
theorem Qv (T:Tx G mg):DOk P w base T.x_names_in 1 (spD G Fx):=
 fnX (k:=0) (N:=Tc) (b:=Ip) T.x_names_in YT λ _ _ _ _ _ _ hr=>Ab (A_ (tEq hr (pU (iX hr (vp 0) (iP))) (sP)) (Af (Ak (Du rfl (vp 0) (Cq (iP)) (GZ)))) (Ar)) (Af (Ak (Du rfl (vp 0) (Cq (iP)) (GZ))))
abbrev Gy:List Str:=["saying","names","part"]
theorem HX:FnScope Gy ["saying"] (Ad KZ):=scO
theorem Mq (T:Tx G mg):∀ n:Nat,DOk P w base T.x_free_names (n*1+1) (spD G (Bf n))
 | 0=>RP
 | n+1=>(fnX (k:=n*1+1) (N:=Gy) (b:=Ez (Bf n)) T.x_free_names HX λ _ _ _ _ _ _ hr=>Ab (A_ (tIn hr (pU (iX hr (vp 0) (iP))) (pU (FP (EY (v:=.ref T.c_FACTS.a) rfl T.c_FACTS.m rfl) T.c_FACTS.r))) (Af (Ak (jg rfl rfl rfl T.z_sorted Pq rfl T.z_set ZJ (pU (fX (Qv T) hr (pav 0 (Ae))))))) (Ar)) (Ab (sW HX.nd 1 (jP (Ae))) (Ab (Er z0E rfl (CJ rfl (fX (Mp T) hr (pav 0 (Ae)))) (Cr (gN HX.nd 2)) (Af (pD rfl (pv 1) (fX (Mq T n) hr (pav 2 (Ae)))))) (Ab (A_ (tIn hr (pU (iX hr (vp 0) (iP))) (pU (FP (EY (v:=.ref T.c_BINDERS.a) rfl T.c_BINDERS.m rfl) T.c_BINDERS.r))) (Af (eE (i:=1) (nT Gy "name") (by show Bv "name" Gy++(["name"]:List Str)=_;decide +kernel) (cO (N:=Gy) (sc:=Ad KZ) rfl rfl) rfl HX.nd rfl (by first | exact Or.inl rfl | exact Or.inr rfl) (RN rfl (vq 1)) (λ _ _ _=>Ga (tNe hr (vp 3) (pU (iX hr (vp 0) (iP))))) (λ _ _ _=>vr 3))) (Ar)) (Af (Ak (jg rfl rfl rfl T.z_sorted Pq rfl T.z_set ZJ (vq 1)))))))).mono (by omega)
abbrev JQ:List Str:=["world","names","places","name"]
theorem Fy:FnScope JQ ["world","names","places"] (Ad JN):=scO
theorem M4 (T:Tx G mg):FnOk P w G.K mg base (CX1 P w) 4 T.x_refuse_unplaced.f T.x_refuse_unplaced.fd ["world","names","places"] (spZ G Bl):=
 fnZ (k:=3) (N:=JQ) (b:=DW) T.x_refuse_unplaced Fy λ _ _ _ _ _ _ hr=>Gb (Rh PassesOwn.leaving rfl (CJ rfl (vr 1)) (Cr (gN Fy.nd 3)) (DP (QC (tNi hr (vp 3) (vp 2)) (DP (rZ (x:=T.e_NoName) (VL T) hr Lr (vr 3))) (RZ)))) (DP (Rh PassesOwn.leaving rfl (CJ rfl (vr 1)) (Cr (gN Fy.nd 3)) (DP (Ie (fZ (Ds T) hr (Ag (Ia T.fl_size (vp 0)) (Ag (iX hr (vp 2) (vp 3)) (Ae) Ah) Gf))))))
abbrev Gz:List Str:=["world","saying","part"]
theorem F_:FnScope Gz ["world","saying"] (Ad Gu):=scO
theorem GC (T:Tx G mg):∀ n:Nat,FnOk P w G.K mg base (CX1 P w) (n*1+2) T.x_refuse_strange_words.f T.x_refuse_strange_words.fd ["world","saying"] (spZ G (Ac n))
 | 0=>lF
 | n+1=>(fnZ (k:=n*1+2) (N:=Gz) (b:=Aj (Ac n)) T.x_refuse_strange_words F_ λ _ _ _ _ _ _ hr=>Gb (QC (PFW.pt (J2 (tEq hr (pU (iX hr (vp 1) (iP))) (sP)) (Fp (tNi hr (pU (iX hr (vp 1) (iP))) (pU (Ia T.fl_marked (vp 0))))))) (DP (rZ (x:=T.e_NoWord) (QK T) hr Lr (iX hr (vp 1) (iP)))) (RZ)) (Gb (QC (PFW.pt (J2 (tEq hr (pU (iX hr (vp 1) (iP))) (sP)) (Fp (tNi hr (pU (iX hr (vp 1) (iP))) (pU (Ia T.fl_tied (vp 0))))))) (DP (rZ (x:=T.e_NoWord) (QK T) hr Lr (iX hr (vp 1) (iP)))) (RZ)) (DP (Rh PassesOwn.leaving rfl (CJ rfl (fX (Mp T) hr (pav 1 (Ae)))) (Cr (gN F_.nd 2)) (DP (Ie (fZ (GC T n) hr (pav 0 (pav 2 (Ae)))))))))).mono (by omega)
abbrev Ep:List Str:=["world","fact"]
theorem YW:FnScope Ep ["world","fact"] (Ad Ka):=scO
theorem YX (T:Tx G mg):DOk P w base T.x_pairs_of 1 (spD G G_):=
 fnX (k:=0) (N:=Ep) (b:=Iu) T.x_pairs_of YW λ _ _ _ _ _ _ hr=>Ab (A_ (tEq hr (pU (iX hr (vp 1) (iP))) (sP)) (Af (Ak (Do (nT Ep "thing") (by show Bv "thing" Ep++(["thing"]:List Str)=_;decide +kernel) (cO (N:=Ep) (sc:=Ad Ka) rfl rfl) rfl (PFI.top (CJ rfl (iX hr (pU (Ia T.fl_marked (vp 0))) (pU (iX hr (vp 1) (iP)))))) (λ _ _ _=>Dv) (λ _ _ _=>G4 (pav 2 (pav 2 (Ae))))))) (Ar)) (Ab (A_ (tEq hr (pU (iX hr (vp 1) (iP))) (sP)) (Af (Ak (Do (nT Ep "thing") (by show Bv "thing" Ep++(["thing"]:List Str)=_;decide +kernel) (cO (N:=Ep) (sc:=Ad Ka) rfl rfl) rfl (Dd rfl T.z_range (pU (Ia T.fl_size (vp 0)))) (λ _ _ _=>Dv) (λ _ _ _=>G4 (pav 2 (pav 2 (Ae))))))) (Ar)) (Af (Ak (Jl ((GJ.or (J6 rfl)).or (J7 rfl)) Pz rfl T.z_list Nq (pU (iX hr (pU (Ia T.fl_tied (vp 0))) (pU (iX hr (vp 1) (iP)))))))))
abbrev Oo:List Str:=["world","fact","spots","names","first","last","cases","one","other"]
theorem Cj:FnScope Oo ["world","fact","spots"] (Ad Oc):=scO
theorem Ud (T:Tx G mg):DOk P w base T.x_fact_cases 2 (spD G Hu):=
 fnX (k:=1) (N:=Oo) (b:=KJ) T.x_fact_cases Cj λ _ _ _ _ _ _ hr=>Ab (sF Cj.nd 3 (fX (Qv T) hr (pav 1 (Ae)))) (Ab (sF Cj.nd 4 (iX hr (vp 2) (pU (iX hr (vp 3) (iP))))) (Ab (sF Cj.nd 5 (iX hr (vp 2) (pU (iX hr (vp 3) (pU (IW (iP))))))) (Ab (sF Cj.nd 6 (Kr)) (Ab (Er z0E rfl (CJ rfl (fX (YX T) hr (pav 0 (pav 1 (Ae))))) (Ny rfl rfl (Dj (gN Cj.nd 7) (Dj (gN Cj.nd 8) (Ku)))) (Af (sF Cj.nd 6 (Bs Z7 RK (vp 6) (pU (Bs O6 Jj (pU (iX hr (vp 4) (vp 7))) (pU (iX hr (vp 5) (vp 8))))))))) (Af (Ak (vr 6)))))))
abbrev Td:List Str:=["cases","width","times","row","turn"]
theorem JR:FnScope Td ["cases","width","times"] (Ad TF):=scO
theorem YZ (T:Tx G mg):DOk P w base T.x_repeated 1 (spD G KN):=
 fnX (k:=0) (N:=Td) (b:=Mz) T.x_repeated JR λ _ _ _ _ _ _ hr=>Ab (sF JR.nd 3 (Kr)) (Ab (Er z0E rfl (Dd rfl T.z_range (vp 2)) (Cr (gN JR.nd 4)) (Af (sF JR.nd 3 (Bs Z7 RK (pU (Bs Ni Nj (vp 3) (vp 1))) (vp 0))))) (Af (Ak (vr 3))))
abbrev Oq:List Str:=["width"]
theorem Ue:FnScope Oq ["width"] (Ad Od):=scO
theorem HY (T:Tx G mg):DOk P w base T.x_every_case 1 (spD G Cg):=
 fnX (k:=0) (N:=Oq) (b:=KQ) T.x_every_case Ue λ _ _ _ _ _ _ hr=>Af (Ak (bSub (pU (Bs Ni Nj (iP) (vp 0))) (iP)))
abbrev GD:List Str:=["world","name","spots","width","wide","known"]
theorem M5:FnScope GD ["world","name","spots","width"] (Ad Lz):=scO
theorem Zh (T:Tx G mg):DOk P w base T.x_widened 2 (spD G Lw):=
 fnX (k:=1) (N:=GD) (b:=QH) T.x_widened M5 λ _ _ _ _ _ _ hr=>Ab (sW M5.nd 4 (Nx)) (Ab (Er z0E rfl (CJ rfl (vr 2)) (Cr (gN M5.nd 5)) (Af (J4 (Hz hr) (pv 4) (vr 5) (Do (nT GD "cases") (by show Bv "cases" GD++(["cases"]:List Str)=_;decide +kernel) (cO (N:=GD) (sc:=Ad Lz) rfl rfl) rfl (PFI.top (CJ rfl (iX hr (vp 2) (vp 5)))) (λ _ _ _=>Dv) (λ _ _ _=>fX (YZ T) hr (pav 6 (pav 3 (Ag (Ia T.fl_size (vp 0)) (Ae) Gf)))))))) (Ab (J4 (Hz hr) (pv 4) (vr 1) (Do (nT GD "thing") (by show Bv "thing" GD++(["thing"]:List Str)=_;decide +kernel) (cO (N:=GD) (sc:=Ad Lz) rfl rfl) rfl (Dd rfl T.z_range (pU (Ia T.fl_size (vp 0)))) (λ _ _ _=>Dv) (λ _ _ _=>Bs Ni Nj (pU (fX (HY T) hr (pav 3 (Ae)))) (pU (bMul (vp 6) (vp 3)))))) (Af (Pu [4] (Ak (vr 4))))))
abbrev Fg:List Str:=["world","saying","spots","width","wide","within","blocks","some","every","block"]
theorem B_:FnScope Fg ["world","saying","spots","width"] (Ad Je):=scO
theorem Te (T:Tx G mg) {m:Nat}{rec_cases_so:List D->Option D}(hm:2<=m) (hrec:DOk P w base T.x_cases_so m (spD G rec_cases_so)):DOk P w base T.x_bound_cases (m+1) (spD G (Fe rec_cases_so)):=
 fnX (k:=m+0) (N:=Fg) (b:=HR rec_cases_so) T.x_bound_cases B_ λ _ _ _ _ _ _ hr=>Ab (sF B_.nd 4 (fX (Zh T) hr (pav 0 (Ag (iX hr (vp 1) (iP)) (pav 2 (pav 3 (Ae))) Ah)))) (Ab (sF B_.nd 5 (fX (hrec) hr (pav 0 (Ag (iX hr (vp 1) (iP)) (pav 4 (Ag (bMul (vp 3) (pU (Ia T.fl_size (vp 0)))) (Ae) Js)) Ah)))) (Ab (Ks (i:=6) (nT Fg "thing") (by show Bv "thing" Fg++(["thing"]:List Str)=_;decide +kernel) (cO (N:=Fg) (sc:=Ad Je) rfl rfl) rfl B_.nd rfl (by first | exact Or.inl rfl | exact Or.inr rfl) (Dd rfl T.z_range (pU (Ia T.fl_size (vp 0)))) (λ _ _ _=>Dv) (λ _ _ _=>Bs O6 Jj (pU (Bs Yt WQ (vp 5) (pU (bMul (vp 10) (vp 3))))) (pU (fX (HY T) hr (pav 3 (Ae)))))) (Ab (sF B_.nd 7 (Kr)) (Ab (sF B_.nd 8 (fX (HY T) hr (pav 3 (Ae)))) (Ab (Er z0E rfl (CJ rfl (vr 6)) (Cr (gN B_.nd 9)) (Ab (sF B_.nd 7 (Bs Z7 RK (vp 7) (vp 9))) (Af (sF B_.nd 8 (Bs O6 Jj (vp 8) (vp 9)))))) (Ab (A_ (tEq hr (pU (iX hr (vp 1) (iP))) (sP)) (Af (Ak (vr 7))) (Ar)) (Af (Ak (vr 8)))))))))
abbrev Tf:List Str:=["world","saying","spots","width","first","second"]
theorem K_:FnScope Tf ["world","saying","spots","width"] (Ad TJ):=scO
theorem JS (T:Tx G mg):∀ n:Nat,DOk P w base T.x_cases_so (n*2+2) (spD G (By n))
 | 0=>RP
 | n+1=>(fnX (k:=n*2+3) (N:=Tf) (b:=En (By n)) T.x_cases_so K_ λ _ _ _ _ _ _ hr=>Ab (A_ (tIn hr (pU (iX hr (vp 1) (iP))) (pU (FP (EY (v:=.ref T.c_FACTS.a) rfl T.c_FACTS.m rfl) T.c_FACTS.r))) (Af (Ak (fX (Ud T) hr (pav 0 (pav 1 (pav 2 (Ae))))))) (Ar)) (Ab (A_ (tIn hr (pU (iX hr (vp 1) (iP))) (pU (FP (EY (v:=.ref T.c_BINDERS.a) rfl T.c_BINDERS.m rfl) T.c_BINDERS.r))) (Af (Ak (fX (Te T (by omega) (JS T n)) hr (pav 0 (pav 1 (pav 2 (pav 3 (Ae)))))))) (Ar)) (Ab (sF K_.nd 4 (fX (JS T n) hr (pav 0 (Ag (iX hr (vp 1) (iP)) (pav 2 (pav 3 (Ae))) Ah)))) (Ab (A_ (tEq hr (pU (iX hr (vp 1) (iP))) (sP)) (Af (Ak (Bs uL jC (pU (fX (HY T) hr (pav 3 (Ae)))) (vp 4)))) (Ar)) (Ab (sF K_.nd 5 (fX (JS T n) hr (pav 0 (Ag (iX hr (vp 1) (iP)) (pav 2 (pav 3 (Ae))) Ah)))) (Ab (A_ (tEq hr (pU (iX hr (vp 1) (iP))) (sP)) (Af (Ak (Bs O6 Jj (vp 4) (vp 5)))) (Ar)) (Af (Ak (Bs Z7 RK (vp 4) (vp 5)))))))))).mono (by omega)
abbrev Ot:List Str:=["world","saying","places","given","names","spots","name"]
theorem LC:FnScope Ot ["world","saying","places"] (Ad Wn):=scO
theorem Ou (T:Tx G mg):FnOk P w G.K mg base (CX1 P w) 123 T.x_is_so.f T.x_is_so.fd ["world","saying","places"] (spZ G Ce):=
 fnZ (k:=122) (N:=Ot) (b:=HS) T.x_is_so LC λ _ _ _ _ _ _ hr=>Gb (PSD.x (sF LC.nd 3 (rR (bM (vp 2)) (jh) (vr 2)))) (Gb (PSD.x (sF LC.nd 4 (fX (Mq T 60) hr (pav 1 (Ae))))) (Gb (Ie (fZ (M4 T) hr (pav 0 (pav 4 (pav 3 (Ae)))))) (Gb (Ie (fZ (GC T 60) hr (pav 0 (pav 1 (Ae))))) (Gb (PSD.x (sW LC.nd 5 (Nx))) (Gb (Rh PassesOwn.leaving rfl (CJ rfl (vr 4)) (Cr (gN LC.nd 6)) (DP (PSD.x (J4 (Hz hr) (pv 5) (vr 6) (Do (nT Ot "thing") (by show Bv "thing" Ot++(["thing"]:List Str)=_;decide +kernel) (cO (N:=Ot) (sc:=Ad Wn) rfl rfl) rfl (Dd rfl T.z_range (pU (Ia T.fl_size (vp 0)))) (λ _ _ _=>Dv) (λ _ _ _=>rR (tEq hr (vp 7) (pU (iX hr (vp 3) (vp 6)))) (Kr) (Kr))))))) (DP (PSD.x (Pu [5] (Ak (cEq hr (pU (fX (JS T 60) hr (pav 0 (pav 1 (pav 5 (iI (Ae))))))) (iP)))))))))))
abbrev Mr:List Str:=["_law_way","_law_world_here","_law_saying","_law_handed_here","_law_caught_here","_law_e"]
theorem G3:FnScope Mr ["_law_way","_law_world_here","_law_saying","_law_handed_here"] (Ad Mi):=scO
theorem Tg (T:Tx G mg):DOk P w base T.x__law_caught 124 (spD G CZ):=
 fnX (k:=123) (N:=Mr) (b:=Ff) T.x__law_caught G3 λ _ _ _ _ _ _ hr=>Ab (sF G3.nd 4 (i_)) (Ab (qM (cs:=cs_) (i:=5) rfl rfl G3.nd rfl rfl rfl T.r.m T.r.x (qR T.xt) (λ _ _=>DP (QC (tEq hr (vp 0) (iP)) (DP (Ie (fZ1 T.y_is_so (Ou T) hr (pav 1 (pav 2 (Ae)))))) (DP (QC (tEq hr (vp 0) (iP)) (DP (Ie (fZ (Ou T) hr (pav 1 (pav 2 (Ag (i_) (Ae) Kz)))))) (DP (Ie (fZ (Ou T) hr (pav 1 (pav 2 (pav 3 (Ae))))))))))) (λ _=>Af (sF G3.nd 4 (vr 5)))) (Af (Ak (vr 4))))
abbrev sU:List Str:=["_law_script","_law_words_here","_law_size","_law_marks","_law_ties","_law_names_here","_law_kind","_law_handed_here","_law_some","_law_others","_law_saying","_law_world_here","_law_kept","_law_way","_law_due_here","_law_good_here"]
theorem D_:FnScope sU ["_law_script"] (Ad sS):=scO
theorem vQ (T:Tx G mg):DOk P w base T.x_law 125 (spD G VJ):=
 fnX (k:=124) (N:=sU) (b:=cR) T.x_law D_ λ _ _ _ _ _ _ hr=>Ab (sF D_.nd 1 (fX (UJ T) hr (Ag (fX (FJ T) hr (pav 0 (iI (Ae)))) (Ae) Fi))) (Ab (pW (Ny rfl rfl (Dj (gN D_.nd 2) (Dj (gN D_.nd 3) (Dj (gN D_.nd 4) (Ku))))) (fX (UL T) hr (Ag (fX (FJ T) hr (pav 0 (iI (Ae)))) (Ag (fX (FJ T) hr (pav 0 (iI (Ae)))) (pav 1 (Ae)) Fi) Fi))) (Ab (sF D_.nd 5 (fX (UT T) hr (Ag (fX (FJ T) hr (pav 0 (iI (Ae)))) (Ae) Fi))) (Ab (sF D_.nd 6 (fX (FJ T) hr (pav 0 (iI (Ae))))) (Ab (sF D_.nd 7 (fX (TQ T) hr (Ag (bMod (pU (bDiv (vp 6) (iP))) (pU (Bs O5 Lh (iP) (iP)))) (pav 6 (pav 5 (pav 2 (Ae)))) Js))) (Ab (sF D_.nd 8 (Jl ((GJ.or (J6 rfl)).or (J7 rfl)) Pz rfl T.z_list Nq (vp 3))) (Ab (sF D_.nd 9 (Jl ((GJ.or (J6 rfl)).or (J7 rfl)) Pz rfl T.z_list Nq (vp 4))) (Ab (A_ (tEqF hr (pU (bMod (pU (bDiv (vp 6) (iP))) (iP))) (iP)) (Ab (sF D_.nd 8 (bAdd (vp 8) (pU (Du rfl (vp 1) (Cq (iP)) (Cq (iP)))))) (Af (sF D_.nd 9 (bAdd (pU (Du rfl (vp 1) (Cq (iP)) (Cq (iP)))) (vp 9))))) (Ar)) (Ab (sF D_.nd 10 (iX hr (pU (fX (UW T) hr (Ag (Du rfl (vp 0) (Cq (iP)) (Cq (iP))) (pav 8 (pav 9 (pav 5 (iI (Ae))))) Ah))) (iP))) (Ab (sF D_.nd 11 (u6 T.gc_World T.x_World___init__.mM (Og T) (hr.mono (by omega)) rfl T.mC_World T.x_World___init__.B (pav 2 (pav 3 (pav 4 (Ae)))))) (Ab (sF D_.nd 12 (PN.pf (pP rfl T.z_dict pB (vp 7)))) (Ab (sF D_.nd 13 (bMod (pU (bMod (pU (bMul (pU (fX (FJ T) hr (pav 0 (iI (Ae))))) (iP))) (iP))) (iP))) (Ab (sF D_.nd 14 (fX (YK T) hr (pav 10 (Ag (iX hr (pU (Bh (Ag (jh) (Ag (jh) (pav 7 (Ae)) cM) cM))) (pU (Nk (dW rfl) jK rfl T.z_min um (vp 13) (iP)))) (pav 2 (pav 3 (pav 4 (Ae)))) Ah)))) (Ab (A_ (RL (J3 (pU (fX (Wt T) hr (Ag (fX (Tg T) hr (pav 13 (pav 11 (pav 10 (pav 7 (Ae)))))) (pav 14 (Ae)) Fi))) rfl)) (Af (Ak (Qe))) (Ar)) (Ab (A_ (tNeF hr (vp 7) (vp 12)) (Af (Ak (Qe))) (Ar)) (Ab (sF D_.nd 15 (G4 (iS (Ag (iX hr (vp 5) (iP)) (Ag (G4 (iS (Ag (iX hr (vp 5) (iP)) (Ag (iX hr (vp 5) (iP)) (Ae) Ah) Ah))) (Ae) K1) Ah)))) (Af (Ak (Pg (fX (Ww T) hr (Ag (bMod (vp 6) (pU (Bs O5 Lh (iP) (iP)))) (Ae) Js)) (Pb (ul jO rfl rfl T.z_isinstance Bu rfl T.z_bool pA (pU (fX1 T.y_is_so (cL (Ou T)) hr (pav 11 (pav 15 (Ae)))))))))))))))))))))))))
end
abbrev gx (K:zFr) (C_World:Addr) (l:List (Str×Addr)):Gx:=gx2 K "World" C_World l
def sV (K:zFr):Sp:=λ vs H Q _=>∃ (a:Addr) (ns:List Int),vs=[.ref a]/\SqL K H a (ns.map V.int)/\ns.length<=63/\(∀ i∈ns,Builtin.Int.intBits i<=1048576)/\∀ H',Q (.bl true) H'
theorem vR (ht:∀ ns:List Int,ns.length<=63->(∀ i∈ns,Builtin.Int.intBits i<=1048576)->VJ [.lst (ns.map .int)]=some (.bl true)) {K:zFr}{C_World:Addr}{l:List (Str×Addr)}(vs:List V) (H:Hp) (Q:VK) (E:XK) (h:sV K vs H Q E):spD (gx K C_World l) VJ vs H Q E:=by
 obtain⟨a,ns,rfl,hs,hl,hbt,k⟩:=h;refine⟨[],[.lst (ns.map .int)],.bl true,(λ _ z=>nomatch z),RepL.cons ?_ RepL.nil,ht ns hl hbt,λ v H2 _ r=>?_⟩
 ·have e:hid [] H=H:=by funext b;exact Bp (λ z=>nomatch z)
  rw[e];refine .lst hs (by simp) λ i x d h1 h2=>?_;rw[z0g] at h1 h2;cases e2:ns[i]? with
  | none=>rw[e2] at h1;cases h1
  | some z=>rw[e2] at h1 h2;cases h1;cases h2;exact .int z
 ·cases r;exact k H2
end K16
namespace KB
open PySem L2 PV
theorem Ov (a b:Nat):Builtin.bitAnd (a:Int) (b:Int)=((a&&&b:Nat):Int):=by
 unfold Builtin.bitAnd;simp[Int.natCast_nonneg]
theorem Th (a b:Nat):Builtin.bitOr (a:Int) (b:Int)=((a|||b:Nat):Int):=by
 have h (x:Nat):¬ (0:Int)<=Builtin.bitNot (x:Int):=by unfold Builtin.bitNot;omega
 have n (x:Int):Builtin.bitNot (Builtin.bitNot x)=x:=by unfold Builtin.bitNot;omega
 unfold Builtin.bitOr Builtin.bitAnd;simp only[h,decide_false,n,z0r]
theorem full (w:Nat):((2:Int)^w-1)=((2^w-1:Nat):Int):=by
 have h:=z11 w;have e:((2^w:Nat):Int)=(2:Int)^w:=by simp
 omega
theorem lR (w x:Nat) (h:x<2^w):Builtin.bitXor ((2^w-1:Nat):Int) (x:Int)=((2^w-(x+1):Nat):Int):=by
 have n (x:Int):Builtin.bitNot (Builtin.bitNot x)=x:=by unfold Builtin.bitNot;omega
 have e:(2^w-1)&&&x=x:=by rw[Nat.and_comm,Nat.and_two_pow_sub_one_eq_mod,Nat.mod_eq_of_lt h]
 have f:(2^w-1)|||x=2^w-1:=by
  apply Nat.eq_of_testBit_eq;intro i;rw[z1S,z21]
  by_cases q:i<w
  ·simp[q]
  ·have z:x.testBit i=false:=Nat.testBit_lt_two_pow (z0m h (z1H (by decide) (by omega)));simp[q,z]
 unfold Builtin.bitXor;rw[Th,Ov,e,f];omega
def rep (x w:Nat):Nat->Nat
 | 0=>0
 | n+1=>rep x w n<<<w|||x
theorem Zi {x w:Nat}(h:x<2^w):∀ n,rep x w n<2^(w*n)
 | 0=>by simp[rep]
 | n+1=>by
  have ih:=Zi h n;have e:w*(n+1)=w*n+w:=by rw[z1I]
  refine Nat.or_lt_two_pow ?_ (z0m h (z1H (by decide) (by omega)));rw[Nat.shiftLeft_eq,e,Nat.pow_add];exact Nat.mul_lt_mul_of_pos_right ih (z11 w)
theorem cT {x w j:Nat}(h:x<2^w) (hj:j<w):∀ n k,(rep x w n).testBit (j+w*k)=(decide (k<n)&&x.testBit j)
 | 0,k=>by simp[rep]
 | n+1,0=>by
  rw[rep,z1S,Nat.testBit_shiftLeft];simp[hj];omega
 | n+1,k+1=>by
  have e:j+w*(k+1)-w=j+w*k:=by rw[z1I];omega
  have g:w<=j+w*(k+1):=by rw[z1I];omega
  have z:x.testBit (j+w*(k+1))=false:=Nat.testBit_lt_two_pow (z0m h (z1H (by decide) g));rw[rep,z1S,Nat.testBit_shiftLeft,z,e,cT h hj n k];simp[g]
theorem lU {w t k:Nat}(hj:j<w):((2^w-1)<<<(t*w)).testBit (j+w*k)=decide (k=t):=by
 rw[Nat.testBit_shiftLeft,z21]
 by_cases h:k=t
 ·subst h;have e:j+w*k-k*w=j:=by rw[z1g k w];omega
  have g:k*w<=j+w*k:=by rw[z1g k w];omega
  simp[e,g,hj]
 ·by_cases g:t<=k
  ·have l:t+1<=k:=by omega
   have m:=z1r w l;rw[z1I] at m;have c:t*w=w*t:=z1g _ _;have:¬ j+w*k-t*w<w:=by omega
   simp[this,h]
  ·have l:k+1<=t:=by omega
   have m:=z1r w l;rw[z1I] at m;have c:t*w=w*t:=z1g _ _;have:¬ t*w<=j+w*k:=by omega
   simp[this,h]
theorem qY {w t:Nat}(h:t<n):(2^w-1)<<<(t*w)<2^(w*n):=by
 have l:=z1r w (show t+1<=n from h);rw[z1I] at l;rw[Nat.shiftLeft_eq];have p:=z11 w;have q:(2^w-1)*2^(t*w)<2^w*2^(t*w):=Nat.mul_lt_mul_of_pos_right (by omega) (z11 _);rw[<-Nat.pow_add] at q;refine z0m q (z1H (by decide) ?_);have c:t*w=w*t:=z1g _ _;omega
theorem fD {c w k:Nat}(hj:j<w):((c>>>(k*w))&&&(2^w-1)).testBit j=c.testBit (j+w*k):=by
 rw[Nat.testBit_and,Nat.testBit_shiftRight,z21];have e:k*w+j=j+w*k:=by rw[z1g k w];omega
 simp[hj,e]
theorem lV {c w k:Nat}:(c>>>(k*w))&&&(2^w-1)<2^w:=by
 rw[Nat.and_two_pow_sub_one_eq_mod];exact Nat.mod_lt _ (z11 w)
theorem qZ {w x:Nat}(h:x<2^w) (hj:j<w):(2^w-(x+1)).testBit j=!x.testBit j:=by
 rw[Nat.testBit_two_pow_sub_succ h];simp[hj]
end KB
section
open PySem L2 PV
local macro_rules | `(tactic| w_up) => `(tactic| (rw [z03, Ck, e_tg, GP, Ho]; simp only [z0n, z0o]))
local macro_rules | `(tactic| simp only [cK, $ls,*] $[$l:location]?) => `(tactic| simp only [Qd, e_nx, e_rt, e_bk, e_ct, Xd, e_if, Xe, Xf, NQ, J0, Xg, Rt, Vo, Vp, Q3, e_b, e_bs, e_u, e_us, Vq, Q4, Ru, NT, Uu, aK, Uv, Vr, Vs, Vt, Vu, Vv, Vw, Rv, Vx, Vy, Rw, Vz, V0, V1, e_bl, Uw, V2, Q5, Q6, aL, V3, V4, V5, V6, Q7, Q8, aM, V7, V8, V9, Q9, aN, V_, WD, e_sl, aO, aP, Q_, NZ, e_v, e_vs, e_vU, aQ, aR, e_k, WF, RB, RC, JV, Ux, PJ, MP, Ry, WL, R0, WM, Ji, Uy, e_tr, H_, GK, MT, JZ, CP, Hb, Ck, C_, RG, RJ, Lg, GP, e_tg, Ho, z0s, z1e, z03, z0q, z1T, z0F, z1l, z1U, z0w, z0I, z0n, z0o, Nat.reduceAdd, Nat.reduceSub, Nat.reduceEqDiff, z0A, truB, z1J, z1V, decide_true, decide_false, z0t, Int.reduceLT, Int.reduceLE, Int.reduceNeg, Int.reduceEq, Int.reduceToNat, Nat.reduceLeDiff, ix0, ix1, ix2, ixt0, ixt1, ixt2, ixt3, $ls,*] $[$l:location]?)
local macro_rules | `(tactic| simp only [cK]) => `(tactic| simp only [cK, z0n])
local macro_rules | `(tactic| simp only [kC, $ls,*] $[$l:location]?) => `(tactic| simp only [$ls,*, Qd, e_nx, e_rt, e_bk, e_ct, Xd, e_if, Xe, Xf, NQ, J0, Xg, Rt, Vo, Vp, Q3, e_b, e_bs, e_u, e_us, Vq, Q4, Ru, NT, Uu, aK, Uv, Vr, Vs, Vt, Vu, Vv, Vw, Rv, Vx, Vy, Rw, Vz, V0, V1, e_bl, Uw, V2, Q5, Q6, aL, V3, V4, V5, V6, Q7, Q8, aM, V7, V8, V9, Q9, aN, V_, WD, e_sl, aO, aP, Q_, NZ, e_v, e_vs, e_vU, aQ, aR, e_k, WF, RB, RC, JV, Ux, PJ, MP, Ry, WL, R0, WM, Ji, Uy, e_tr, H_, GK, MT, JZ, CP, Hb, Ck, C_, RG, RJ, Lg, GP, e_tg, Ho, z0s, z1e, z03, z0q, z1T, z0F, z1l, z1U, z0w, z0I, z0n, z0o, Nat.reduceAdd, Nat.reduceSub, Nat.reduceEqDiff, z0A, truB, z1J, z1V, decide_true, decide_false, z0t, Int.reduceLT, Int.reduceLE, Int.reduceNeg, Int.reduceEq, Int.reduceToNat, Nat.reduceLeDiff, ix0, ix1, ix2, ixt0, ixt1, ixt2, ixt3] $[$l:location]?)
local macro_rules | `(tactic| simp only [kiC, $ls,*] $[$l:location]?) => `(tactic| simp only [kC, $ls,*, De, JC, Y_, Vm, Xa, iZ, ie, ig, Xb, ir, aJ] $[$l:location]?)
local macro_rules | `(tactic| simp only [dK, $ls,*] $[$l:location]?) => `(tactic| simp only [cK, j7, Mw, j8, RW, bW, bY, bZ, bc, bf, bh, bu, bx, Hk, HF, bz, RX, Hq, FQ, j9, b_, Sg, Sh, My, j_, cA, X8, Ln, VB, sE, $ls,*] $[$l:location]?)
local macro_rules | `(tactic| simp only [ciK, $ls,*] $[$l:location]?) => `(tactic| simp only [cK, De, JC, Y_, Vm, Xa, iZ, ie, ig, Xb, ir, aJ, $ls,*] $[$l:location]?)
local macro_rules | `(tactic| simp only [diK, $ls,*] $[$l:location]?) => `(tactic| simp only [dK, De, JC, Y_, Vm, Xa, iZ, ie, ig, Xb, ir, aJ, $ls,*] $[$l:location]?)
namespace K16
open PySem L2 PV
def dzO (ρ:Rho) (o:Option D):Option Out:=o.map λ d=>match excOf d with | some _=>.rt d ρ | none=>.nx ρ
theorem Aq (f:FE) (ρ:Rho):Mf f ρ=dzO ρ (f ρ):=zE_ _
theorem CK (ρ:Rho):dzO ρ (some .non)=some (.nx ρ):=zE_ _
theorem mod2 (n:Int) (h:¬ n%2=0):n%2=1:=by omega
abbrev cs (x:Str):List Nat:=x.cps.toList
theorem Ti (x y:Str):cs (x++y)=cs x++cs y:=by show (x.cps++y.cps).toList=_;simp[cs]
theorem LK (x:Str):(cs x).length=x.length:=by simp[cs,Str.length]
theorem lW {x y:Str}(h:cs x=cs y):x=y:=by
 cases x with | mk a=>cases y with | mk b=>simp[cs] at h;rw[h]
theorem Wx (x:Str) (lo hi:Option Int):cs (cutS x lo hi)=cutD (cs x) lo hi:=by simp[cs,cutS]
def LET:Str:="abcdefghijklmnopqrstuvwxyz"
theorem Ow:LET.length=26:=by decide +kernel
def IsL (x:Str):Prop:=∀ c∈cs x,c∈cs LET
theorem Ri {x y:Str}(h:IsL x) (k:IsL y):IsL (x++y):=λ c hc=>by
 rw[Ti] at hc
 rcases z0p.mp hc with q | q
 ·exact h c q
 ·exact k c q
theorem Wy {x:Str}(h:IsL x) (lo hi:Option Int):IsL (cutS x lo hi):=λ c hc=>by
 rw[Wx] at hc;unfold cutD at hc;exact h c (List.mem_of_mem_drop (List.mem_of_mem_take hc))
theorem fG:IsL "":=by
 have e:cs ("":Str)=[]:=by decide +kernel
 intro c hc;rw[e] at hc;cases hc
def Nm (x:Str):Prop:=∃ c,c∈cs LET/\x=⟨#[c]⟩
theorem Nm.isL {x:Str}(h:Nm x):IsL x:=by obtain⟨c,hc,rfl⟩:=h;intro d hd;simp[cs] at hd;subst hd;exact hc
theorem Nm.len {x:Str}(h:Nm x):x.length=1:=by obtain⟨c,hc,rfl⟩:=h;rfl
theorem xO (i:Int) (h0:0<=i) (h1:i<26):∃ c,(cs LET)[i.toNat]?=some c/\c∈cs LET/\ixD (.str LET) (.int i)=some (.str ⟨#[c]⟩):=by
 have hl:(cs LET).length=26:=by rw[LK];exact Ow
 have hi:i.toNat<(cs LET).length:=by omega
 refine⟨(cs LET)[i.toNat],by simp[hi],z1x hi,?_⟩;show (if LET.length<=sizeLine then (atI (cs LET) i).map (λ c=>D.str ⟨#[c]⟩) else none)=_;rw[if_pos (CV (by rw[Ow];decide)),Y9 h0 (by rw[hl];omega)];simp[hi]
theorem sX (j:Int):∃ x:Str,ixD (.str LET) (.int (j%26))=some (.str x)/\Nm x:=by
 obtain⟨c,hc,e⟩:=oG LET 26 j (by rw[Ow];rfl) (by rw[Ow];decide) (by rw[Ow];decide);exact⟨_,e,c,hc,rfl⟩
def KEPT:List Str:=["not","and","or","some","all"]
structure Wd (x:Str):Prop where
 lo:1<=x.length
 hi:x.length<=8
 isL:IsL x
 kept:x∉KEPT
def Pre (x:Str):Prop:=1<=x.length/\x.length<=7/\IsL x
theorem z_wd {x:Str}(h:Pre x):Wd ("z"++x):=by
 have z1:Str.length "z"=1:=by decide +kernel
 refine⟨by rw[CN];omega,by rw[CN];have:=h.2.1;omega,Ri ?_ h.2.2,λ hk=>?_⟩
 ·intro c hc;have:c=122:=by
   have e:cs ("z":Str)=[122]:=by decide +kernel
   rw[e] at hc;simpa using hc
  subst this;decide +kernel
 ·have e:cs ("z"++x)=122::cs x:=by
   rw[Ti];have e:cs ("z":Str)=[122]:=by decide +kernel
   rw[e];rfl
  have n:∀ y∈KEPT,(cs y).head?≠some 122:=by decide +kernel
  exact n _ hk (by rw[e];rfl)
theorem Zj (i n:Int) (m:Nat) (hm:m<=6):∃ (n':Int) (b:Str) (z:Slot),forF (tgB (CT 4) Eg) (rngD m) [.fz (.int i),.fz (.str LET),.fz (.int n),.fz (.str ""),.un,.un,.un]=some (.nx [.fz (.int i),.fz (.str LET),.fz (.int n'),.fz (.str b),z,.un,.un])/\b.length<=6/\IsL b:=by
 obtain⟨ρ',e,n',b,z,rfl,hb,hL⟩:=Ko (b:=tgB (CT 4) Eg) (ds:=rngD m) (ρ:=[.fz (.int i),.fz (.str LET),.fz (.int n),.fz (.str ""),.un,.un,.un])
  (P:=λ k ρ=>∃ (n':Int) (b:Str) (z:Slot),ρ=[.fz (.int i),.fz (.str LET),.fz (.int n'),.fz (.str b),z,.un,.un]/\b.length<=k/\IsL b) 0 ⟨n,"",.un,rfl,by decide,fG⟩ (by
   rintro k d ρ hd ⟨n',b,z,rfl,hb,hL⟩;have hk:k<m:=by
    have:=(z0C.mp hd).1;rw[Df] at this;exact this
   obtain⟨x,ex,hx⟩:=sX (n'/7);have hx1:=hx.len;have ea:=Vn (i:=b) (j:=x) (by omega);refine⟨[.fz (.int i),.fz (.str LET),.fz (.int (n'/11)),.fz (.str (b++x)),.fz d,.un,.un],?_,n'/11,b++x,.fz d,rfl,by rw[CN];omega,Ri hL hx.isL⟩;show Eg [.fz (.int i),.fz (.str LET),.fz (.int n'),.fz (.str b),.fz d,.un,.un]=_;simp only[ciK,Eg,ex,ea])
 rw[Df] at hb;exact⟨n',b,z,e,by omega,hL⟩
theorem xP:powD (.int 10) (.int 18)=some (.int 1000000000000000000):=by rfl
theorem xQ {w4:List Str}(h6:w4.length=6) (r4:∀ x∈w4,Nm x):aH (.str "") (.lst (w4.map .str))=some (.str (Str.join "" w4))/\(Str.join "" w4).length=6/\IsL (Str.join "" w4):=by
 have e0:Str.length ""=0:=by decide +kernel
 match w4,h6,r4 with
 | [a,b,c,d,e,f],_,r4=>
  have ha:=r4 a (by simp);have hb:=r4 b (by simp);have hc:=r4 c (by simp);have hd:=r4 d (by simp);have he:=r4 e (by simp);have hf:=r4 f (by simp);refine⟨?_,?_,?_⟩
  ·show (Ha ([a,b,c,d,e,f].map .str)).bind (λ ys=>if (ys.map (·.length)).sum+ys.length*(Str.length "")<=16777216 then some (D.str (Str.join "" ys)) else none)=_;rw[PK,z0c,if_pos];simp only[z03,z0q,List.sum_cons,List.sum_nil,ha.len,hb.len,hc.len,hd.len,he.len,hf.len,e0,z0s,z1e];decide
  ·simp only[Str.join,CN,ha.len,hb.len,hc.len,hd.len,he.len,hf.len,e0]
  ·intro x hx;have e:cs ("":Str)=[]:=by decide +kernel
   simp only[Str.join,Ti,z0p,e,List.not_mem_nil,or_false,false_or] at hx
   repeat' (rcases hx with hx | hx)
   all_goals first | exact ha.isL x hx | exact hb.isL x hx | exact hc.isL x hx | exact hd.isL x hx | exact he.isL x hx | exact hf.isL x hx
theorem sq6 {k:Nat}(hk:k<6):(0:Int)<=(k:Int)*k/\(k:Int)*k<=36:=by
 have h1:k=0∨k=1∨k=2∨k=3∨k=4∨k=5:=by omega
 rcases h1 with rfl | rfl | rfl | rfl | rfl | rfl<;>decide
theorem VM {ρ:Rho}{ga:FT}{fe:FE}:∀ {ds:List D},Bo ρ ga fe ds=some []->∀ d∈ds,ga (ρ++[.fz d])=some false
 | [],_,d,hd=>by cases hd
 | x::r,h,d,hd=>by
  rw[Bg] at h;cases e:ga (ρ++[.fz x]) with
  | none=>rw[e] at h;cases h
  | some b=>
   rw[e] at h;cases b with
   | true=>
    cases e2:fe (ρ++[.fz x]) with
    | none=>rw[e2] at h;cases h
    | some y=>
     cases e3:Bo ρ ga fe r with
     | none=>rw[e2,e3] at h;cases h
     | some l=>rw[e2,e3] at h;cases h
   | false=>
    rw[Nf] at h
    rcases z0d.mp hd with rfl | hd
    ·exact e
    ·exact VM h d hd
theorem lX {x:Str}{a:Int}(h0:0<=a) (h1:a<=x.length):(cutS x none (some a)).length+(cutS x (some a) none).length=x.length:=by
 obtain⟨k,rfl⟩:=Int.eq_ofNat_of_zero_le h0;rw[<-LK,<-LK,<-LK,Wx,Wx];have e1:=iW (cs x) k;have e2:=iY (cs x) k;have hl:=LK x;show (cutD (cs x) none (some (k:Int))).length+(cutD (cs x) (some (k:Int)) none).length=_;rw[e1,e2,z0V,z1c];omega
def Kf (j:Int):Str:=⟨#[(cs LET).getD (j%26).toNat 0]⟩
theorem Ox (j:Int):ixD (.str LET) (.int (j%26))=some (.str (Kf j))/\Nm (Kf j):=by
 obtain⟨c,h1,h2,h3⟩:=xO (j%26) (z19 _ (by decide)) (z1o _ (by decide));have e:(cs LET).getD (j%26).toNat 0=c:=by simp[List.getD,h1]
 delta Kf;rw[e];exact⟨h3,c,h2,rfl⟩
theorem qb:∀ i<26,∀ j<26,(cs LET).getD i 0=(cs LET).getD j 0->i=j:=by decide +kernel
theorem VN {i j:Int}(h:Kf i=Kf j):i%26=j%26:=by
 have e:(cs LET).getD (i%26).toNat 0=(cs LET).getD (j%26).toNat 0:=by
  have:=congrArg cs h;simpa [Kf,cs] using this
 have hi:=z19 i (show (26:Int)≠0 by decide);have hi':=z1o i (show (0:Int)<26 by decide);have hj:=z19 j (show (26:Int)≠0 by decide);have hj':=z1o j (show (0:Int)<26 by decide);have:=qb (i%26).toNat (by omega) (j%26).toNat (by omega) e;omega
theorem Tj (f:Nat->Str) (src:FI) (hs:src ρ=some (rngD n)) (hn:n<=1000) (h:∀ k,k<n->fe (ρ++[.fz (.int k)])=some (.str (f k))):BJ src allT fe ρ=some (.lst (((List.range n).map f).map .str)):=by
 have c:∀ l:List Nat,(∀ k∈l,k<n)->Bo ρ allT fe (l.map λ (k:Nat)=>D.int k)=some ((l.map f).map .str):=by
  intro l
  induction l with
  | nil=>intro _;rfl
  | cons k r ih=>
   intro hl;rw[z03,Bg,MP,h k (hl k (by simp)),ih λ d hd=>hl d (by simp[hd])];rfl
 exact Ea hs (by rw[Df];omega) (c (List.range n) λ k hk=>z0B.mp hk)
theorem nodup_range {α:Type} [DecidableEq α] (f:Nat->α) (n:Nat) (h:∀ i<n,∀ j<n,f i=f j->i=j):((List.range n).map f).Nodup:=by
 rw[List.Nodup,List.pairwise_map];refine List.Pairwise.imp_of_mem ?_ List.nodup_range;intro a b ha hb hab e;exact hab (h a (z0B.mp ha) b (z0B.mp hb) e)
theorem Zk {a b d:Str}(h:a++c++b=a++d++b):c=d:=by
 have:=congrArg cs h;simp only[Ti] at this;exact lW (List.append_cancel_left (List.append_cancel_right this))
theorem xR {x y:Str}(h:("z":Str)++x="z"++y):x=y:=by
 have:=congrArg cs h;simp only[Ti] at this;exact lW (List.append_cancel_left this)
theorem lY (i:Int):∃ ws:List Str,Dp [.int i]=some (.lst (ws.map .str))/\ws.length=6/\(∀ x∈ws,Wd x)/\ws.Nodup:=by
  obtain⟨n,hn⟩:∃ n,modD (.int (i*1000000007)) (.int 1000000000000000000)=some (.int n):=⟨_,De _ _ (by decide)⟩;have em:=JD i 1000000007 (by decide);have ep:=xP;have hmod:0<=n%7/\n%7<7:=by clear hn em ep;omega
  obtain⟨n',b,z,el,hb,hbL⟩:=Zj i n (n%7).toNat (by omega);have lb:=rN b (by omega);obtain⟨at',emod,ha0,ha1⟩:∃ a,modD (.int (n'/7)) (.int ((b.length:Int)+1))=some (.int a)/\0<=a/\a<=b.length:=⟨_,De _ _ (by omega),z19 _ (by omega),by have:=z1o (n'/7) (show (0:Int)<(b.length:Int)+1 by omega);omega⟩;have cb:=lX ha0 ha1;generalize hf1:(λ k:Nat=>cutS b none (some at')++Kf (n'/5+5*(k:Int))++cutS b (some at') none)=f1;have f1e:∀ k,f1 k=cutS b none (some at')++Kf (n'/5+5*(k:Int))++cutS b (some at') none:=λ k=>by rw[<-hf1]
  have pre1:∀ k,Pre (f1 k):=λ k=>by
    have hx:=(Ox (n'/5+5*(k:Int))).2;have hx1:=hx.len;rw[f1e];exact⟨by rw[CN,CN];omega,by rw[CN,CN];omega,Ri (Ri (Wy hbL _ _) hx.isL) (Wy hbL _ _)⟩
  have nd1:((List.range 6).map f1).Nodup:=nodup_range f1 6 λ i hi j hj e=>by
    rw[f1e,f1e] at e;have:=VN (Zk e);omega
  have c1:BJ (rngI (kF (.int 6))) allT Ii [.fz (.int i),.fz (.str LET),.fz (.int n'),.fz (.str b),z,.fz (.int at'),.un]=some (.lst (((List.range 6).map f1).map .str)):=Tj f1 _ (by rfl) (by decide) λ k hk=>by
    have e1:=NP 5 (k:Int) (by decide);obtain⟨ex,hx⟩:=Ox (n'/5+5*(k:Int));have hx1:=hx.len;have s1:=sl_s b none (some at') (by omega);have s2:=sl_s b (some at') none (by omega);have a1:=Vn (i:=cutS b none (some at')) (j:=Kf (n'/5+5*(k:Int))) (by omega);have a2:=Vn (i:=cutS b none (some at')++Kf (n'/5+5*(k:Int))) (j:=cutS b (some at') none) (by rw[CN];omega);simp only[ciK,Ii,e1,ex,s1,s2,a1,a2,f1e]
  have fin:∀ (b':Str) (w:List Str),w.length=6->(∀ x∈w,Pre x)->w.Nodup->∃ (o2:List D),BJ (seqI (vF 6)) (Bw) (Cu) [.fz (.int i),.fz (.str LET),.fz (.int n'),.fz (.str b'),z,.fz (.int at'),.fz (.lst (w.map .str))]=some (.lst o2)
     /\BJ (seqI (vF 6)) (allT) (Eh) [.fz (.int i),.fz (.str LET),.fz (.int n'),.fz (.str b'),z,.fz (.int at'),.fz (.lst (w.map .str))]=some (.lst ((w.map λ x=>("z":Str)++x).map .str))/\(¬ (0:Int)<o2.length->∀ x∈w,Wd x):=by
    intro b' w hw hs _;have tst:∀ x:Str,Bw ([.fz (.int i),.fz (.str LET),.fz (.int n'),.fz (.str b'),z,.fz (.int at'),.fz (.lst (w.map .str))]++[.fz (.str x)])=some (KEPT.any (λ y=>y==x)):=λ x=>by
      have:=aW x ["not","and","or","some","all"];simp only[z03,z0q] at this;simp only[cK,Bw,this];rfl
    obtain⟨o2,f2,l2,p2⟩:=iw (src:=seqI (vF 6)) (ga:=Bw) (fe:=Cu) (ρ:=[.fz (.int i),.fz (.str LET),.fz (.int n'),.fz (.str b'),z,.fz (.int at'),.fz (.lst (w.map .str))]) (ds:=w.map .str) (P:=λ _=>True) (by rfl) (by simp;omega) λ d hd=>by
      obtain⟨x,hx,rfl⟩:=z07.mp hd;exact⟨_,tst x,.str x,by rfl,trivial⟩
    have c7:∀ l:List Str,(∀ x∈l,Pre x)->Bo [.fz (.int i),.fz (.str LET),.fz (.int n'),.fz (.str b'),z,.fz (.int at'),.fz (.lst (w.map .str))] allT Eh (l.map .str)=some ((l.map λ x=>("z":Str)++x).map .str):=by
      intro l
      induction l with
      | nil=>intro _;rfl
      | cons x r ih=>
        intro hl;have hp:=hl x (by simp);have a:=Vn (i:="z") (j:=x) (by (have:Str.length "z"=1:=by decide +kernel);have:=hp.2.1;omega);have v:Eh ([.fz (.int i),.fz (.str LET),.fz (.int n'),.fz (.str b'),z,.fz (.int at'),.fz (.lst (w.map .str))]++[.fz (.str x)])=some (.str ("z"++x)):=by simp only[cK,Eh,a]
        rw[z03,Bg,MP,v,ih λ y hy=>hl y (by simp[hy])];rfl
    refine⟨o2,f2,Ea (by rfl) (by simp;omega) (c7 w hs),λ h0 x hx=>?_⟩;have e0:o2=[]:=List.length_eq_zero_iff.mp (by omega);subst e0;have hc:Bo [.fz (.int i),.fz (.str LET),.fz (.int n'),.fz (.str b'),z,.fz (.int at'),.fz (.lst (w.map .str))] Bw Cu (w.map .str)=some []:=by
      have:BJ (seqI (vF 6)) (Bw) (Cu) [.fz (.int i),.fz (.str LET),.fz (.int n'),.fz (.str b'),z,.fz (.int at'),.fz (.lst (w.map .str))]=(Bo [.fz (.int i),.fz (.str LET),.fz (.int n'),.fz (.str b'),z,.fz (.int at'),.fz (.lst (w.map .str))] Bw Cu (w.map .str)).map D.lst:=by
        show (if _ then _ else _)=_;rw[if_pos (CV (by simp;omega))]
      rw[this] at f2;cases e:Bo [.fz (.int i),.fz (.str LET),.fz (.int n'),.fz (.str b'),z,.fz (.int at'),.fz (.lst (w.map .str))] Bw Cu (w.map .str) with
      | none=>rw[e] at f2;cases f2
      | some l=>rw[e] at f2;cases f2;rfl
    have:=VM hc (.str x) (z07.mpr ⟨x,hx,rfl⟩);rw[tst x] at this;have hp:=hs x hx;refine⟨hp.1,by have:=hp.2.1;omega,hp.2.2,λ hk=>?_⟩;have:(KEPT.any (λ y=>y==x))=false:=z0h this;rw[List.any_eq_false] at this;exact this x hk (by simp)
  have zn:∀ w:List Str,w.Nodup->(w.map λ x=>("z":Str)++x).Nodup:=λ w hw=>by
    rw[List.Nodup,List.pairwise_map];exact List.Pairwise.imp (λ hab e=>hab (xR e)) hw
  have zw:∀ w:List Str,(∀ x∈w,Pre x)->∀ x∈w.map (λ x=>("z":Str)++x),Wd x:=λ w hw x hx=>by
    obtain⟨y,hy,rfl⟩:=z07.mp hx;exact z_wd (hw y hy)
  have rr:=JW (n%7) (by omega);have hL:(Str.ofString "abcdefghijklmnopqrstuvwxyz")=LET:=rfl
  by_cases h3:n'%3=0
  · obtain⟨o4,f4,l4,p4⟩:=oF (src:=rngI (kF (.int 6))) (fe:=Ij) (ρ:=[.fz (.int i),.fz (.str LET),.fz (.int n'),.fz (.str b),z,.fz (.int at'),.fz (.lst (((List.range 6).map f1).map .str))]) (ds:=rngD 6) (P:=λ y=>∃ x,y=D.str x/\Nm x) (by rfl) (by decide) λ d hd=>by
      obtain⟨k,hk,rfl⟩:=iy hd;have e1:=NP (k:Int) (k:Int) (by omega);have hkk:=sq6 hk;have e2:=JC n' (3+(k:Int)*k) (by omega) (by omega);obtain⟨x,ex,hx⟩:=sX (n'/(3+(k:Int)*k));refine⟨.str x,?_,x,rfl,hx⟩;simp only[ciK,Ij,e1,e2,ex]
    obtain⟨w4,q4,k4,r4⟩:=aU p4;rw[q4] at f4;obtain⟨ej,hj,hjL⟩:=xQ (by rw[k4,l4];rfl) r4;generalize hf2:(λ k:Nat=>cutS (Str.join "" w4) none (some ((k:Int)+1)))=f2';have f2e:∀ k,f2' k=cutS (Str.join "" w4) none (some ((k:Int)+1)):=λ k=>by rw[<-hf2]
    have f2l:∀ k,k<6->(f2' k).length=k+1:=λ k hk=>by
      rw[f2e,<-LK,Wx];have:=iW (cs (Str.join "" w4)) (k+1);rw[show ((k:Int)+1)=((k+1:Nat):Int) by omega,this,z0V,LK];omega
    have c5:BJ (rngI (kF (.int 6))) allT Ik [.fz (.int i),.fz (.str LET),.fz (.int n'),.fz (.str (Str.join "" w4)),z,.fz (.int at'),.fz (.lst (((List.range 6).map f1).map .str))]=some (.lst (((List.range 6).map f2').map .str)):=Tj f2' _ (by rfl) (by decide) λ k hk=>by
      have s1:=sl_s (Str.join "" w4) none (some ((k:Int)+1)) (by omega);simp only[ciK,Ik,s1,f2e]
    have pre2:∀ x∈(List.range 6).map f2',Pre x:=λ x hx=>by
      obtain⟨k,hk,rfl⟩:=z07.mp hx;have hk:=z0B.mp hk;have:=f2l k hk;exact⟨by omega,by omega,by rw[f2e];exact Wy hjL _ _⟩
    have nd2:((List.range 6).map f2').Nodup:=nodup_range f2' 6 λ i hi j hj e=>by
      have h1:=f2l i hi;have h2:=f2l j hj;rw[e] at h1;omega
    obtain⟨o2,f2,f3,g2⟩:=fin (Str.join "" w4) ((List.range 6).map f2') (by simp) pre2 nd2
    by_cases h0:(0:Int)<o2.length
    · refine⟨_,?_,?_,zw _ pre2,zn _ nd2⟩
      · simp only[ciK,Dp,Es,hL,em,ep,hn,rr,el,lb,emod,c1,h3,f4,ej,c5,f2,aV,h0,f3]
      · simp
    · refine⟨(List.range 6).map f2',?_,by simp,g2 h0,nd2⟩
      simp only[ciK,Dp,Es,hL,em,ep,hn,rr,el,lb,emod,c1,h3,f4,ej,c5,f2,aV,h0,f3]
  · have pre1':∀ x∈(List.range 6).map f1,Pre x:=λ x hx=>by
      obtain⟨k,hk,rfl⟩:=z07.mp hx;exact pre1 k
    obtain⟨o2,f2,f3,g2⟩:=fin b ((List.range 6).map f1) (by simp) pre1' nd1
    by_cases h0:(0:Int)<o2.length
    · refine⟨_,?_,?_,zw _ pre1',zn _ nd1⟩
      · simp only[ciK,Dp,Es,hL,em,ep,hn,rr,el,lb,emod,c1,h3,f2,aV,h0,f3]
      · simp
    · refine⟨(List.range 6).map f1,?_,by simp,g2 h0,nd1⟩
      simp only[ciK,Dp,Es,hL,em,ep,hn,rr,el,lb,emod,c1,h3,f2,aV,h0,f3]
theorem names3 (i:Int):∃ ws:List Str,Ht [.int i]=some (.lst (ws.map .str))/\ws.length=3/\(∀ x∈ws,Nm x)/\ws.Nodup:=by
 generalize hf:(λ k:Nat=>Kf (i%26+(7+i/26%2*2)*(k:Int)))=f;have fe:∀ k,f k=Kf (i%26+(7+i/26%2*2)*(k:Int)):=λ k=>by rw[<-hf]
 have c1:BJ (rngI (kF (.int 3))) allT Im [.fz (.int i),.fz (.str LET)]=some (.lst (((List.range 3).map f).map .str)):=Tj f _ (by rfl) (by decide) λ k hk=>by
  have e1:=JD (i/26%2) 2 (by decide);have e2:=JD (7+i/26%2*2) (k:Int) (by omega);obtain⟨ex,hx⟩:=Ox (i%26+(7+i/26%2*2)*(k:Int));simp only[ciK,Im,e1,e2,ex,fe]
 have hL:(Str.ofString "abcdefghijklmnopqrstuvwxyz")=LET:=rfl;refine⟨(List.range 3).map f,?_,by simp,λ x hx=>?_,nodup_range f 3 λ a ha b hb e=>?_⟩
 ·simp only[cK,Ht,J9,hL,c1]
 ·obtain⟨k,_,rfl⟩:=z07.mp hx;rw[fe];exact (Ox _).2
 ·rw[fe,fe] at e;have e':=VN e;have h2:i/26%2=0∨i/26%2=1:=by omega
  have ha':a=0∨a=1∨a=2:=by omega
  have hb':b=0∨b=1∨b=2:=by omega
  rcases h2 with h2 | h2<;>rw[h2] at e'<;>rcases ha' with rfl | rfl | rfl<;>rcases hb' with rfl | rfl | rfl<;>first | rfl | (exfalso;simp at e';omega)
structure Wl where
 n:Nat
 ms:List (Str×List Nat)
 ts:List (Str×List (Nat×Nat))
abbrev iN (t:Nat):D:=.int (t:Int)
abbrev pN (q:Nat×Nat):D:=.tup [.int (q.1:Int),.int (q.2:Int)]
def lM (l:List Nat):D:=.lst (l.map iN)
def lT (l:List (Nat×Nat)):D:=.lst (l.map pN)
def eM (ms:List (Str×List Nat)):List (Key×D):=ms.map λ p=>(.inr p.1,lM p.2)
def eT (ts:List (Str×List (Nat×Nat))):List (Key×D):=ts.map λ p=>(.inr p.1,lT p.2)
def kM (l:List Nat):D:=.dk (l.map λ (t:Nat)=>((.inl (t:Int):Key),.bl true))
def kT (l:List (Nat×Nat)):D:=.dt (l.map λ q=>([(.inl (q.1:Int):Key),.inl (q.2:Int)],.bl true))
def oM (ms:List (Str×List Nat)):List (Key×D):=ms.map λ p=>(.inr p.1,kM p.2)
def oT (ts:List (Str×List (Nat×Nat))):List (Key×D):=ts.map λ p=>(.inr p.1,kT p.2)
def wob (W:Wl):D:=.ob "World" [("size",.int W.n),("marked",.dk (oM W.ms)),("tied",.dk (oT W.ts))]
structure WOk (W:Wl):Prop where
 n5:W.n<=5
 m3:W.ms.length<=3
 t3:W.ts.length<=3
 mw:∀ p∈W.ms,Wd p.1
 tw:∀ p∈W.ts,Wd p.1
 nd:(W.ms.map (·.1)++W.ts.map (·.1)).Nodup
 ml:∀ p∈W.ms,p.2.Nodup/\p.2.length<=100/\∀ t∈p.2,t<W.n
 tl:∀ p∈W.ts,p.2.Nodup/\p.2.length<=100/\∀ q∈p.2,q.1<W.n/\q.2<W.n
theorem Tn (n:Nat) (t:Nat) (h:t<n):Az [.int (n:Int),.int (t:Int)]=some .non:=by
 have c1:¬ ((t:Int)<0):=by omega
 have c2:¬ ((n:Int)<=t):=by omega
 simp only[ciK,Az,DQ,c1,c2]
theorem QL (n:Nat) (t:Nat) (h:t<n):noX Az [.int (n:Int),.int (t:Int)]=some .non:=by
 delta noX;rw[Tn n t h];rfl
theorem lZ {t:Nat}{l:List Nat}(h:t∉l):(.inl (t:Int):Key)∉(l.map λ (t:Nat)=>((.inl (t:Int):Key),D.bl true)).map (·.1):=by
 intro z;rw[z0l] at z;obtain⟨u,hu,e⟩:=z07.mp z;simp at e;have e':u=t:=by omega
 exact h (e'▸hu)
theorem VP (n:Nat) (x z0:Slot):∀ (r p:List Nat) (z:Slot),(p++r).Nodup->(∀ t∈r,t<n)->(p++r).length<=100 ->
  ∃ z',forF (tgB (CT 3) Fj) (r.map iN) [.fz (.int (n:Int)),x,.ow (kM p),z]=some (.nx [.fz (.int (n:Int)),x,.ow (kM (p++r)),z'])
 | [],p,z,_,_,_=>⟨z,by rw[z0t];rfl⟩
 | t::r,p,z,nd,hl,hlen=>by
  have nt:t∉p:=by
   intro q;rw[z0M] at nd;exact nd.2.2 t q t (by simp) rfl
  have e1:=QL n t (hl t (by simp));have e2:Dc (kM p) (.int (t:Int)) (.bl true)=some (kM (p++[t])):=by
   show Dc (.dk _) _ _=_;rw[u9 _ _ _ (by simp at hlen ⊢;omega),putL_new (lZ nt)];simp[kM]
  have b:Fj [.fz (.int (n:Int)),x,.ow (kM p),.fz (iN t)]=some (.nx [.fz (.int (n:Int)),x,.ow (kM (p++[t])),.fz (iN t)]):=by
   simp only[dK,Fj,e1,e2]
  obtain⟨z',ih⟩:=VP n x z0 r (p++[t]) (.fz (iN t)) (by simpa using nd) (λ u hu=>hl u (by simp[hu])) (by simpa using hlen);refine⟨z',?_⟩
  w_up
  rw[b,C_,ih];simp
theorem qe (n:Nat) (l:List Nat) (nd:l.Nodup) (hl:∀ t∈l,t<n) (hlen:l.length<=100):Dw [.int (n:Int),lM l]=some (kM l):=by
 obtain⟨z',e⟩:=VP n (.fz (lM l)) .un l [] .un (by simpa using nd) hl (by simpa using hlen);rw[z0F] at e;have e0:(D.dk [])=kM []:=rfl;simp only[dK,Dw,Jd,e0,lM,e] at e ⊢
theorem lg {t:Nat×Nat}{l:List (Nat×Nat)}(h:t∉l):[(.inl (t.1:Int):Key),.inl (t.2:Int)]∉(l.map λ (q:Nat×Nat)=>([(.inl (q.1:Int):Key),.inl (q.2:Int)],D.bl true)).map (·.1):=by
 intro z;rw[z0l] at z;obtain⟨u,hu,e⟩:=z07.mp z;simp at e;have e':u=t:=by
  obtain⟨a,b⟩:=u;obtain⟨c,d⟩:=t;simp at e ⊢;omega
 exact h (e'▸hu)
theorem Tp (n:Nat) (x:Slot):∀ (r p:List (Nat×Nat)) (z z2:Slot),(p++r).Nodup->(∀ t∈r,t.1<n/\t.2<n)->(p++r).length<=100 ->
  ∃ z' z2',forF (tgB (tupG 2 (Cy 3 (Cy 4 nilG))) Gj) (r.map pN) [.fz (.int (n:Int)),x,.ow (kT p),z,z2]=some (.nx [.fz (.int (n:Int)),x,.ow (kT (p++r)),z',z2'])
 | [],p,z,z2,_,_,_=>⟨z,z2,by rw[z0t];rfl⟩
 | t::r,p,z,z2,nd,hl,hlen=>by
  have nt:t∉p:=by
   intro q;rw[z0M] at nd;exact nd.2.2 t q t (by simp) rfl
  have e1:=QL n t.1 (hl t (by simp)).1;have e1':=QL n t.2 (hl t (by simp)).2;have e2:Nz (kT p) [.int (t.1:Int),.int (t.2:Int)] (.bl true)=some (kT (p++[t])):=by
   show Nz (.dt _) _ _=_;rw[u_ _ _ _ _ (by simp at hlen ⊢;omega),putL_new (lg nt)];simp[kT]
  have b:Gj [.fz (.int (n:Int)),x,.ow (kT p),.fz (.int (t.1:Int)),.fz (.int (t.2:Int))]=some (.nx [.fz (.int (n:Int)),x,.ow (kT (p++[t])),.fz (.int (t.1:Int)),.fz (.int (t.2:Int))]):=by
   simp only[dK,Gj,e1,e1',e2]
  obtain⟨z',z2',ih⟩:=Tp n x r (p++[t]) (.fz (.int (t.1:Int))) (.fz (.int (t.2:Int))) (by simpa using nd) (λ u hu=>hl u (by simp[hu])) (by simpa using hlen);refine⟨z',z2',?_⟩;rw[z03,Ck,e_tg,Ln,Ho];simp only[z0n,z0o];rw[b,C_,ih];simp
theorem lu (n:Nat) (l:List (Nat×Nat)) (nd:l.Nodup) (hl:∀ t∈l,t.1<n/\t.2<n) (hlen:l.length<=100):Eu [.int (n:Int),lT l]=some (kT l):=by
 obtain⟨z',z2',e⟩:=Tp n (.fz (lT l)) l [] .un .un (by simpa using nd) hl (by simpa using hlen);rw[z0F] at e;have e0:(D.dt [])=kT []:=rfl;simp only[dK,Eu,J_,e0,lT,e] at e ⊢
theorem vV (c:Nat):inD false (.str ⟨#[c]⟩) (.str LET)=some (.bl (!(Builtin.Str.occurrences LET ⟨#[c]⟩ 0 LET.length 1).isEmpty)):=zE_ _
theorem vW:∀ c∈cs LET,(!(Builtin.Str.occurrences LET ⟨#[c]⟩ 0 LET.length 1).isEmpty)=true:=by decide +kernel
theorem qg {x:Str}(h:x∉KEPT):inF false (.str x) c_KEPT_TEXTS=some (.bl false):=by
 have e:inF false (.str x) c_KEPT_TEXTS=inD false (.str x) (.lst (KEPT.map .str)):=rfl;rw[e,aW];have:(KEPT.any λ y=>y==x)=false:=by
  rw[List.any_eq_false];intro y hy hz;have:=z0N.mp hz;exact h (this▸hy)
 rw[this]
theorem vX (x:Str) (h:x.length<=10000000):lenE (.str x)=some (.int x.length):=rN x h
theorem cU {x:Str}(h:Wd x):Ew [.str x]=some (.bl true):=by
 have k:=qg h.kept;have h1:=h.lo;have h2:=h.hi;have l:=vX x (by omega);have c0:¬ ((x.length:Int)=0):=by omega
 have c8:¬ ((8:Int)<x.length):=by omega
 have cc:∀ l:List Nat,(∀ c∈l,c∈cs LET)->Bo [.fz (.str x)] allT Hh (l.map λ c=>.str ⟨#[c]⟩)=some (l.map λ _=>.bl true):=by
  intro l
  induction l with
  | nil=>intro _;rfl
  | cons c r ih=>
   intro hl;have v:Hh ([.fz (.str x)]++[.fz (.str ⟨#[c]⟩)])=some (.bl true):=by
    have e:inF false (.str ⟨#[c]⟩) (.str LET)=some (.bl true):=by
     show inD false (.str ⟨#[c]⟩) (.str LET)=_;rw[vV,vW c (hl c (by simp))]
    have hL:(Str.ofString "abcdefghijklmnopqrstuvwxyz")=LET:=rfl;simp only[cK,Hh,hL,e]
   rw[z03,Bg,MP,v,ih λ d hd=>hl d (by simp[hd])];rfl
 have c1:BJ (seqA (vF 0)) allT Hh [.fz (.str x)]=some (.lst ((cs x).map λ _=>.bl true)):=by
  refine Ea (ds:=(cs x).map λ c=>.str ⟨#[c]⟩) (by rfl) (by rw[z02,LK];omega) (cc (cs x) h.isL)
 have al:∀ l:List Nat,allD (.lst (l.map λ _=>.bl true))=some (.bl true):=by
  intro l;have q:∀ l:List Nat,blsD (l.map λ _=>D.bl true)=some (l.map λ _=>true):=by
   intro l
   induction l with
   | nil=>rfl
   | cons c r ih=>simp[blsD,ih]
  show (blsD (l.map λ _=>D.bl true)).map _=_;rw[q];simp
 simp only[ciK,Ew,QG,k,l,c0,c8,c1,al]
theorem Tq (i j:Int) (h:i<=j):Bx [.int i,.int j]=some .non:=by
 have c:¬ (j<i):=by omega
 simp only[ciK,Bx,Io,c]
abbrev fS (n:Nat):Str×Bool×D:=("size",false,.int (n:Int))
abbrev fM (ms:List (Str×List Nat)):Str×Bool×D:=("marked",true,.dk (oM ms))
abbrev fT (ts:List (Str×List (Nat×Nat))):Str×Bool×D:=("tied",true,.dk (oT ts))
theorem q1:(("marked":Str)=="size")=false:=by decide +kernel
theorem q2:(("tied":Str)=="size")=false:=by decide +kernel
theorem q3:(("tied":Str)=="marked")=false:=by decide +kernel
theorem n1:¬ (("size":Str)="marked"):=by decide +kernel
theorem n2:¬ (("size":Str)="tied"):=by decide +kernel
theorem n3:¬ (("marked":Str)="tied"):=by decide +kernel
theorem lkM (n:Nat) (d e:D):List.lookup ("marked":Str) [fS n,("marked",true,d),("tied",true,e)]=some (true,d):=by
 rw[z09,q1];show List.lookup ("marked":Str) [("marked",true,d),("tied",true,e)]=_;rw[z09,show (("marked":Str)=="marked")=true by decide +kernel]
theorem lkT (n:Nat) (d e:D):List.lookup ("tied":Str) [fS n,("marked",true,d),("tied",true,e)]=some (true,e):=by
 rw[z09,q2];show List.lookup ("tied":Str) [("marked",true,d),("tied",true,e)]=_;rw[z09,q3];show List.lookup ("tied":Str) [("tied",true,e)]=_;rw[z09,show (("tied":Str)=="tied")=true by decide +kernel]
theorem rpM (n:Nat) (d e d':D):repE "marked" d' [fS n,("marked",true,d),("tied",true,e)]=[fS n,("marked",true,d'),("tied",true,e)]:=by
 unfold repE repE;rw[if_neg n1,if_pos rfl]
theorem rpT (n:Nat) (d e e':D):repE "tied" e' [fS n,("marked",true,d),("tied",true,e)]=[fS n,("marked",true,d),("tied",true,e')]:=by
 unfold repE repE repE;rw[if_neg n2,if_neg n3,if_pos rfl]
theorem Jw {α:Type}{w:Str}(f:α->D) {l:List (Str×α)}(h:w∉l.map (·.1)):(.inr w:Key)∉(l.map λ p=>((.inr p.1:Key),f p.2)).map (·.1):=by
 intro z;rw[z0l] at z;obtain⟨u,hu,e⟩:=z07.mp z;simp at e;exact h (z07.mpr ⟨u,hu,e⟩)
abbrev ra (n:Nat) (x:Addr) (a b:D) (z4 z5 z6:Slot):Rho:=[.fz (.adr x),.fz (.int (n:Int)),.fz a,.fz b,z4,z5,z6]
theorem Tr (n:Nat) (hn:n<=5) (x:Addr) (a b:D) (e:D) (z6:Slot):∀ (r p:List (Str×List Nat)) (z4 z5:Slot),((p++r).map (·.1)).Nodup->(∀ q∈r,Wd q.1/\q.2.Nodup/\q.2.length<=100/\∀ t∈q.2,t<n)->(p++r).length<=3->(∀ d,z4≠.ow d)->(∀ d,z5≠.ow d)->(∀ d,z6≠.ow d) ->
  ∃ z4' z5',(∀ d,z4'≠.ow d)/\(∀ d,z5'≠.ow d)/\JG (tupG 2 (Cy 4 (Cy 5 nilG))) Cv (r.map λ q=>.tup [.str q.1,lM q.2]) (ra n x a b z4 z5 z6) [fS n,fM p,("tied",true,e)]=some ((ra n x a b z4' z5' z6),[fS n,fM (p++r),("tied",true,e)])
 | [],p,z4,z5,_,_,_,h4,h5,_=>⟨z4,z5,h4,h5,by rw[z0t];rfl⟩
 | t::r,p,z4,z5,nd,hl,hlen,h4,h5,h6=>by
  obtain⟨w,l⟩:=t;obtain⟨hw,l1,l2,l3⟩:=hl (w,l) (by simp);have nt:w∉p.map (·.1):=by
   intro q;rw[z0H,z0M] at nd;exact nd.2.2 w q w (by simp) rfl
  have e1:=cU hw;have e2:=qe n l l1 l3 l2;have e3:Dc (.dk (oM p)) (.str w) (kM l)=some (.dk (oM (p++[(w,l)]))):=by
   rw[Kv _ _ _ (by simp[oM] at hlen ⊢;omega)];have:(.inr w:Key)∉(oM p).map (·.1):=Jw kM nt;rw[putL_new this];simp[oM]
  have b0:Cv (ra n x a b (.fz (.str w)) (.fz (lM l)) z6) [fS n,fM p,("tied",true,e)]=some ((ra n x a b (.fz (.str w)) (.fz (lM l)) z6),[fS n,fM (p++[(w,l)]),("tied",true,e)]):=by
   have t0:ifE (SN (notT (trF (An (Ew) (Aa (vF 4) (nilA)))))) (ra n x a b (.fz (.str w)) (.fz (lM l)) z6) [fS n,fM p,("tied",true,e)]=some ((ra n x a b (.fz (.str w)) (.fz (lM l)) z6),[fS n,fM p,("tied",true,e)]):=by
    have:notT (trF (An (Ew) (Aa (vF 4) (nilA)))) (ra n x a b (.fz (.str w)) (.fz (lM l)) z6)=some false:=by simp only[cK,e1]
    delta ifE SN;rw[this]
   have t1:Qj "marked" (vF 4) (An (Dw) (Aa (vF 1) (Aa (vF 5) (nilA)))) (ra n x a b (.fz (.str w)) (.fz (lM l)) z6) [fS n,fM p,("tied",true,e)]=some ((ra n x a b (.fz (.str w)) (.fz (lM l)) z6),[fS n,fM (p++[(w,l)]),("tied",true,e)]):=by
    have v1:An (Dw) (Aa (vF 1) (Aa (vF 5) (nilA))) (ra n x a b (.fz (.str w)) (.fz (lM l)) z6)=some (kM l):=by simp only[cK,e2]
    have v2:vF 4 (ra n x a b (.fz (.str w)) (.fz (lM l)) z6)=some (.str w):=rfl;delta Qj;rw[v1,v2];show (match List.lookup ("marked":Str) [fS n,fM p,("tied",true,e)] with | some (true,d)=>(Dc d (.str w) (kM l)).map λ d'=>(_,repE "marked" d' [fS n,fM p,("tied",true,e)]) | _=>none)=_;rw[lkM];show (Dc (.dk (oM p)) (.str w) (kM l)).map _=_;rw[e3];show some (_,repE "marked" _ [fS n,fM p,("tied",true,e)])=_;rw[rpM]
   delta Cv;rw[Jb,t0,HJ,t1]
  obtain⟨z4',z5',g4,g5,ih⟩:=Tr n hn x a b e z6 r (p++[(w,l)]) (.fz (.str w)) (.fz (lM l)) (by simpa using nd) (λ u hu=>hl u (by simp[hu])) (by simpa using hlen) (λ d=>by simp) (λ d=>by simp) h6;refine⟨z4',z5',g4,g5,?_⟩;rw[z03];unfold JG;rw[Ln];have no:noOw (ra n x a b (.fz (.str w)) (.fz (lM l)) z6)=true:=by
   delta noOw;cases z6 with
   | ow d=>exact absurd rfl (h6 d)
   | un=>rfl
   | fz d=>rfl
  show (if noOw (ra n x a b (.fz (.str w)) (.fz (lM l)) z6)=true then (Cv (ra n x a b (.fz (.str w)) (.fz (lM l)) z6) _).bind _ else none)=_;rw[if_pos no,b0];show JG _ _ _ _ _=_;rw[ih];simp
theorem VR (n:Nat) (hn:n<=5) (x:Addr) (a b:D) (ms:List (Str×List Nat)) (z5:Slot) (h5:∀ d,z5≠.ow d):∀ (r p:List (Str×List (Nat×Nat))) (z4 z6:Slot),((p++r).map (·.1)).Nodup->(∀ q∈r,Wd q.1/\q.1∉ms.map (·.1)/\q.2.Nodup/\q.2.length<=100/\∀ t∈q.2,t.1<n/\t.2<n)->(p++r).length<=3->(∀ d,z4≠.ow d)->(∀ d,z6≠.ow d) ->
  ∃ z4' z6',JG (tupG 2 (Cy 4 (Cy 6 nilG))) Cw (r.map λ q=>.tup [.str q.1,lT q.2]) (ra n x a b z4 z5 z6) [fS n,fM ms,fT p]=some ((ra n x a b z4' z5 z6'),[fS n,fM ms,fT (p++r)])
 | [],p,z4,z6,_,_,_,h4,h6=>⟨z4,z6,by rw[z0t];rfl⟩
 | t::r,p,z4,z6,nd,hl,hlen,h4,h6=>by
  obtain⟨w,l⟩:=t;obtain⟨hw,nm,l1,l2,l3⟩:=hl (w,l) (by simp);have nt:w∉p.map (·.1):=by
   intro q;rw[z0H,z0M] at nd;exact nd.2.2 w q w (by simp) rfl
  have e1:=cU hw;have e2:=lu n l l1 l3 l2;have e3:Dc (.dk (oT p)) (.str w) (kT l)=some (.dk (oT (p++[(w,l)]))):=by
   rw[Kv _ _ _ (by simp[oT] at hlen ⊢;omega)];have:(.inr w:Key)∉(oT p).map (·.1):=Jw kT nt;rw[putL_new this];simp[oT]
  have e4:getK (.inr w:Key) (oM ms)=none:=P0 (Jw kM nm);have b0:Cw (ra n x a b (.fz (.str w)) z5 (.fz (lT l))) [fS n,fM ms,fT p]=some ((ra n x a b (.fz (.str w)) z5 (.fz (lT l))),[fS n,fM ms,fT (p++[(w,l)])]):=by
   have t0:ifE (orTE (SN (notT (trF (An (Ew) (Aa (vF 4) (nilA)))))) (inTE "marked" (vF 4))) (ra n x a b (.fz (.str w)) z5 (.fz (lT l))) [fS n,fM ms,fT p]=some ((ra n x a b (.fz (.str w)) z5 (.fz (lT l))),[fS n,fM ms,fT p]):=by
    have u1:notT (trF (An (Ew) (Aa (vF 4) (nilA)))) (ra n x a b (.fz (.str w)) z5 (.fz (lT l)))=some false:=by simp only[cK,e1]
    have v2:vF 4 (ra n x a b (.fz (.str w)) z5 (.fz (lT l)))=some (.str w):=rfl;have u2:inTE "marked" (vF 4) (ra n x a b (.fz (.str w)) z5 (.fz (lT l))) [fS n,fM ms,fT p]=some false:=by
     delta inTE;rw[v2];show (match List.lookup ("marked":Str) [fS n,fM ms,fT p] with | some (true,.dk kds)=>(keyD (.str w)).map λ q=>(getK q kds).isSome | _=>none)=_;rw[lkM];show some ((getK (.inr w:Key) (oM ms)).isSome)=_;rw[e4];rfl
    delta ifE orTE SN;rw[u1];show (match inTE "marked" (vF 4) _ _ with | some false=>some _ | _=>none)=_;rw[u2]
   have t1:Qj "tied" (vF 4) (An (Eu) (Aa (vF 1) (Aa (vF 6) (nilA)))) (ra n x a b (.fz (.str w)) z5 (.fz (lT l))) [fS n,fM ms,fT p]=some ((ra n x a b (.fz (.str w)) z5 (.fz (lT l))),[fS n,fM ms,fT (p++[(w,l)])]):=by
    have v1:An (Eu) (Aa (vF 1) (Aa (vF 6) (nilA))) (ra n x a b (.fz (.str w)) z5 (.fz (lT l)))=some (kT l):=by simp only[cK,e2]
    have v2:vF 4 (ra n x a b (.fz (.str w)) z5 (.fz (lT l)))=some (.str w):=rfl;delta Qj;rw[v1,v2];show (match List.lookup ("tied":Str) [fS n,fM ms,fT p] with | some (true,d)=>(Dc d (.str w) (kT l)).map λ d'=>(_,repE "tied" d' [fS n,fM ms,fT p]) | _=>none)=_;rw[lkT];show (Dc (.dk (oT p)) (.str w) (kT l)).map _=_;rw[e3];show some (_,repE "tied" _ [fS n,fM ms,fT p])=_;rw[rpT]
   delta Cw;rw[Jb,t0,HJ,t1]
  obtain⟨z4',z6',ih⟩:=VR n hn x a b ms z5 h5 r (p++[(w,l)]) (.fz (.str w)) (.fz (lT l)) (by simpa using nd) (λ u hu=>hl u (by simp[hu])) (by simpa using hlen) (λ d=>by simp) (λ d=>by simp);refine⟨z4',z6',?_⟩;rw[z03];unfold JG;have tg:tupG 2 (Cy 4 (Cy 6 nilG)) (.tup [.str w,lT l]) (ra n x a b z4 z5 z6)=some (ra n x a b (.fz (.str w)) z5 (.fz (lT l))):=by rw[Ln];rfl
  rw[tg];have no:noOw (ra n x a b (.fz (.str w)) z5 (.fz (lT l)))=true:=by
   delta noOw;cases z5 with
   | ow d=>exact absurd rfl (h5 d)
   | un=>rfl
   | fz d=>rfl
  show (if noOw (ra n x a b (.fz (.str w)) z5 (.fz (lT l)))=true then (Cw (ra n x a b (.fz (.str w)) z5 (.fz (lT l))) _).bind _ else none)=_;rw[if_pos no,b0];show JG _ _ _ _ _=_;rw[ih];simp
abbrev rw' (W:Wl) (x:Addr) (z4 z5 z6:Slot):Rho:=ra W.n x (.dk (eM W.ms)) (.dk (eT W.ts)) z4 z5 z6
theorem cV (W:Wl) (h:WOk W) (x:Addr):Dl x [.int (W.n:Int),.dk (eM W.ms),.dk (eT W.ts)]=some [fS W.n,fM W.ms,fT W.ts]:=by
 have ndm:(W.ms.map (·.1)).Nodup:=(z0M.mp h.nd).1;have ndt:(W.ts.map (·.1)).Nodup:=(z0M.mp h.nd).2.1;obtain⟨z4,z5,g4,g5,m⟩:=Tr W.n h.n5 x (.dk (eM W.ms)) (.dk (eT W.ts)) (.dk []) .un W.ms [] .un .un (by simpa using ndm) (λ q hq=>⟨h.mw q hq,h.ml q hq⟩) (by simpa using h.m3) (λ d=>by simp) (λ d=>by simp) (λ d=>by simp);obtain⟨z4',z6',t⟩:=VR W.n h.n5 x (.dk (eM W.ms)) (.dk (eT W.ts)) W.ms z5 g5 W.ts [] z4 .un (by simpa using ndt) (λ q hq=>⟨h.tw q hq,λ z=>(z0M.mp h.nd).2.2 q.1 z q.1 (z07.mpr ⟨q,hq,rfl⟩) rfl,h.tl q hq⟩) (by simpa using h.t3) g4 (λ d=>by simp);rw[z0F] at m t;change JG _ _ _ _ [fS W.n,fM [],fT []]=some (_,[fS W.n,fM W.ms,fT []]) at m;have r1:=Tq (W.n:Int) 5 (by have:=h.n5;omega);have r2:=Tq ((eM W.ms).length:Int) 3 (by have:=h.m3;simp[eM];omega);have r3:=Tq ((eT W.ts).length:Int) 3 (by have:=h.t3;simp[eT];omega);have no:noOw (rw' W x .un .un .un)=true:=rfl;have p1:pureE (JB (An (Bx) (Aa (vF 1) (Aa (kF (.int 5)) (nilA))))) (rw' W x .un .un .un) []=some ((rw' W x .un .un .un),[]):=Wj (by simp only[cK,r1]) no;have p2:pureE (JB (An (Bx) (Aa (uF lenE (vF 2)) (Aa (kF (.int 3)) (nilA))))) (rw' W x .un .un .un) []=some ((rw' W x .un .un .un),[]):=Wj (by simp only[dK,r2]) no;have p3:pureE (JB (An (Bx) (Aa (uF lenE (vF 3)) (Aa (kF (.int 3)) (nilA))))) (rw' W x .un .un .un) []=some ((rw' W x .un .un .un),[]):=Wj (by simp only[dK,r3]) no;have s1:bO "size" (vF 1) (rw' W x .un .un .un) []=some ((rw' W x .un .un .un),[fS W.n]):=rfl;have s2:Qi "marked" (kF (.dk [])) (rw' W x .un .un .un) [fS W.n]=some ((rw' W x .un .un .un),[fS W.n,fM []]):=by
  have l:List.lookup ("marked":Str) [fS W.n]=none:=by
   rw[z09,q1];rfl
  delta Qi;show (if (List.lookup ("marked":Str) [fS W.n]).isNone=true/\[fS W.n].length<1000 then some (_,[fS W.n]++[(("marked":Str),true,D.dk [])]) else none)=_;rw[l,if_pos ⟨rfl,(by show 1<1000;decide)⟩];rfl
 have s3:Qi "tied" (kF (.dk [])) (rw' W x .un .un .un) [fS W.n,fM []]=some ((rw' W x .un .un .un),[fS W.n,fM [],fT []]):=by
  have l:List.lookup ("tied":Str) [fS W.n,fM []]=none:=by
   rw[z09,q2];show List.lookup ("tied":Str) [fM []]=none;rw[z09,q3];rfl
  delta Qi;show (if (List.lookup ("tied":Str) [fS W.n,fM []]).isNone=true/\[fS W.n,fM []].length<1000 then some (_,[fS W.n,fM []]++[(("tied":Str),true,D.dk [])]) else none)=_;rw[l,if_pos ⟨rfl,(by show 2<1000;decide)⟩];rfl
 have i1:Mu (vF 2) (rw' W x .un .un .un)=some (W.ms.map λ q=>.tup [.str q.1,lM q.2]):=by
  show some ((eM W.ms).map λ p=>D.tup [kDt p.1,p.2])=_;simp only[eM,z0l,Function.comp_def,VB]
 have i2:Mu (vF 3) (rw' W x z4 z5 .un)=some (W.ts.map λ q=>.tup [.str q.1,lT q.2]):=by
  show some ((eT W.ts).map λ p=>D.tup [kDt p.1,p.2])=_;simp only[eT,z0l,Function.comp_def,VB]
 have st:Wh 7 x [.int (W.n:Int),.dk (eM W.ms),.dk (eT W.ts)]=(rw' W x .un .un .un):=rfl;delta Dl runI;rw[if_pos (show [D.int (W.n:Int),.dk (eM W.ms),.dk (eT W.ts)].length+1=4 from rfl),st];delta G8;rw[Jb,p1,HJ,Jb,p2,HJ,Jb,p3,HJ,Jb,s1,HJ,Jb,s2,HJ,Jb,s3,HJ,Jb,kE i1,m,HJ,Jb,kE i2,t,HJ,vA];rfl
theorem sY (W:Wl) (h:WOk W) (fs:FA) (ρ:Rho) (hf:fs ρ=some [.int (W.n:Int),.dk (eM W.ms),.dk (eT W.ts)]):mkI "World" Dl fs ρ=some (wob W):=by
 delta mkI;rw[hf];simp only[z0c,cV W h 0];rw[if_pos (λ x=>cV W h x)];rfl
inductive Fa where
 | mk (w x:Str) | ti (w x y:Str) | sa (x y:Str)
def enc:Fa->D
 | .mk w x=>.tup [.str "mark",.str w,.str x]
 | .ti w x y=>.tup [.str "tie",.str w,.str x,.str y]
 | .sa x y=>.tup [.str "same",.str x,.str y]
def nms:Fa->List Str
 | .mk _ x=>[x]
 | .ti _ x y=>[x,y]
 | .sa x y=>[x,y]
def fst:Fa->Str | .mk _ x=>x | .ti _ x _=>x | .sa x _=>x
def lst':Fa->Str | .mk _ x=>x | .ti _ _ y=>y | .sa _ y=>y
def Kn (W:Wl):Fa->Prop
 | .mk w _=>w∈W.ms.map (·.1)
 | .ti w _ _=>w∈W.ts.map (·.1)
 | .sa _ _=>True
def prs (W:Wl):Fa->List (Nat×Nat)
 | .mk w _=>((W.ms.find? (λ p=>p.1=w)).map (·.2)).getD [] |>.map λ t=>(t,t)
 | .ti w _ _=>((W.ts.find? (λ p=>p.1=w)).map (·.2)).getD []
 | .sa _ _=>(List.range W.n).map λ t=>(t,t)
theorem Jf {α:Type}(f:α->D) (w:Str):∀ (l:List (Str×α)),getK (.inr w:Key) (l.map λ p=>((.inr p.1:Key),f p.2))=(l.find? (λ p=>p.1=w)).map λ p=>f p.2
 | []=>rfl
 | p::r=>by
  rw[z03];unfold getK
  by_cases h:p.1=w
  ·rw[if_pos (by rw[h]),List.find?_cons_of_pos (by simpa using h)];rfl
  ·rw[if_neg (by simpa using h),List.find?_cons_of_neg (by simpa using h)];exact Jf f w r
theorem LQ {α:Type}{w:Str}{l:List (Str×α)}(h:w∈l.map (·.1)):∃ q,q∈l/\l.find? (λ p=>p.1=w)=some q:=by
 cases e:l.find? (λ p=>p.1=w) with
 | some q=>exact⟨q,List.mem_of_find?_eq_some e,rfl⟩
 | none=>
  obtain⟨q,hq,rfl⟩:=z07.mp h;have:=List.find?_eq_none.mp e q hq;simp at this
theorem Jg (W:Wl):fldD "size" (wob W)=some (.int (W.n:Int)):=by
 show List.lookup ("size":Str) [("size",D.int W.n),("marked",.dk (oM W.ms)),("tied",.dk (oT W.ts))]=_;rw[z09,show (("size":Str)=="size")=true by decide +kernel]
theorem Tt (W:Wl):fldD "marked" (wob W)=some (.dk (oM W.ms)):=by
 show List.lookup ("marked":Str) [("size",D.int W.n),("marked",.dk (oM W.ms)),("tied",.dk (oT W.ts))]=_;rw[z09,q1];show List.lookup ("marked":Str) [("marked",D.dk (oM W.ms)),("tied",.dk (oT W.ts))]=_;rw[z09,show (("marked":Str)=="marked")=true by decide +kernel]
theorem Zm (W:Wl):fldD "tied" (wob W)=some (.dk (oT W.ts)):=by
 show List.lookup ("tied":Str) [("size",D.int W.n),("marked",.dk (oM W.ms)),("tied",.dk (oT W.ts))]=_;rw[z09,q2];show List.lookup ("tied":Str) [("marked",D.dk (oM W.ms)),("tied",.dk (oT W.ts))]=_;rw[z09,q3];show List.lookup ("tied":Str) [("tied",D.dk (oT W.ts))]=_;rw[z09,show (("tied":Str)=="tied")=true by decide +kernel]
theorem vY:inF false (.str "mark") c_FACTS=some (.bl true):=zE_ _
theorem xT:inF false (.str "tie") c_FACTS=some (.bl true):=zE_ _
theorem vZ:inF false (.str "same") c_FACTS=some (.bl true):=zE_ _
theorem k1 (a b c:D):slD (.tup [a,b,c]) (some 1) none=some (.tup [b,c]):=zE_ _
theorem k2 (a b c:D):slD (.tup [a,b,c]) (some 2) none=some (.tup [c]):=zE_ _
theorem k3 (a b c d:D):slD (.tup [a,b,c,d]) (some 2) none=some (.tup [c,d]):=zE_ _
theorem g1:eqD false (.str "mark") (.str "same")=some (.bl false):=zE_ _
theorem g2:eqD false (.str "mark") (.str "mark")=some (.bl true):=zE_ _
theorem g3:eqD false (.str "tie") (.str "same")=some (.bl false):=zE_ _
theorem g4:eqD false (.str "tie") (.str "mark")=some (.bl false):=zE_ _
theorem g5:eqD false (.str "tie") (.str "tie")=some (.bl true):=zE_ _
theorem g6:eqD false (.str "same") (.str "same")=some (.bl true):=zE_ _
theorem g7:eqD false (.str "same") (.str "mark")=some (.bl false):=zE_ _
theorem g8:eqD false (.str "mark") (.str "tie")=some (.bl false):=zE_ _
theorem g9:eqD false (.str "same") (.str "tie")=some (.bl false):=zE_ _
theorem Qw (a:Fa):Fx [enc a]=some (.tup ((nms a).map .str)):=by
 cases a with
 | mk w x=>simp only[dK,Fx,Ip,enc,nms,Aq,CK,g1,k2]
 | ti w x y=>simp only[dK,Fx,Ip,enc,nms,Aq,CK,g3,k3]
 | sa x y=>simp only[dK,Fx,Ip,enc,nms,Aq,CK,g6,k1]
theorem Tu (a:Fa):∃ t r,enc a=.tup (.str t::r)/\inF false (.str t) c_FACTS=some (.bl true):=by
 cases a with
 | mk w x=>exact⟨_,_,rfl,vY⟩
 | ti w x y=>exact⟨_,_,rfl,xT⟩
 | sa x y=>exact⟨_,_,rfl,vZ⟩
theorem qi (a:Fa) (n:Nat):Bf (n+1) [enc a]=some (.lst ((Cp (nms a)).map .str)):=by
 obtain⟨t,r,e,h⟩:=Tu a;have l2:(nms a).length<=2:=by cases a<;>simp[nms]
 have l3:(Cp (nms a)).length<=60:=z0a (sub_len (Ng (IK _)) (λ x hx=>(Dg x _).mp hx)) (by omega);have e2:=ss_t (xs:=nms a) (by omega) l3;have ni:=Qw a;rw[e] at ni ⊢;simp only[dK,Bf,Ez,Aq,CK,h,ni,e2]
theorem Zn (a:Fa):CW [enc a]=some (.tup []):=by
 obtain⟨t,r,e,h⟩:=Tu a;rw[e];simp only[dK,CW,KD,Aq,CK,h]
theorem Tv (W:Wl) (a:Fa) (hk:Kn W a) (n:Nat):Ac (n+1) [wob W,enc a]=some .non:=by
 have sy:=Zn a;cases a with
 | mk w x=>
  obtain⟨q,hq,e⟩:=LQ hk;have e1:getK (.inr w:Key) (oM W.ms)=some (kM q.2):=by
   show getK _ (W.ms.map λ p=>_)=_;rw[Jf kM w W.ms,e];rfl
  simp only[enc] at sy ⊢;simp only[dK,Ac,Aj,Aq,CK,g2,Tt,e1,g8,sy,z1d,z1J,if_true]
 | ti w x y=>
  obtain⟨q,hq,e⟩:=LQ hk;have e1:getK (.inr w:Key) (oT W.ts)=some (kT q.2):=by
   show getK _ (W.ts.map λ p=>_)=_;rw[Jf kT w W.ts,e];rfl
  simp only[enc] at sy ⊢;simp only[dK,Ac,Aj,Aq,CK,g4,g5,Zm,e1,sy,z1d,z1J,if_true]
 | sa x y=>
  simp only[enc] at sy ⊢;simp only[dK,Ac,Aj,Aq,CK,g7,g9,sy]
def Pl (n:Nat) (g:List (Key×D)) (P:Str->Nat) (x:Str):Prop:=getK (.inr x:Key) g=some (.int (P x:Int))/\P x<n
theorem Qx (W:Wl) (g:List (Key×D)) (P:Str->Nat) (xs:List Str) (h:∀ x∈xs,Pl W.n g P x):Bl [wob W,.lst (xs.map .str),.dk g]=some .non:=by
 have l1:∀ (r:List Str) (z:Slot),(∀ x∈r,Pl W.n g P x)->∃ z',forF (tgB (CT 3) Av) (r.map .str) [.fz (wob W),.fz (.lst (xs.map .str)),.fz (.dk g),z]=some (.nx [.fz (wob W),.fz (.lst (xs.map .str)),.fz (.dk g),z']):=by
  intro r
  induction r with
  | nil=>intro z _;exact⟨z,rfl⟩
  | cons x r ih=>
   intro z hr;obtain⟨e1,e2⟩:=hr x (by simp);obtain⟨z',e⟩:=ih (.fz (.str x)) λ y hy=>hr y (by simp[hy]);refine⟨z',?_⟩;have b:Av [.fz (wob W),.fz (.lst (xs.map .str)),.fz (.dk g),.fz (.str x)]=some (.nx [.fz (wob W),.fz (.lst (xs.map .str)),.fz (.dk g),.fz (.str x)]):=by
    simp only[dK,Av,Aq,CK,e1,z1d,z1J,if_true]
   w_up
   rw[b,C_,e]
 have l2:∀ (r:List Str) (z:Slot),(∀ x∈r,Pl W.n g P x)->∃ z',forF (tgB (CT 3) BL) (r.map .str) [.fz (wob W),.fz (.lst (xs.map .str)),.fz (.dk g),z]=some (.nx [.fz (wob W),.fz (.lst (xs.map .str)),.fz (.dk g),z']):=by
  intro r
  induction r with
  | nil=>intro z _;exact⟨z,rfl⟩
  | cons x r ih=>
   intro z hr;obtain⟨e1,e2⟩:=hr x (by simp);obtain⟨z',e⟩:=ih (.fz (.str x)) λ y hy=>hr y (by simp[hy]);refine⟨z',?_⟩;have t:=Tn W.n (P x) e2;have b:BL [.fz (wob W),.fz (.lst (xs.map .str)),.fz (.dk g),.fz (.str x)]=some (.nx [.fz (wob W),.fz (.lst (xs.map .str)),.fz (.dk g),.fz (.str x)]):=by
    simp only[dK,BL,Aq,CK,Jg,e1,t]
   w_up
   rw[b,C_,e]
 obtain⟨z1,e1⟩:=l1 xs .un h;obtain⟨z2,e2⟩:=l2 xs z1 h;simp only[dK,Bl,DW,Aq,CK,e1,e2]
def row (n p:Nat):D:=.lst ((List.range n).map λ (t:Nat)=>.int (if t=p then 1 else 0))
def Kg (n:Nat) (P:Str->Nat) (xs:List Str):D:=.dk (xs.map λ x=>((.inr x:Key),row n (P x)))
theorem L_ (f:Nat->D) (src:FI) (hs:src ρ=some (rngD n)) (hn:n<=1000) (h:∀ k,k<n->fe (ρ++[.fz (.int k)])=some (f k)):BJ src allT fe ρ=some (.lst ((List.range n).map f)):=by
 have c:∀ l:List Nat,(∀ k∈l,k<n)->Bo ρ allT fe (l.map λ (k:Nat)=>D.int k)=some (l.map f):=by
  intro l
  induction l with
  | nil=>intro _;rfl
  | cons k r ih=>
   intro hl;rw[z03,Bg,MP,h k (hl k (by simp)),ih λ d hd=>hl d (by simp[hd])];rfl
 exact Ea hs (by rw[Df];omega) (c (List.range n) λ k hk=>z0B.mp hk)
theorem Tw (W:Wl) (h5:W.n<=5) (a g0 nm:D) (g:List (Key×D)) (P:Str->Nat):∀ (r p:List Str) (z:Slot),(p++r).Nodup->(∀ x∈r,Pl W.n g P x)->(p++r).length<=100 ->
  ∃ z',forF (tgB (CT 6) Ly) (r.map .str) [.fz (wob W),.fz a,.fz g0,.fz (.dk g),.fz nm,.ow (Kg W.n P p),z]=some (.nx [.fz (wob W),.fz a,.fz g0,.fz (.dk g),.fz nm,.ow (Kg W.n P (p++r)),z'])
 | [],p,z,_,_,_=>⟨z,by rw[z0t];rfl⟩
 | x::r,p,z,nd,hl,hlen=>by
  have nt:x∉p:=by
   intro q;rw[z0M] at nd;exact nd.2.2 x q x (by simp) rfl
  obtain⟨e1,e2⟩:=hl x (by simp);have cm:BJ (rngI (uF (fldD "size") (vF 0))) allT Lx [.fz (wob W),.fz a,.fz g0,.fz (.dk g),.fz nm,.ow (Kg W.n P p),.fz (.str x)]=some (row W.n (P x)):=by
   refine L_ (λ t=>.int (if t=P x then 1 else 0)) _ ?_ (by omega) λ k hk=>?_
   ·have rg:=JW (W.n:Int) (by omega);simp only[JV,e_u,e_v,z0w,e_vs,e_us,Jg,rg,z0r]
   ·have q:decide ((k:Int)=(P x:Int))=decide (k=P x):=by
     by_cases z:k=P x
     ·simp[z]
     ·have:¬ ((k:Int)=(P x:Int)):=by omega
      simp[z,this]
    by_cases z:k=P x
    ·simp only[diK,Lx,Aq,CK,e1,q,z,if_true]
    ·simp only[diK,Lx,Aq,CK,e1,q,z,if_false]
  have pk:Dc (Kg W.n P p) (.str x) (row W.n (P x))=some (Kg W.n P (p++[x])):=by
   show Dc (.dk _) _ _=_;rw[Kv _ _ _ (by simp at hlen ⊢;omega)];have:(.inr x:Key)∉(p.map λ x=>((.inr x:Key),row W.n (P x))).map (·.1):=by
    intro q;rw[z0l] at q;obtain⟨u,hu,e⟩:=z07.mp q;simp at e;exact nt (e▸hu)
   rw[putL_new this];simp[Kg]
  have b:Ly [.fz (wob W),.fz a,.fz g0,.fz (.dk g),.fz nm,.ow (Kg W.n P p),.fz (.str x)]=some (.nx [.fz (wob W),.fz a,.fz g0,.fz (.dk g),.fz nm,.ow (Kg W.n P (p++[x])),.fz (.str x)]):=by
   simp only[Ly,Hq,e_v,z0I,z0w,e_vs,CP,cm,FQ,pk,R0,z0n,z0o]
  obtain⟨z',ih⟩:=Tw W h5 a g0 nm g P r (p++[x]) (.fz (.str x)) (by simpa using nd) (λ u hu=>hl u (by simp[hu])) (by simpa using hlen);refine⟨z',?_⟩
  w_up
  rw[b,C_,ih];simp
theorem lz (W:Wl) (h5:W.n<=5) (hw:WOk W) (a:Fa) (hk:Kn W a):G_ [wob W,enc a]=some (lT (prs W a)):=by
 cases a with
 | mk w x=>
  obtain⟨q,hq,e⟩:=LQ hk;have e1:getK (.inr w:Key) (oM W.ms)=some (kM q.2):=by
   show getK _ (W.ms.map λ p=>_)=_;rw[Jf kM w W.ms,e];rfl
  have cm:BJ (seqA (bF ixE (uF (fldD "marked") (vF 0)) (bF ixE (vF 1) (kF (.int 1))))) allT Gr [.fz (wob W),.fz (.tup [.str "mark",.str w,.str x])]=some (.lst ((q.2.map λ t=>(t,t)).map pN)):=by
   refine Ea (ds:=q.2.map iN) ?_ (by rw[z02];have:=(hw.ml q hq).2.1;omega) ?_
   ·simp only[Hk,e_b,e_u,e_v,e_k,z0I,z0w,e_vs,e_us,Tt,e_bs,Mw,ixt1,RW,e1];show Sd (some (.dk _))=_;rw[RX,z0l];rfl
   ·have:∀ l:List Nat,Bo [.fz (wob W),.fz (.tup [.str "mark",.str w,.str x])] allT Gr (l.map iN)=some ((l.map λ t=>(t,t)).map pN):=by
     intro l
     induction l with
     | nil=>rfl
     | cons t r ih=>
      have v:Gr ([.fz (wob W),.fz (.tup [.str "mark",.str w,.str x])]++[.fz (iN t)])=some (pN (t,t)):=by simp only[cK,Gr,Aq,CK]
      rw[z03,Bg,MP,v,ih];rfl
    exact this q.2
  have ep:prs W (.mk w x)=q.2.map λ t=>(t,t):=by simp only[prs,e,z0k,Option.getD_some]
  rw[ep];simp only[dK,enc,G_,Iu,Aq,CK,g2,cm,lT]
 | ti w x y=>
  obtain⟨q,hq,e⟩:=LQ hk;have e1:getK (.inr w:Key) (oT W.ts)=some (kT q.2):=by
   show getK _ (W.ts.map λ p=>_)=_;rw[Jf kT w W.ts,e];rfl
  have ep:prs W (.ti w x y)=q.2:=by simp only[prs,e,z0k,Option.getD_some]
  have el:Qk (kT q.2)=some (lT q.2):=by
   show some (D.lst ((q.2.map _).map _))=_;rw[z0l];rfl
  rw[ep];simp only[dK,enc,G_,Iu,Aq,CK,g4,g3,Zm,e1,el]
 | sa x y=>
  have cm:BJ (rngI (uF (fldD "size") (vF 0))) allT KH [.fz (wob W),.fz (.tup [.str "same",.str x,.str y])]=some (.lst ((List.range W.n).map λ t=>pN (t,t))):=by
   refine L_ (λ t=>pN (t,t)) _ ?_ (by omega) λ k hk=>?_
   ·have rg:=JW (W.n:Int) (by omega);simp only[JV,e_u,e_v,z0w,e_vs,e_us,Jg,rg,z0r]
   ·simp only[cK,KH,Aq,CK]
  have ep:lT (prs W (.sa x y))=.lst ((List.range W.n).map λ t=>pN (t,t)):=by simp only[prs,lT,z0l];rfl
  rw[ep];simp only[dK,enc,G_,Iu,Aq,CK,g7,g6,cm]
theorem MF (i j:Int):MN (.int i) (.int j)=some (.int (Builtin.bitAnd i j)):=zE_ _
theorem Wz (i j:Int):borD (.int i) (.int j)=some (.int (Builtin.bitOr i j)):=zE_ _
theorem qj (i j:Int):aG (.int i) (.int j)=some (.int (Builtin.bitXor i j)):=zE_ _
theorem l_ {x w:Nat}(h:x<2^w):Builtin.Int.intBits (x:Int)<=w:=by
 unfold Builtin.Int.intBits
 by_cases z:x=0
 ·subst z;simp
 ·have e:((x:Int)==0)=false:=by simp[z]
  rw[e,Int.natAbs_natCast];have:=(Nat.log2_lt z).mpr h;simp;omega
theorem W0 (x w k:Nat) (h:x<2^w) (hw:w<=4194304) (hk:k<=1000000):shlD (.int (x:Int)) (.int (k:Int))=some (.int ((x<<<k:Nat):Int)):=by
 have c:CShl (x:Int) (k:Int):=⟨by omega,by omega,z0a (l_ h) hw⟩;show (if CShl (x:Int) (k:Int) then some (D.int ((x:Int)*2^((k:Int)).toNat)) else none)=_;rw[if_pos c,z0r,Nat.shiftLeft_eq];simp
theorem ql (x k:Nat):shrD (.int (x:Int)) (.int (k:Int))=some (.int ((x>>>k:Nat):Int)):=by
 show (if (0:Int)<=(k:Int) then some (D.int ((x:Int)/2^((k:Int)).toNat)) else none)=_;rw[if_pos (by omega),z0r,Nat.shiftRight_eq_div_pow];simp
theorem Tz (w:Nat) (h:w<=1000000):Cg [.int (w:Int)]=some (.int ((2^w-1:Nat):Int)):=by
 have e:=W0 1 1 w (by decide) (by decide) h;have e':shlD (.int 1) (.int (w:Int))=some (.int ((1<<<w:Nat):Int)):=e;simp only[ciK,Cg,KQ,e'];rw[Nat.shiftLeft_eq,Nat.one_mul];have:=z11 w;congr 2;omega
theorem Yb (x w:Nat) (hx:x<2^w):∀ (l:List D) (n:Nat) (z:Slot),w*(n+l.length)<=1000000->w<=1000000 ->
  ∃ z',forF (tgB (CT 4) Hv) l [.fz (.int (x:Int)),.fz (.int (w:Int)),s2,.fz (.int (KB.rep x w n:Int)),z]=some (.nx [.fz (.int (x:Int)),.fz (.int (w:Int)),s2,.fz (.int (KB.rep x w (n+l.length):Int)),z'])
 | [],n,z,_,_=>⟨z,by simp[Hb]⟩
 | d::r,n,z,h,hw=>by
  have e1:=W0 (KB.rep x w n) (w*n) w (KB.Zi hx n) (z0a (z1r w (by omega)) (z0a h (by decide))) hw;have e2:=KB.Th (KB.rep x w n<<<w) x;have b:Hv [.fz (.int (x:Int)),.fz (.int (w:Int)),s2,.fz (.int (KB.rep x w n:Int)),.fz d]=some (.nx [.fz (.int (x:Int)),.fz (.int (w:Int)),s2,.fz (.int (KB.rep x w (n+1):Int)),.fz d]):=by
   simp only[cK,Hv,e1,Wz,e2,KB.rep]
  have q:n+(d::r).length=n+1+r.length:=by rw[z0s];omega
  obtain⟨z',ih⟩:=Yb x w hx r (n+1) (.fz d) (by rw[<-q];exact h) hw;refine⟨z',?_⟩;rw[Ck,e_tg,GP,Ho];simp only[z0n,z0o];rw[b,C_,ih,q]
theorem Yc (x w n:Nat) (hx:x<2^w) (h:w*n<=1000000) (hw:w<=1000000) (hn:n<=5):KN [.int (x:Int),.int (w:Int),.int (n:Int)]=some (.int (KB.rep x w n:Int)):=by
 obtain⟨z',e⟩:=Yb (s2:=.fz (.int (n:Int))) x w hx (rngD n) 0 .un (by rw[Df,z0A];exact h) hw;rw[Df,z0A] at e;have e0:(KB.rep x w 0:Int)=0:=rfl;rw[e0] at e;have g:=JW (n:Int) ⟨by omega,by omega⟩;rw[z0r] at g;simp only[cK,KN,Mz,g,e]
theorem VV (f:Nat->Bool) (h:Nat->D) (src:FI) (hs:src ρ=some (rngD n)) (hn:n<=1000) (h1:∀ k,k<n->ga (ρ++[.fz (.int k)])=some (f k)) (h2:∀ k,k<n->fe (ρ++[.fz (.int k)])=some (h k)):BJ src ga fe ρ=some (.lst (((List.range n).filter f).map h)):=by
 have c:∀ l:List Nat,(∀ k∈l,k<n)->Bo ρ ga fe (l.map λ (k:Nat)=>D.int k)=some ((l.filter f).map h):=by
  intro l
  induction l with
  | nil=>intro _;rfl
  | cons k r ih=>
   intro hl;rw[z03,Bg,h1 k (hl k (by simp)),h2 k (hl k (by simp)),ih λ d hd=>hl d (by simp[hd]),List.filter_cons];cases f k<;>rfl
 exact Ea hs (by rw[Df];omega) (c (List.range n) λ k hk=>z0B.mp hk)
theorem mC (i j:Int) (h:0<=j):shrD (.int i) (.int j)=some (.int (i/2^j.toNat)):=by
 show (if 0<=j then some (D.int (i/2^j.toNat)) else none)=_;rw[if_pos h]
theorem xU:shlD (.int 1) (.int 90)=some (.int 1237940039285380274899124224):=by
 show (if CShl 1 90 then some (D.int (1*2^(90:Int).toNat)) else none)=_;rw[if_pos (by delta CShl;decide +kernel)];rfl
theorem qm (i:Int) (h:Builtin.Int.intBits i<=1048576):mulD (.int i) (.int 27182818284590452353602874713526624977572470936999595749669)=some (.int (i*27182818284590452353602874713526624977572470936999595749669)):=by
 show (if MK i _ then some (D.int (i*_)) else none)=_;rw[if_pos (.inr ⟨by omega,by decide +kernel⟩)]
structure Mk (n:Nat) (ws:List Str) (k:Nat) (ms:List (Str×List Nat)):Prop where
 len:ms.length=k
 nm:ms.map (·.1)=ws.take k
 ok:∀ p∈ms,p.2.Nodup/\p.2.length<=100/\∀ t∈p.2,t<n
theorem QM {l:List Str}(nd:l.Nodup) {i j:Nat}(hi:i<l.length) (hj:j<l.length) (e:l[i]=l[j]):i=j:=by
 have h:=List.pairwise_iff_getElem.mp nd
 rcases Nat.lt_trichotomy i j with z | z | z
 ·exact absurd e (h i j hi hj z)
 ·exact z
 ·exact absurd e.symm (h j i hj hi z)
theorem Iw (n:Nat) (f:Nat->Bool):((List.range n).filter f).Nodup:=List.Nodup.sublist List.filter_sublist List.nodup_range
theorem T3 (n:Nat) (hn:n<=5) (ρ:Rho) (i:Nat) (h:ρ[i]?=some (.fz (.int (n:Int)))):rngI (vF i) ρ=some (rngD n):=by
 have rg:=JW (n:Int) (by omega);simp only[JV,e_v,h,e_vs,rg,z0r]
theorem fH (n:Nat) (hn:n<=5) (o:Slot) (b:D) (bits:Int) (ws:List Str) (hw:ws.length=6) (nd:ws.Nodup) (k:Nat) (hk:k<3) (ms:List (Str×List Nat)) (hm:Mk n ws k ms) (z7 z8 z9:Slot) :
  ∃ ms',Ei [o,.fz b,.fz (.lst (ws.map .str)),.fz (.int bits),.fz (.int (n:Int)),.ow (.dk (eM ms)),.fz (.int (k:Int)),z7,z8,z9]=some (.nx [o,.fz b,.fz (.lst (ws.map .str)),.fz (.int bits),.fz (.int (n:Int)),.ow (.dk (eM ms')),.fz (.int (k:Int)),z7,z8,z9])/\Mk n ws (k+1) ms':=by
 obtain⟨f,hf⟩:∃ f:Nat->Bool,∀ t,t<n->Gg ([o,.fz b,.fz (.lst (ws.map .str)),.fz (.int bits),.fz (.int (n:Int)),.ow (.dk (eM ms)),.fz (.int (k:Int)),z7,z8,z9]++[.fz (.int (t:Int))])=some (f t):=by
  refine⟨λ t=>decide (Builtin.bitAnd (bits/2^(5*(k:Int)+t).toNat) 1=1),λ t ht=>?_⟩;have m1:=NP 5 (k:Int) (by decide);have s1:=mC bits (5*(k:Int)+t) (by omega);simp only[ciK,Gg,m1,s1,MF]
 have cm:BJ (rngI (vF 4)) Gg K3 [o,.fz b,.fz (.lst (ws.map .str)),.fz (.int bits),.fz (.int (n:Int)),.ow (.dk (eM ms)),.fz (.int (k:Int)),z7,z8,z9]=some (lM ((List.range n).filter f)):=
  VV f iN _ (T3 n hn _ 4 rfl) (by omega) hf λ t ht=>rfl
 have hk6:k<ws.length:=by omega
 have ix:ixE (.lst (ws.map .str)) (.int (k:Int))=some (.str ws[k]):=by
  show atI (ws.map D.str) (k:Int)=_;rw[JX,z0g];simp[hk6]
 have nt:ws[k]∉ms.map (·.1):=by
  rw[hm.nm];intro q;obtain⟨j,hj,e⟩:=z1F q;rw[z0V] at hj;rw[List.getElem_take] at e;have:=QM nd (by omega) hk6 e;omega
 have pk:Dc (.dk (eM ms)) (.str ws[k]) (lM ((List.range n).filter f))=some (.dk (eM (ms++[(ws[k],(List.range n).filter f)]))):=by
  rw[Kv _ _ _ (by have:=hm.len;simp[eM];omega)];have:(.inr ws[k]:Key)∉(eM ms).map (·.1):=Jw lM nt;rw[putL_new this];simp[eM]
 refine⟨ms++[(ws[k],(List.range n).filter f)],?_,by simp[hm.len],?_,?_⟩
 ·simp only[Ei,Hq,e_b,e_v,z0I,z0w,e_vs,CP,e_bs,ix,cm,FQ,pk,R0,z0n,z0o]
 ·rw[z0H,hm.nm,List.take_succ];simp[hk6]
 ·intro p hp
  rcases z0p.mp hp with q | q
  ·exact hm.ok p q
  ·simp at q;subst q;refine⟨Iw n f,?_,λ t ht=>z0B.mp (z0K.mp ht).1⟩;have:=List.length_filter_le f (List.range n);rw[List.length_range] at this;show ((List.range n).filter f).length<=100;omega
structure Tk (n:Nat) (ws:List Str) (k:Nat) (ts:List (Str×List (Nat×Nat))):Prop where
 len:ts.length=k
 nm:ts.map (·.1)=(ws.drop (6-k)).reverse
 ok:∀ p∈ts,p.2.Nodup/\p.2.length<=100/\∀ q∈p.2,q.1<n/\q.2<n
structure Fd (n k:Nat) (l:List (Nat×Nat)):Prop where
 nd:l.Nodup
 len:l.length<=5*k
 lt:∀ q∈l,q.1<k/\q.2<n
theorem Zo (n:Nat) (hn:n<=5) (o:Slot) (b ws:D) (bits:Int) (m t:Slot) (k:Nat) (i:Nat) (hi:i<n) (l:List (Nat×Nat)) (hl:Fd n i l) :
  ∃ l',Gi [o,.fz b,.fz ws,.fz (.int bits),.fz (.int (n:Int)),m,.fz (.int (k:Int)),t,.fz (lT l),.fz (.int (i:Int))]=some (.nx [o,.fz b,.fz ws,.fz (.int bits),.fz (.int (n:Int)),m,.fz (.int (k:Int)),t,.fz (lT l'),.fz (.int (i:Int))])/\Fd n (i+1) l':=by
 obtain⟨f,hf⟩:∃ f:Nat->Bool,∀ u,u<n->Gh ([o,.fz b,.fz ws,.fz (.int bits),.fz (.int (n:Int)),m,.fz (.int (k:Int)),t,.fz (lT l),.fz (.int (i:Int))]++[.fz (.int (u:Int))])=some (f u):=by
  refine⟨λ u=>decide (Builtin.bitAnd (bits/2^(15+25*(k:Int)+5*(i:Int)+u).toNat) 1=1),λ u hu=>?_⟩;have m1:=NP 25 (k:Int) (by decide);have m2:=NP 5 (i:Int) (by decide);have s1:=mC bits (15+25*(k:Int)+5*(i:Int)+u) (by omega);simp only[ciK,Gh,m1,m2,s1,MF]
 have cm:BJ (rngI (vF 4)) Gh Il [o,.fz b,.fz ws,.fz (.int bits),.fz (.int (n:Int)),m,.fz (.int (k:Int)),t,.fz (lT l),.fz (.int (i:Int))]=some (.lst (((List.range n).filter f).map λ u=>pN (i,u))):=
  VV f (λ u=>pN (i,u)) _ (T3 n hn _ 4 rfl) (by omega) hf λ u hu=>by simp only[cK,Il]
 have fl:=List.length_filter_le f (List.range n);rw[List.length_range] at fl;have ad:addD (lT l) (.lst (((List.range n).filter f).map λ u=>pN (i,u)))=some (lT (l++((List.range n).filter f).map λ u=>(i,u))):=by
  show addD (.lst (l.map pN)) _=_;rw[iu (by rw[z02,z02];have:=hl.len;omega)];simp[lT]
 refine⟨l++((List.range n).filter f).map λ u=>(i,u),?_,?_,?_,?_⟩
 ·simp only[Gi,NQ,e_b,e_v,z0I,z0w,e_vs,cm,e_bs,ad,J0,z0n,z0o]
 ·rw[z0M];refine⟨hl.nd,?_,λ a ha c hc e=>?_⟩
  ·rw[List.Nodup,List.pairwise_map];exact List.Pairwise.imp (λ hab e=>hab (by simpa using e)) (Iw n f)
  ·subst e;obtain⟨u,_,rfl⟩:=z07.mp hc;have:=(hl.lt _ ha).1;simp at this
 ·have:=hl.len;rw[z0u,z02];omega
 ·intro q hq
  rcases z0p.mp hq with z | z
  ·have:=hl.lt q z;exact⟨by omega,this.2⟩
  ·obtain⟨u,hu,rfl⟩:=z07.mp z;exact⟨by simp,z0B.mp (z0K.mp hu).1⟩
theorem mD (n:Nat) (hn:n<=5) (o:Slot) (b:D) (bits:Int) (ws:List Str) (hw:ws.length=6) (nd:ws.Nodup) (k:Nat) (hk:k<3) (ts:List (Str×List (Nat×Nat))) (ht:Tk n ws k ts) (m z8 z9:Slot) :
  ∃ ts' z8' z9',Dk [o,.fz b,.fz (.lst (ws.map .str)),.fz (.int bits),.fz (.int (n:Int)),m,.fz (.int (k:Int)),.ow (.dk (eT ts)),z8,z9]=some (.nx [o,.fz b,.fz (.lst (ws.map .str)),.fz (.int bits),.fz (.int (n:Int)),m,.fz (.int (k:Int)),.ow (.dk (eT ts')),z8',z9'])/\Tk n ws (k+1) ts':=by
 obtain⟨ρ',ef,l,z9',rfl,hl⟩:=Ko (b:=tgB (CT 9) Gi) (ds:=rngD n) (ρ:=[o,.fz b,.fz (.lst (ws.map .str)),.fz (.int bits),.fz (.int (n:Int)),m,.fz (.int (k:Int)),.ow (.dk (eT ts)),.fz (lT []),z9])
  (P:=λ i ρ=>∃ l z,ρ=[o,.fz b,.fz (.lst (ws.map .str)),.fz (.int bits),.fz (.int (n:Int)),m,.fz (.int (k:Int)),.ow (.dk (eT ts)),.fz (lT l),z]/\Fd n i l) 0 ⟨[],_,rfl,by simp,by simp,by simp⟩ (by
   rintro i d ρ hd ⟨l,z,rfl,hl⟩;have hi:i<n:=by
    have:=(z0C.mp hd).1
    rwa [Df] at this
   have ed:d=.int (i:Int):=by
    unfold rngD at hd;rw[z0g,z1Y hi] at hd;exact (z0h hd).symm
   subst ed;obtain⟨l',e',hl'⟩:=Zo n hn o b (.lst (ws.map .str)) bits m (.ow (.dk (eT ts))) k i hi l (by rw[z0A] at hl;exact hl);refine⟨_,?_,l',.fz (.int (i:Int)),rfl,by rw[z0A];exact hl'⟩;rw[e_tg,GP,Ho];simp only[z0n,z0o];exact e')
 rw[Df,z0A] at hl;have h5:5-k<ws.length:=by omega
 have ix:ixE (.lst (ws.map .str)) (.int (5-(k:Int)))=some (.str ws[5-k]):=by
  show atI (ws.map D.str) (5-(k:Int))=_;rw[show (5-(k:Int))=((5-k:Nat):Int) by omega,JX,z0g];simp[h5]
 have nt:ws[5-k]∉ts.map (·.1):=by
  rw[ht.nm];intro q;rw[List.mem_reverse] at q;obtain⟨j,hj,e⟩:=z1F q;rw[z1c] at hj;rw[List.getElem_drop] at e;have:=QM nd (by omega) h5 e;omega
 have pk:Dc (.dk (eT ts)) (.str ws[5-k]) (lT l)=some (.dk (eT (ts++[(ws[5-k],l)]))):=by
  rw[Kv _ _ _ (by have:=ht.len;simp[eT];omega)];have:(.inr ws[5-k]:Key)∉(eT ts).map (·.1):=Jw lT nt;rw[putL_new this];simp[eT]
 refine⟨ts++[(ws[5-k],l)],.fz (lT l),z9',?_,by simp[ht.len],?_,?_⟩
 ·have rg:=T3 n hn [o,.fz b,.fz (.lst (ws.map .str)),.fz (.int bits),.fz (.int (n:Int)),m,.fz (.int (k:Int)),.ow (.dk (eT ts)),.fz (lT []),z9] 4 rfl;have e0:D.lst []=lT []:=rfl;simp only[Dk,Qd,NQ,Uv,Uu,Rv,e0,J0,z0n,z0o,e_nx,Ux,rg,PJ,ef,Hq,e_b,e_k,e_v,z0I,z0w,e_vs,CP,e_bs,Vm,ix,FQ,pk,R0]
 ·rw[z0H,ht.nm,show 6-(k+1)=5-k by omega,z1A h5,List.reverse_cons,show 5-k+1=6-k by omega];rfl
 ·intro p hp
  rcases z0p.mp hp with q | q
  ·exact ht.ok p q
  ·simp at q;subst q;exact⟨hl.nd,by have:=hl.len;show l.length<=100;omega,hl.lt⟩
theorem mF (i1 i2:Int) (hb:Builtin.Int.intBits i2<=1048576) (ws:List Str) (hw:ws.length=6) (wd:∀ x∈ws,Wd x) (nd:ws.Nodup):∃ W:Wl,Et [.int i1,.int i2,.lst (ws.map .str)]=some (.lst [.int (W.n:Int),.dk (eM W.ms),.dk (eT W.ts)])/\WOk W:=by
 have e1:=qm i2 hb;have e2:=xU;have em:=JD (i1/3) 1000000007 (by decide);obtain⟨A,hA⟩:∃ A,modD (.int (i2*27182818284590452353602874713526624977572470936999595749669)) (.int 1237940039285380274899124224)=some (.int A):=⟨_,De _ _ (by decide)⟩;obtain⟨B,hB⟩:∃ B,modD (.int i2) (.int 1237940039285380274899124224)=some (.int B):=⟨_,De _ _ (by decide)⟩;obtain⟨N,hN,hN0⟩:∃ N,modD (.int (i1/3*1000000007)) (.int 2147483647)=some (.int N)/\0<=N:=⟨_,De _ _ (by decide),z19 _ (by decide)⟩;have hn6:N%6=((N%6).toNat:Int)/\(N%6).toNat<=5:=by omega
 generalize hn:(N%6).toNat=n at hn6;obtain⟨en,hn5⟩:=hn6;have h1:0<=N/6%4/\N/6%4<4:=by omega
 have h2:0<=N/24%4/\N/24%4<4:=by omega
 have r1:=JW (N/6%4) (by omega);have r2:=JW (N/24%4) (by omega);have core:∀ bits:Int,∃ W:Wl,(runO (Ut (setO 0 [.fz (.int i1),.fz (.int i2),.fz (.lst (ws.map .str)),.fz (.int bits),.un,.un,.un,.un,.un,.un] (some (.int N))) (seqF (setF 4 (bF modD (vF 0) (kF (.int 6)))) (seqF (setW 5 (kF (.dk []))) (seqF (forS (rngI (bF modD (bF Dt (vF 0) (kF (.int 6))) (kF (.int 4)))) (CT 6) (Ei)) (seqF (setW 7 (kF (.dk []))) (seqF (forS (rngI (bF modD (bF Dt (vF 0) (kF (.int 24))) (kF (.int 4)))) (CT 6) (Dk)) (fzS [5,7] (retF (lstF (Aa (vF 4) (Aa (vF 5) (Aa (vF 7) (nilA)))))))))))))=some (.lst [.int (W.n:Int),.dk (eM W.ms),.dk (eT W.ts)]))/\WOk W:=by
  intro bits;obtain⟨ρ1,f1,ms,z6,rfl,hm⟩:=Ko (b:=tgB (CT 6) Ei) (ds:=rngD (N/6%4).toNat) (ρ:=[.fz (.int N),.fz (.int i2),.fz (.lst (ws.map .str)),.fz (.int bits),.fz (.int (n:Int)),.ow (.dk (eM [])),.un,.un,.un,.un])
   (P:=λ k ρ=>∃ ms z,ρ=[.fz (.int N),.fz (.int i2),.fz (.lst (ws.map .str)),.fz (.int bits),.fz (.int (n:Int)),.ow (.dk (eM ms)),z,.un,.un,.un]/\Mk n ws k ms) 0 ⟨[],_,rfl,rfl,by simp,by simp⟩ (by
    rintro i d ρ hd ⟨ms,z,rfl,hm⟩;have hi:i<(N/6%4).toNat:=by
     have:=(z0C.mp hd).1
     rwa [Df] at this
    have ed:d=.int (i:Int):=by
     unfold rngD at hd;rw[z0g,z1Y hi] at hd;exact (z0h hd).symm
    subst ed;rw[z0A] at hm;obtain⟨ms',e',hm'⟩:=fH n hn5 (.fz (.int N)) (.int i2) bits ws hw nd i (by omega) ms hm .un .un .un;refine⟨_,?_,ms',.fz (.int (i:Int)),rfl,by rw[z0A];exact hm'⟩;rw[e_tg,GP,Ho];simp only[z0n,z0o];exact e')
  rw[Df,z0A] at hm;obtain⟨ρ2,f2,ts,y6,y8,y9,rfl,ht⟩:=Ko (b:=tgB (CT 6) Dk) (ds:=rngD (N/24%4).toNat) (ρ:=[.fz (.int N),.fz (.int i2),.fz (.lst (ws.map .str)),.fz (.int bits),.fz (.int (n:Int)),.ow (.dk (eM ms)),z6,.ow (.dk (eT [])),.un,.un])
   (P:=λ k ρ=>∃ ts z z8 z9,ρ=[.fz (.int N),.fz (.int i2),.fz (.lst (ws.map .str)),.fz (.int bits),.fz (.int (n:Int)),.ow (.dk (eM ms)),z,.ow (.dk (eT ts)),z8,z9]/\Tk n ws k ts) 0 ⟨[],_,_,_,rfl,rfl,by simp[hw],by simp⟩ (by
    rintro i d ρ hd ⟨ts,z,z8,z9,rfl,ht⟩;have hi:i<(N/24%4).toNat:=by
     have:=(z0C.mp hd).1
     rwa [Df] at this
    have ed:d=.int (i:Int):=by
     unfold rngD at hd;rw[z0g,z1Y hi] at hd;exact (z0h hd).symm
    subst ed;rw[z0A] at ht;obtain⟨ts',z8',z9',e',ht'⟩:=mD n hn5 (.fz (.int N)) (.int i2) bits ws hw nd i (by omega) ts ht (.ow (.dk (eM ms))) z8 z9;refine⟨_,?_,ts',.fz (.int (i:Int)),z8',z9',rfl,by rw[z0A];exact ht'⟩;rw[e_tg,GP,Ho];simp only[z0n,z0o];exact e')
  rw[Df,z0A] at ht;have lm:=hm.len;have lt:=ht.len;refine⟨⟨n,ms,ts⟩,?_,hn5,by show ms.length<=3;omega,by show ts.length<=3;omega,λ p hp=>?_,λ p hp=>?_,?_,hm.ok,ht.ok⟩
  ·have m6:=De N 6 (by decide);rw[en] at m6;have e0:D.dk []=.dk (eM []):=rfl;have e0':D.dk (eM [])=.dk (eT []):=rfl;have f2':forF (tgB (CT 6) Dk) (rngD (N/24%4).toNat) [.fz (.int N),.fz (.int i2),.fz (.lst (ws.map .str)),.fz (.int bits),.fz (.int (n:Int)),.ow (.dk (eM ms)),z6,.ow (.dk (eM [])),.un,.un]=_:=f2;simp only[J0,z0n,z0o,e_nx,Qd,NQ,e_b,e_v,e_k,z0w,z0I,e_vs,e_bs,m6,H_,e0,GK,Ux,JV,JC,Int.reduceLT,De,r1,PJ,f1,r2,f2',Sh,My,Sg,Xg,Uv,Ru,Uu,NT,Rw,Rt,Ry]
  ·have:p.1∈ws.take (N/6%4).toNat:=by rw[<-hm.nm];exact z07.mpr ⟨p,hp,rfl⟩
   exact wd _ (List.mem_of_mem_take this)
  ·have:p.1∈(ws.drop (6-(N/24%4).toNat)).reverse:=by rw[<-ht.nm];exact z07.mpr ⟨p,hp,rfl⟩
   exact wd _ (List.mem_of_mem_drop (List.mem_reverse.mp this))
  ·show (ms.map (·.1)++ts.map (·.1)).Nodup;rw[hm.nm,ht.nm,z0M];refine⟨nd.sublist (List.take_sublist _ _),(by rw[List.Nodup,List.pairwise_reverse];exact List.Pairwise.imp (λ h e=>h e.symm) (nd.sublist (List.drop_sublist _ _))),λ x hx y hy e=>?_⟩;subst e;rw[List.mem_reverse] at hy;obtain⟨a,ha,ea⟩:=z1F hx;obtain⟨c,hc,ec⟩:=z1F hy;rw[z0V] at ha;rw[z1c] at hc;rw[List.getElem_take] at ea;rw[List.getElem_drop] at ec;have:=QM nd (by omega) (by omega) (ea.trans ec.symm);omega
 by_cases h3:i1%3=2
 ·obtain⟨W,hW,ok⟩:=core B;refine⟨W,?_,ok⟩;rw[<-hW];simp only[Et,Hs,Uy,z0s,z1e,Nat.reduceAdd,Ji,z03,z0q,z1l,z1U,Nat.reduceSub,z1T,z0F,Qd,NQ,e_b,e_v,e_k,z0w,z0I,e_vs,e_bs,e1,e2,hA,J0,z0n,z0o,e_nx,e_if,e_bl,De,Int.reduceLT,Xb,h3,decide_true,Uw,Xe,hB,JC,em,hN]
 ·obtain⟨W,hW,ok⟩:=core A;refine⟨W,?_,ok⟩;rw[<-hW];simp only[Et,Hs,Uy,z0s,z1e,Nat.reduceAdd,Ji,z03,z0q,z1l,z1U,Nat.reduceSub,z1T,z0F,Qd,NQ,e_b,e_v,e_k,z0w,z0I,e_vs,e_bs,e1,e2,hA,J0,z0n,z0o,e_nx,e_if,e_bl,De,Int.reduceLT,Xb,h3,decide_false,Uw,Xf,Xd,JC,em,hN]
def Ints (l:List (Key×D)):Prop:=∀ p∈l,∃ i,p.2=D.int i
theorem fJ {l:List (Key×D)}(h:Ints l):dkEq l l=some true:=by
 delta dkEq;rw[if_pos rfl]
 induction l with
 | nil=>rfl
 | cons p r ih=>
  obtain⟨i,e⟩:=h p (by simp);have i1:=ih λ q hq=>h q (by simp[hq]);rw[z03,e];have f:flD (.int i) (.int i)=some true:=by
   show some (eqV (.int i) (.int i))=_;simp[eqV]
  simp only[allO,f,i1];rfl
theorem fK {α:Type}(g f:α->D) (xs:List α) (src:FI) (hs:src ρ=some (xs.map g)) (hn:xs.length<=1000) (h:∀ x∈xs,fe (ρ++[.fz (g x)])=some (f x)):BJ src allT fe ρ=some (.lst (xs.map f)):=by
 have c:∀ l:List α,(∀ x∈l,x∈xs)->Bo ρ allT fe (l.map g)=some (l.map f):=by
  intro l
  induction l with
  | nil=>intro _;rfl
  | cons k r ih=>
   intro hl;rw[z03,Bg,MP,h k (hl k (by simp)),ih λ d hd=>hl d (by simp[hd])];rfl
 exact Ea hs (by rw[z02];omega) (c xs λ k hk=>hk)
def nD (x:Nat):D:=.int (x:Int)
def spt (l:List (Str×List Nat)):D:=.dk (l.map λ p=>((.inr p.1:Key),D.lst (p.2.map nD)))
theorem W2 (l:List (Str×List Nat)) (nd:(l.map (·.1)).Nodup) (p:Str×List Nat) (hp:p∈l):ixE (spt l) (.str p.1)=some (.lst (p.2.map nD)):=by
 have:getK (.inr p.1:Key) (l.map λ p=>((.inr p.1:Key),D.lst (p.2.map nD)))=some (.lst (p.2.map nD)):=by
  refine cB ?_ (z07.mpr ⟨p,hp,rfl⟩);rw[z0l];rw[List.Nodup,List.pairwise_map] at nd;rw[List.Nodup,List.pairwise_map];exact List.Pairwise.imp (λ hab e=>hab (by simpa using e)) nd
 rw[spt,RW];exact this
def wide (n w:Nat) (l:List (Str×List Nat)):List (Str×List Nat):=l.map λ p=>(p.1,p.2.map λ x=>KB.rep x w n)
structure Rows (n w:Nat) (l:List (Str×List Nat)):Prop where
 nd:(l.map (·.1)).Nodup
 len:∀ p∈l,p.2.length=n
 lt:∀ p∈l,∀ x∈p.2,x<2^w
 few:l.length<=100
theorem qp (l:List (Str×List Nat)) (x:Str) (v:List Nat) (hx:x∉l.map (·.1)) (hl:l.length<=1000):Dc (spt l) (.str x) (.lst (v.map nD))=some (spt (l++[(x,v)])):=by
 show Dc (.dk _) _ _=_;rw[Kv _ _ _ (by simp;omega)];have:(.inr x:Key)∉(l.map λ p=>((.inr p.1:Key),D.lst (p.2.map nD))).map (·.1):=by
  intro q;rw[z0l] at q;obtain⟨u,hu,e⟩:=z07.mp q;simp at e;exact hx (e▸z07.mpr ⟨u,hu,rfl⟩)
 rw[putL_new this];simp[spt]
theorem Va (W:Wl) (h5:W.n<=5) (nm:D) (w:Nat) (hw:w*W.n<=1000000) (hw':w<=1000000) (l:List (Str×List Nat)) (R:Rows W.n w l):∀ (r p:List (Str×List Nat)) (z:Slot),p++r=l ->
  ∃ z',forF (tgB (CT 5) JL) (r.map λ q=>.str q.1) [.fz (wob W),.fz nm,.fz (spt l),.fz (nD w),.ow (spt (wide W.n w p)),z]=some (.nx [.fz (wob W),.fz nm,.fz (spt l),.fz (nD w),.ow (spt (wide W.n w l)),z'])
 | [],p,z,e=>⟨z,by rw[z0t] at e;subst e;rfl⟩
 | q::r,p,z,e=>by
  have hq:q∈l:=by rw[<-e];simp
  have nd:=R.nd;rw[<-e,z0H,z0M] at nd;have nt:q.1∉(wide W.n w p).map (·.1):=by
   intro m;rw[wide,z0l] at m;obtain⟨u,hu,eu⟩:=z07.mp m;exact nd.2.2 u.1 (z07.mpr ⟨u,hu,rfl⟩) q.1 (by simp) eu
  have g:=W2 l R.nd q hq;have cm:BJ (seqA (bF ixE (vF 2) (vF 5))) allT K5 [.fz (wob W),.fz nm,.fz (spt l),.fz (nD w),.ow (spt (wide W.n w p)),.fz (.str q.1)]=some (.lst ((q.2.map λ x=>KB.rep x w W.n).map nD)):=by
   rw[z0l];refine fK nD _ q.2 _ ?_ (by rw[R.len q hq];omega) λ x hx=>?_
   ·simp only[dK,g]
   ·have rp:=Yc x w W.n (R.lt q hq x hx) hw hw' h5;simp only[cK,K5,nD,Jg,rp,Function.comp_apply]
  have pl:(wide W.n w p).length<=1000:=by
   have:=R.few;rw[<-e,z0u] at this;rw[wide,z02];omega
  have pk:=qp (wide W.n w p) q.1 (q.2.map λ x=>KB.rep x w W.n) nt pl;have ew:wide W.n w p++[(q.1,q.2.map λ x=>KB.rep x w W.n)]=wide W.n w (p++[q]):=by simp[wide]
  rw[ew] at pk;have b:JL [.fz (wob W),.fz nm,.fz (spt l),.fz (nD w),.ow (spt (wide W.n w p)),.fz (.str q.1)]=some (.nx [.fz (wob W),.fz nm,.fz (spt l),.fz (nD w),.ow (spt (wide W.n w (p++[q]))),.fz (.str q.1)]):=by
   simp only[JL,Hq,cm,e_v,z0w,z0I,e_vs,CP,FQ,pk,z0k,z0n,z0o]
  obtain⟨z',ih⟩:=Va W h5 nm w hw hw' l R r (p++[q]) (.fz (.str q.1)) (by rw[List.append_assoc];exact e);refine⟨z',?_⟩
  w_up
  rw[b,C_,ih]
def putN (x:Str) (v:List Nat) (l:List (Str×List Nat)):List (Str×List Nat):=if x∈l.map (·.1) then l.map λ p=>(p.1,if p.1=x then v else p.2) else l++[(x,v)]
theorem Yd (x:Str):∀ l:List (Str×List Nat),(getK (.inr x:Key) (l.map λ p=>((.inr p.1:Key),D.lst (p.2.map nD)))).isSome=decide (x∈l.map (·.1))
 | []=>rfl
 | p::r=>by
  by_cases h:p.1=x
  ·simp[getK,h]
  ·have g:¬ x=p.1:=λ e=>h e.symm;simp only[z03,getK];rw[if_neg (λ e=>h (by simpa using e)),Yd x r];simp[g]
theorem Ye (x:Str) (v:List Nat):∀ l:List (Str×List Nat),repK (.inr x:Key) (D.lst (v.map nD)) (l.map λ p=>((.inr p.1:Key),D.lst (p.2.map nD)))=(l.map λ p=>(p.1,if p.1=x then v else p.2)).map λ p=>((.inr p.1:Key),D.lst (p.2.map nD))
 | []=>rfl
 | p::r=>by
  simp only[z03,repK];rw[Ye x v r]
  by_cases h:p.1=x
  ·simp[h]
  ·simp[h]
theorem mG (x:Str) (v:List Nat) (l:List (Str×List Nat)):putL (.inr x:Key) (D.lst (v.map nD)) (l.map λ p=>((.inr p.1:Key),D.lst (p.2.map nD)))=(putN x v l).map λ p=>((.inr p.1:Key),D.lst (p.2.map nD)):=by
 delta putL putN;rw[Yd]
 by_cases h:x∈l.map (·.1)
 ·rw[if_pos h,if_pos (by simpa using h),Ye]
 ·rw[if_neg h,if_neg (by simpa using h)];simp
def bnd (n w:Nat):List Nat:=(List.range n).map λ t=>(2^w-1)<<<(t*w)
theorem W3 (a b:Nat) (h:a<=1000000) (h':b<=1000000):mulD (.int (a:Int)) (.int (b:Int))=some (.int ((a*b:Nat):Int)):=by
 rw[JD _ _ ⟨by omega,by omega⟩];simp
theorem Zq (W:Wl) (h5:W.n<=5) (x:Str) (w:Nat) (hw:w*W.n<=1000000) (hw':w<=100000) (l:List (Str×List Nat)) (R:Rows W.n w l):Lw [wob W,.str x,spt l,nD w]=some (spt (putN x (bnd W.n w) (wide W.n w l))):=by
 obtain⟨z',lo⟩:=Va W h5 (.str x) w hw (by omega) l R l [] .un rfl;have w0:spt (wide W.n w [])=.dk []:=rfl;rw[w0] at lo;have rg:=JW (W.n:Int) (by omega);have cm (z:Slot):BJ (rngI (uF (fldD "size") (vF 0))) allT K6 [.fz (wob W),.fz (.str x),.fz (spt l),.fz (nD w),.ow (spt (wide W.n w l)),z]=some (.lst ((bnd W.n w).map nD)):=by
  rw[bnd,z0l];refine L_ _ _ ?_ (by omega) λ k hk=>?_
  ·simp only[JV,e_u,e_v,z0w,e_vs,e_us,Jg,rg,z0r]
  ·have ev:=Tz w (by omega);have m:=W3 k w (by omega) (by omega);have kw:k*w<=1000000:=z0a (Nat.mul_le_mul_right w (Nat.le_of_lt hk)) (by rw[z1g];exact hw);have s:=W0 (2^w-1) w (k*w) (by have:=z11 w;omega) (by omega) kw;simp only[cK,K6,nD,ev,m,s,Function.comp_apply]
 have ks:(l.map λ p=>((.inr p.1:Key),D.lst (p.2.map nD))).map (λ p=>kDt p.1)=l.map λ q=>D.str q.1:=by
  rw[z0l];rfl
 have pk:Dc (spt (wide W.n w l)) (.str x) (.lst ((bnd W.n w).map nD))=some (spt (putN x (bnd W.n w) (wide W.n w l))):=by
  show Dc (.dk _) _ _=_;have:=R.few;rw[Kv _ _ _ (by rw[z02,wide,z02];omega),mG];rfl
 have sk:Sd (some (spt l))=some (l.map λ q=>D.str q.1):=by rw[spt,RX,ks]
 simp only[cK,Lw,QH,H_,GK,Hk,sk,lo,Hq,cm,CP,FQ,pk,z0k,Sh,My,Sg]
def Asg (n w:Nat) (l:List (Str×List Nat)) (Q:Nat->Str->Nat):Prop:=∀ j,j<w->∀ p∈l,∀ t,t<n->(p.2.getD t 0).testBit j=decide (t=Q j p.1)
theorem cW (A:List Nat) (a:Nat) (h:a<A.length):ixE (.lst (A.map nD)) (.int (a:Int))=some (nD (A.getD a 0)):=by
 show atI (A.map nD) (a:Int)=_;rw[JX,z0g];simp[h]
def orP (A B:List Nat) (c:Nat) (q:Nat×Nat):Nat:=c|||(A.getD q.1 0&&&B.getD q.2 0)
theorem Vb (n:Nat) (A B:List Nat) (hA:A.length=n) (hB:B.length=n) (s0 s1 s2 s3:Slot):∀ (l:List (Nat×Nat)) (c:Nat) (z7 z8:Slot),(∀ q∈l,q.1<n/\q.2<n) ->
  ∃ z7' z8',forF (tgB (tupG 2 (Cy 7 (Cy 8 nilG))) Gs) (l.map pN) [s0,s1,s2,s3,.fz (.lst (A.map nD)),.fz (.lst (B.map nD)),.fz (nD c),z7,z8]=some (.nx [s0,s1,s2,s3,.fz (.lst (A.map nD)),.fz (.lst (B.map nD)),.fz (nD (l.foldl (orP A B) c)),z7',z8'])
 | [],c,z7,z8,_=>⟨z7,z8,by simp[Hb]⟩
 | q::r,c,z7,z8,h=>by
  obtain⟨h1,h2⟩:=h q (by simp);have e1:=cW A q.1 (by omega);have e2:=cW B q.2 (by omega);have b:Gs [s0,s1,s2,s3,.fz (.lst (A.map nD)),.fz (.lst (B.map nD)),.fz (nD c),.fz (.int (q.1:Int)),.fz (.int (q.2:Int))]=some (.nx [s0,s1,s2,s3,.fz (.lst (A.map nD)),.fz (.lst (B.map nD)),.fz (nD (orP A B c q)),.fz (.int (q.1:Int)),.fz (.int (q.2:Int))]):=by
   simp only[cK,Gs,e1,e2];simp only[cK,nD,MF,Wz,KB.Ov,KB.Th,orP]
  obtain⟨z7',z8',ih⟩:=Vb n A B hA hB s0 s1 s2 s3 r (orP A B c q) (.fz (.int (q.1:Int))) (.fz (.int (q.2:Int))) λ u hu=>h u (by simp[hu]);refine⟨z7',z8',?_⟩;rw[z03,Ck,e_tg,Ln,Ho];simp only[z0n,z0o];rw[b,C_,ih,z1D]
theorem cX (A B:List Nat) (j:Nat):∀ (l:List (Nat×Nat)) (c:Nat),(l.foldl (orP A B) c).testBit j=(c.testBit j||l.any λ q=>(A.getD q.1 0).testBit j&&(B.getD q.2 0).testBit j)
 | [],c=>by simp
 | q::r,c=>by
  rw[z1D,cX A B j r,orP,z1S,Nat.testBit_and,z0X,Bool.or_assoc]
theorem cY {A:List Nat}{m:Nat}(hA:∀ x∈A,x<m) (h0:0<m) (i:Nat):A.getD i 0<m:=by
 rw[z1Z];cases e:A[i]? with
 | none=>simpa using h0
 | some v=>exact hA v (z1v e)
theorem mH {A B:List Nat}{w:Nat}(hA:∀ x∈A,x<2^w):∀ (l:List (Nat×Nat)) (c:Nat),c<2^w->l.foldl (orP A B) c<2^w
 | [],c,h=>h
 | q::r,c,h=>mH hA r _ (Nat.or_lt_two_pow h (z1n Nat.and_le_left (cY hA (z11 w) q.1)))
theorem vd (W:Wl) (h:WOk W) (a:Fa) (hk:Kn W a):∀ q∈prs W a,q.1<W.n/\q.2<W.n:=by
 intro q hq;cases a with
 | mk w x=>
  obtain⟨p,hp,e⟩:=LQ hk;simp only[prs,e,z0k,Option.getD_some] at hq;obtain⟨t,ht,rfl⟩:=z07.mp hq;have:=(h.ml p hp).2.2 t ht;exact⟨this,this⟩
 | ti w x y=>
  obtain⟨p,hp,e⟩:=LQ hk;simp only[prs,e,z0k,Option.getD_some] at hq;exact (h.tl p hp).2.2 q hq
 | sa x y=>
  simp only[prs] at hq;obtain⟨t,ht,rfl⟩:=z07.mp hq;have:=z0B.mp ht;exact⟨this,this⟩
def holds (W:Wl) (P:Str->Nat) (a:Fa):Bool:=(prs W a).any λ q=>decide (q.1=P (fst a))&&decide (q.2=P (lst' a))
theorem qt (W:Wl) (h:WOk W) (w:Nat) (l:List (Str×List Nat)) (R:Rows W.n w l) (Q:Nat->Str->Nat) (hQ:Asg W.n w l Q) (a:Fa) (hk:Kn W a) (hx:∀ x∈nms a,x∈l.map (·.1)):∃ c,Hu [wob W,enc a,spt l]=some (nD c)/\c<2^w/\∀ j,j<w->c.testBit j=holds W (Q j) a:=by
 have ni:=Qw a;have pk:=lz W h.n5 h a hk;have f1:∃ r,nms a=fst a::r:=by cases a<;>exact⟨_,rfl⟩
 obtain⟨r,e1⟩:=f1;have i0:ixD (.tup ((nms a).map .str)) (.int 0)=some (.str (fst a)):=by rw[e1];exact ixt0 _ _
 have i1:ixD (.tup ((nms a).map .str)) (.int (-1))=some (.str (lst' a)):=by
  cases a with
  | mk w x=>exact Le [] (D.str x)
  | ti w x y=>exact Le [D.str x] (D.str y)
  | sa x y=>exact Le [D.str x] (D.str y)
 have m1:fst a∈l.map (·.1):=hx _ (by rw[e1];simp);have m2:lst' a∈l.map (·.1):=hx _ (by cases a<;>simp[nms,lst']);obtain⟨p,hp,ep⟩:=z07.mp m1;obtain⟨q,hq,eq⟩:=z07.mp m2;have s1:=W2 l R.nd p hp;have s2:=W2 l R.nd q hq;rw[ep] at s1;rw[eq] at s2;have lt:=vd W h a hk;obtain⟨z7,z8,lp⟩:=Vb W.n p.2 q.2 (R.len p hp) (R.len q hq) (.fz (wob W)) (.fz (enc a)) (.fz (spt l)) (.fz (.tup ((nms a).map .str))) (prs W a) 0 .un .un lt;refine⟨(prs W a).foldl (orP p.2 q.2) 0,?_,mH (R.lt p hp) _ _ (z11 w),λ j hj=>?_⟩
 ·have e0:nD 0=.int 0:=rfl;rw[e0] at lp;simp only[cK,Hu,KJ,Mw,Hk,HF,ni,i0,i1,aJ,s1,s2,pk,lT,lp]
 ·rw[cX,Nat.zero_testBit,Bool.false_or,holds];have:∀ r:List (Nat×Nat),(∀ u∈r,u.1<W.n/\u.2<W.n)->(r.any λ u=>(p.2.getD u.1 0).testBit j&&(q.2.getD u.2 0).testBit j)=r.any λ u=>decide (u.1=Q j (fst a))&&decide (u.2=Q j (lst' a)):=by
   intro r
   induction r with
   | nil=>intro _;rfl
   | cons u r ih=>
    intro hu;obtain⟨u1,u2⟩:=hu u (by simp);rw[z0X,z0X,ih λ v hv=>hu v (by simp[hv]),hQ j hj p hp u.1 u1,hQ j hj q hq u.2 u2,ep,eq]
  exact this _ lt
inductive Sy where
 | fa (a:Fa) | no (s:Sy) | bo (b:Bool) (s t:Sy) | qu (b:Bool) (x:Str) (s:Sy)
def encS:Sy->D
 | .fa a=>enc a
 | .no s=>.tup [.str "not",encS s]
 | .bo true s t=>.tup [.str "both",encS s,encS t]
 | .bo false s t=>.tup [.str "either",encS s,encS t]
 | .qu true x s=>.tup [.str "some",.str x,encS s]
 | .qu false x s=>.tup [.str "all",.str x,encS s]
def KnS (W:Wl):Sy->Prop
 | .fa a=>Kn W a
 | .no s=>KnS W s
 | .bo _ s t=>KnS W s/\KnS W t
 | .qu _ _ s=>KnS W s
def fr:Sy->List Str
 | .fa a=>nms a
 | .no s=>fr s
 | .bo _ s t=>fr s++fr t
 | .qu _ x s=>(fr s).filter λ y=>decide (y≠x)
def dpt:Sy->Nat
 | .fa _=>0
 | .no s=>dpt s
 | .bo _ s t=>max (dpt s) (dpt t)
 | .qu _ _ s=>dpt s+1
def hgt:Sy->Nat
 | .fa _=>1
 | .no s=>hgt s+1
 | .bo _ s t=>max (hgt s) (hgt t)+1
 | .qu _ _ s=>hgt s+1
theorem hsu {s:Sy}(h:hgt s<=n):∃ m,n=m+1:=⟨n-1,by cases s<;>simp only[hgt] at h<;>omega⟩
def upd (P:Str->Nat) (x:Str) (k:Nat):Str->Nat:=λ y=>if y=x then k else P y
def tru (W:Wl):(Str->Nat)->Sy->Bool
 | P,.fa a=>holds W P a
 | P,.no s=>!tru W P s
 | P,.bo b s t=>if b then tru W P s&&tru W P t else tru W P s||tru W P t
 | P,.qu b x s=>if b then (List.range W.n).any λ k=>tru W (upd P x k) s else (List.range W.n).all λ k=>tru W (upd P x k) s
theorem T4 {x:Str}{v:List Nat}{l:List (Str×List Nat)}{p:Str×List Nat}(h:p∈putN x v l):p=(x,v)∨(p∈l/\p.1≠x):=by
 unfold putN at h;split at h
 ·obtain⟨q,hq,rfl⟩:=z07.mp h
  by_cases e:q.1=x
  ·left;simp[e]
  ·right;simp[e,hq]
 ·rcases z0p.mp h with z | z
  ·right;refine⟨z,λ e=>?_⟩;rename_i g;exact g (z07.mpr ⟨p,z,e⟩)
  ·left;simpa using z
theorem Zr {x:Str}{v:List Nat}{l:List (Str×List Nat)}(y:Str):y∈(putN x v l).map (·.1)↔y=x∨y∈l.map (·.1):=by
 delta putN;split
 ·rename_i g;rw[z0l];show y∈l.map (λ p=>p.1)↔_;constructor
  ·exact .inr
  ·rintro (rfl | h)
   ·exact g
   ·exact h
 ·simp only[z0H,z0p,z03,z0q,z1B];exact Or.comm
theorem fL {w:Nat}{l:List (Str×List Nat)}(R:Rows n w l) (hl:l.length<100) (x:Str):Rows n (w*n) (putN x (bnd n w) (wide n w l)):=by
 have wn:(wide n w l).map (·.1)=l.map (·.1):=by rw[wide,z0l];rfl
 have wm:∀ p∈wide n w l,p.2.length=n/\∀ y∈p.2,y<2^(w*n):=by
  intro p hp;obtain⟨q,hq,rfl⟩:=z07.mp hp;refine⟨by rw[z02];exact R.len q hq,λ y hy=>?_⟩;obtain⟨u,hu,rfl⟩:=z07.mp hy;exact KB.Zi (R.lt q hq u hu) n
 have bm:(bnd n w).length=n/\∀ y∈bnd n w,y<2^(w*n):=by
  refine⟨by simp[bnd],λ y hy=>?_⟩;obtain⟨k,hk,rfl⟩:=z07.mp hy;exact KB.qY (z0B.mp hk)
 refine⟨?_,λ p hp=>?_,λ p hp=>?_,?_⟩
 ·delta putN;split
  ·rw[z0l];show ((wide n w l).map (·.1)).Nodup;rw[wn];exact R.nd
  ·rename_i g;rw[z0H,wn,z0M];refine⟨R.nd,by simp,λ a ha b hb e=>?_⟩;simp at hb;rw[wn] at g;exact g (hb▸e▸ha)
 ·rcases T4 hp with rfl | ⟨z,_⟩
  ·exact bm.1
  ·exact (wm p z).1
 ·rcases T4 hp with rfl | ⟨z,_⟩
  ·exact bm.2
  ·exact (wm p z).2
 ·delta putN;split
  ·rw[z02,wide,z02];omega
  ·rw[z0u,wide,z02];simp;omega
theorem mJ {w:Nat}{l:List (Str×List Nat)}(R:Rows n w l) {Q:Nat->Str->Nat}(hQ:Asg n w l Q) (x:Str):Asg n (w*n) (putN x (bnd n w) (wide n w l)) (λ i=>upd (Q (i%w)) x (i/w)):=by
 intro i hi p hp t ht;have w0:0<w:=Nat.pos_of_ne_zero λ e=>by subst e;simp at hi
 have im:i%w<w:=Nat.mod_lt _ w0;have ik:i/w<n:=by rw[Nat.div_lt_iff_lt_mul w0,z1g];exact hi
 have ei:i=i%w+w*(i/w):=(Nat.mod_add_div i w).symm
 rcases T4 hp with rfl | ⟨z,hne⟩
 ·have:(bnd n w).getD t 0=(2^w-1)<<<(t*w):=by
   rw[bnd,z1Z,z0g,z1Y ht];rfl
  simp only[this];have fb:=KB.lU (w:=w) (t:=t) (k:=i/w) im;rw[<-ei] at fb;rw[fb];simp only[upd,if_true]
  by_cases e:t=i/w
  ·simp[<-e]
  ·have:¬ i/w=t:=λ q=>e q.symm;simp[e,this]
 ·obtain⟨q,hq,rfl⟩:=z07.mp z;have hl:=R.len q hq;have:(q.2.map λ x=>KB.rep x w n).getD t 0=KB.rep (q.2.getD t 0) w n:=by
   rw[z1Z,z0g,z1Z,z1a (by omega)];rfl
  simp only[this];have lt:q.2.getD t 0<2^w:=cY (R.lt q hq) (z11 w) t;have rb:=KB.cT lt im n (i/w);rw[<-ei] at rb;rw[rb,hQ _ im q hq t ht];have g:¬ q.1=x:=hne;simp[ik,upd,g]
theorem cZ (rc:List D->Option D) (s0 s1 s2 s3 s4 s5 s6:Slot):∀ (l:List Nat) (a b:Nat) (z:Slot),
  ∃ z',forF (tgB (CT 9) (Fl rc)) (l.map nD) [s0,s1,s2,s3,s4,s5,s6,.fz (nD a),.fz (nD b),z]=some (.nx [s0,s1,s2,s3,s4,s5,s6,.fz (nD (l.foldl (·|||·) a)),.fz (nD (l.foldl (·&&&·) b)),z'])
 | [],a,b,z=>⟨z,by simp[Hb]⟩
 | q::r,a,b,z=>by
  have e:Fl rc [s0,s1,s2,s3,s4,s5,s6,.fz (nD a),.fz (nD b),.fz (nD q)]=some (.nx [s0,s1,s2,s3,s4,s5,s6,.fz (nD (a|||q)),.fz (nD (b&&&q)),.fz (nD q)]):=by
   simp only[cK,Fl,nD,MF,Wz,KB.Ov,KB.Th]
  obtain⟨z',ih⟩:=cZ rc s0 s1 s2 s3 s4 s5 s6 r (a|||q) (b&&&q) (.fz (nD q));refine⟨z',?_⟩
  w_up
  rw[e,C_,ih,z1D,z1D]
theorem cg (j:Nat):∀ (l:List Nat) (a:Nat),(l.foldl (·|||·) a).testBit j=(a.testBit j||l.any λ x=>x.testBit j)
 | [],a=>by simp
 | q::r,a=>by rw[z1D,cg j r,z1S,z0X,Bool.or_assoc]
theorem Yg (j:Nat):∀ (l:List Nat) (a:Nat),(l.foldl (·&&&·) a).testBit j=(a.testBit j&&l.all λ x=>x.testBit j)
 | [],a=>by simp
 | q::r,a=>by rw[z1D,Yg j r,Nat.testBit_and,z1k,Bool.and_assoc]
theorem mK {w:Nat}:∀ (l:List Nat) (a:Nat),(∀ x∈l,x<2^w)->a<2^w->l.foldl (·|||·) a<2^w
 | [],a,_,h=>h
 | q::r,a,hl,h=>mK r _ (λ x hx=>hl x (by simp[hx])) (Nat.or_lt_two_pow h (hl q (by simp)))
theorem cj {w:Nat}:∀ (l:List Nat) (a:Nat),a<2^w->l.foldl (·&&&·) a<2^w
 | [],a,h=>h
 | q::r,a,h=>cj r _ (z1n Nat.and_le_left h)
theorem kS:eqD false (.str "some") (.str "some")=some (.bl true):=zE_ _
theorem kA:eqD false (.str "all") (.str "some")=some (.bl false):=zE_ _
theorem kNn:eqD false (.str "not") (.str "not")=some (.bl true):=zE_ _
theorem kBn:eqD false (.str "both") (.str "not")=some (.bl false):=zE_ _
theorem kEn:eqD false (.str "either") (.str "not")=some (.bl false):=zE_ _
theorem kBb:eqD false (.str "both") (.str "both")=some (.bl true):=zE_ _
theorem kEb:eqD false (.str "either") (.str "both")=some (.bl false):=zE_ _
theorem fcS:inF false (.str "some") c_FACTS=some (.bl false):=zE_ _
theorem fcA:inF false (.str "all") c_FACTS=some (.bl false):=zE_ _
theorem fcN:inF false (.str "not") c_FACTS=some (.bl false):=zE_ _
theorem fcB:inF false (.str "both") c_FACTS=some (.bl false):=zE_ _
theorem fcE:inF false (.str "either") c_FACTS=some (.bl false):=zE_ _
theorem biS:inF false (.str "some") c_BINDERS=some (.bl true):=zE_ _
theorem biA:inF false (.str "all") c_BINDERS=some (.bl true):=zE_ _
theorem biN:inF false (.str "not") c_BINDERS=some (.bl false):=zE_ _
theorem biB:inF false (.str "both") c_BINDERS=some (.bl false):=zE_ _
theorem biE:inF false (.str "either") c_BINDERS=some (.bl false):=zE_ _
theorem mL (W:Wl) (h5:W.n<=5) (rc:List D->Option D) (w:Nat) (hw:w<=100000) (b:Bool) (x:Str) (s:Sy) (l:List (Str×List Nat)) (R:Rows W.n w l) (c:Nat) (hr:rc [wob W,encS s,spt (putN x (bnd W.n w) (wide W.n w l)),nD (w*W.n)]=some (nD c)) (T:Nat->Nat->Bool) (hT:∀ j,j<w->∀ k,k<W.n->c.testBit (j+w*k)=T j k) :
  ∃ c',Fe rc [wob W,encS (.qu b x s),spt l,nD w]=some (nD c')/\c'<2^w/\∀ j,j<w->c'.testBit j=if b then (List.range W.n).any (T j) else (List.range W.n).all (T j):=by
 have hw5:w*W.n<=1000000:=z0a (Nat.mul_le_mul hw h5) (by decide);have wo:=Zq W h5 x w hw5 hw l R;have m:mulD (nD w) (.int (W.n:Int))=some (nD (w*W.n)):=W3 w W.n (by omega) (by omega);have ev:Cg [nD w]=some (nD (2^w-1)):=Tz w (by omega);have rg:=JW (W.n:Int) (by omega)
 let bs:List Nat:=(List.range W.n).map λ t=>(c>>>(t*w))&&&(2^w-1)
 have cm (s4:Slot):BJ (rngI (uF (fldD "size") (vF 0))) allT (Hl rc) [.fz (wob W),.fz (encS (.qu b x s)),.fz (spt l),.fz (nD w),s4,.fz (nD c),.un,.un,.un,.un]=some (.lst (bs.map nD)):=by
  show _=some (D.lst (List.map nD (List.map _ _)));rw[z0l];refine L_ _ _ ?_ (by omega) λ k hk=>?_
  ·simp only[JV,e_u,e_v,z0w,e_vs,e_us,Jg,rg,z0r]
  ·have mk:mulD (.int (k:Int)) (nD w)=some (nD (k*w)):=W3 k w (by omega) (by omega);have sh:shrD (nD c) (nD (k*w))=some (nD (c>>>(k*w))):=ql _ _;have an:MN (nD (c>>>(k*w))) (nD (2^w-1))=some (nD ((c>>>(k*w))&&&(2^w-1))):=by rw[nD,nD,MF,KB.Ov];rfl
   simp only[cK,Hl,ev,mk,sh,an,Function.comp_apply]
 have bb:∀ j,j<w->bs.any (λ y=>y.testBit j)=(List.range W.n).any (T j)/\bs.all (λ y=>y.testBit j)=(List.range W.n).all (T j):=by
  intro j hj;have:∀ r:List Nat,(∀ k∈r,k<W.n)->(r.map λ t=>(c>>>(t*w))&&&(2^w-1)).any (λ y=>y.testBit j)=r.any (T j)/\(r.map λ t=>(c>>>(t*w))&&&(2^w-1)).all (λ y=>y.testBit j)=r.all (T j):=by
   intro r
   induction r with
   | nil=>intro _;exact⟨rfl,rfl⟩
   | cons k r ih=>
    intro hk;obtain⟨i1,i2⟩:=ih λ u hu=>hk u (by simp[hu]);have e:=KB.fD (c:=c) (k:=k) hj;rw[hT j hj k (hk k (by simp))] at e;rw[z03,z0X,z1k,i1,i2,e,z0X,z1k];exact⟨rfl,rfl⟩
  exact this _ λ k hk=>z0B.mp hk
 have bl:∀ y∈bs,y<2^w:=by
  intro y hy;obtain⟨k,_,rfl⟩:=z07.mp hy;exact KB.lV
 obtain⟨z',lo⟩:=cZ rc (.fz (wob W)) (.fz (encS (.qu b x s))) (.fz (spt l)) (.fz (nD w)) (.fz (spt (putN x (bnd W.n w) (wide W.n w l)))) (.fz (nD c)) (.fz (.lst (bs.map nD))) bs 0 (2^w-1) .un;rw[show nD 0=D.int 0 from rfl] at lo;have eq':encS (.qu b x s)=.tup [.str (if b then "some" else "all"),.str x,encS s]:=by cases b<;>rfl
 have p0:=z11 w;rw[eq'] at cm lo ⊢;cases b with
 | true=>
  refine⟨bs.foldl (·|||·) 0,?_,mK bs 0 bl p0,λ j hj=>by rw[cg,Nat.zero_testBit,Bool.false_or,(bb j hj).1];rfl⟩;simp only[if_true] at cm lo ⊢;simp only[cK,Fe,HR,Mw,wo,Jg,m,hr,cm,ev,Hk,HF,lo,kS]
 | false=>
  refine⟨bs.foldl (·&&&·) (2^w-1),?_,cj bs _ (by omega),λ j hj=>by rw[Yg,z21,(bb j hj).2];simp[hj]⟩;simp only[Bool.false_eq_true,if_false] at cm lo ⊢;simp only[cK,Fe,HR,Mw,wo,Jg,m,hr,cm,ev,Hk,HF,lo,kA]
theorem mO (W:Wl) (h:WOk W):∀ (s:Sy) (f w:Nat) (l:List (Str×List Nat)) (Q:Nat->Str->Nat),Rows W.n w l->Asg W.n w l Q->KnS W s->(∀ x∈fr s,x∈l.map (·.1))->hgt s<=f->l.length+dpt s<=100->w*5^dpt s<=100000 ->
  ∃ c,By f [wob W,encS s,spt l,nD w]=some (nD c)/\c<2^w/\∀ j,j<w->c.testBit j=tru W (Q j) s:=by
 intro s
 induction s with
 | fa a=>
  intro f w l Q R hQ hk hx hf _ _;obtain⟨f,rfl⟩:∃ g,f=g+1:=⟨f-1,by simp[hgt] at hf;omega⟩;obtain⟨c,fc,h1,h2⟩:=qt W h w l R Q hQ a hk hx;refine⟨c,?_,h1,h2⟩;obtain⟨t,r,et,hf⟩:=Tu a;show By (f+1) [wob W,enc a,spt l,nD w]=_;rw[et] at fc ⊢;simp only[dK,By,En,hf,fc]
 | no s ih=>
  intro f w l Q R hQ hk hx hf hl hw;obtain⟨f,rfl⟩:∃ g,f=g+1:=⟨f-1,by simp[hgt] at hf;omega⟩;have w5:w<=100000:=z0a (Nat.le_mul_of_pos_right w (Nat.pow_pos (by decide))) hw;obtain⟨c,e,h1,h2⟩:=ih f w l Q R hQ hk hx (by simp[hgt] at hf;omega) hl hw;have ev:Cg [nD w]=some (nD (2^w-1)):=Tz w (by omega);have xo:aG (nD (2^w-1)) (nD c)=some (nD (2^w-(c+1))):=by rw[nD,nD,qj,KB.lR w c h1];rfl
  refine⟨2^w-(c+1),?_,by omega,λ j hj=>by rw[KB.qZ h1 hj,h2 j hj,tru]⟩;simp only[dK,encS,By,En,fcN,biN,kNn,e,ev,xo]
 | bo b s t ih1 ih2=>
  intro f w l Q R hQ hk hx hf hl hw;obtain⟨f,rfl⟩:∃ g,f=g+1:=⟨f-1,by simp[hgt] at hf;omega⟩;simp only[hgt,dpt,fr,KnS] at hk hx hf hl hw;have ws:w*5^dpt s<=100000:=z0a (z1r w (z1H (by decide) (Nat.le_max_left _ _))) hw;have wt:w*5^dpt t<=100000:=z0a (z1r w (z1H (by decide) (Nat.le_max_right _ _))) hw;obtain⟨c,e,h1,h2⟩:=ih1 f w l Q R hQ hk.1 (λ x q=>hx x (List.mem_append_left _ q)) (by omega) (by omega) ws;obtain⟨d,e',h1',h2'⟩:=ih2 f w l Q R hQ hk.2 (λ x q=>hx x (z0U _ q)) (by omega) (by omega) wt;have an:MN (nD c) (nD d)=some (nD (c&&&d)):=by rw[nD,nD,MF,KB.Ov];rfl
  have or:borD (nD c) (nD d)=some (nD (c|||d)):=by rw[nD,nD,Wz,KB.Th];rfl
  cases b with
  | true=>
   refine⟨c&&&d,?_,z1n Nat.and_le_left h1,λ j hj=>by rw[Nat.testBit_and,h2 j hj,h2' j hj,tru];rfl⟩;simp only[dK,encS,By,En,fcB,biB,kBn,kBb,e,e',an]
  | false=>
   refine⟨c|||d,?_,Nat.or_lt_two_pow h1 h1',λ j hj=>by rw[z1S,h2 j hj,h2' j hj,tru];rfl⟩;simp only[dK,encS,By,En,fcE,biE,kEn,kEb,e,e',or]
 | qu b x s ih=>
  intro f w l Q R hQ hk hx hf hl hw;obtain⟨f,rfl⟩:∃ g,f=g+1:=⟨f-1,by simp[hgt] at hf;omega⟩;simp only[hgt,dpt,fr,KnS] at hk hx hf hl hw;have w5:w<=100000:=z0a (Nat.le_mul_of_pos_right w (Nat.pow_pos (by decide))) hw;have ww:w*W.n*5^dpt s<=100000:=by
   refine z0a ?_ hw;rw[Nat.pow_succ,Nat.mul_assoc,z1g (5^dpt s) 5];exact z1r w (Nat.mul_le_mul_right _ h.n5)
  have ll:(putN x (bnd W.n w) (wide W.n w l)).length<=l.length+1:=by
   delta putN;split
   ·rw[z02,wide,z02];omega
   ·rw[z0u,wide,z02];simp
  obtain⟨c,e,h1,h2⟩:=ih f (w*W.n) _ _ (fL R (by omega) x) (mJ R hQ x) hk (by
   intro y hy;rw[Zr]
   by_cases q:y=x
   ·exact .inl q
   ·refine .inr ?_;rw[wide,z0l];exact hx y (z0K.mpr ⟨hy,by simpa using q⟩)) (by omega) (by omega) ww
  obtain⟨c',e',h1',h2'⟩:=mL W h.n5 (By f) w w5 b x s l R c e (λ j k=>tru W (upd (Q j) x k) s) (by
   intro j hj k hk;have lt:j+w*k<w*W.n:=by
    have:=z1r w (show k+1<=W.n from hk);rw[z1I] at this;omega
   rw[h2 _ lt];have m:(j+w*k)%w=j:=by rw[Nat.add_mul_mod_self_left,Nat.mod_eq_of_lt hj]
   have d:(j+w*k)/w=k:=by rw[Nat.add_mul_div_left _ _ (by omega),Nat.div_eq_of_lt hj,z0A]
   simp only[m,d])
  refine⟨c',?_,h1',λ j hj=>by rw[h2' j hj,tru]⟩;cases b with
  | true=>
   simp only[encS] at e' ⊢;simp only[dK,By,En,fcS,biS,e']
  | false=>
   simp only[encS] at e' ⊢;simp only[dK,By,En,fcA,biA,e']
def Am (ns:List Str):Sy->Prop
 | .fa a=>∀ x∈nms a,x∈ns
 | .no s=>Am ns s
 | .bo _ s t=>Am ns s/\Am ns t
 | .qu _ _ s=>Am ns s
def fn:Sy->List Str
 | .fa a=>Cp (nms a)
 | .no s=>Cp (fn s)
 | .bo _ s t=>Cp (fn s++fn t)
 | .qu _ x s=>Cp ((fn s).filter λ y=>!decide (y=x))
theorem mQ (s:Sy):Up (fn s):=by cases s<;>exact IK _
theorem Iz:∀ (s:Sy) (x:Str),x∈fn s↔x∈fr s
 | .fa a,x=>by rw[fn,Dg,fr]
 | .no s,x=>by rw[fn,Dg,fr,Iz s]
 | .bo _ s t,x=>by rw[fn,Dg,fr,z0p,z0p,Iz s,Iz t]
 | .qu _ y s,x=>by rw[fn,Dg,fr,z0K,z0K,Iz s];simp
theorem QQ {ns:List Str}:∀ (s:Sy),Am ns s->∀ x∈fr s,x∈ns
 | .fa a,h,x,hx=>h x hx
 | .no s,h,x,hx=>QQ s h x hx
 | .bo _ s t,h,x,hx=>(z0p.mp hx).elim (QQ s h.1 x) (QQ t h.2 x)
 | .qu _ y s,h,x,hx=>QQ s h x (z0K.mp hx).1
theorem Jh (hn:ns.length<=6) {s:Sy}(h:Am ns s):(fn s).length<=6:=z0a (sub_len (Ng (mQ s)) λ x hx=>QQ s h x ((Iz s x).mp hx)) hn
theorem W4 (A:D):CW [.tup [.str "not",A]]=some (.tup [A]):=zE_ _
theorem Oz (A B:D):CW [.tup [.str "both",A,B]]=some (.tup [A,B]):=zE_ _
theorem Jx (A B:D):CW [.tup [.str "either",A,B]]=some (.tup [A,B]):=zE_ _
theorem Rj (A B:D):CW [.tup [.str "some",A,B]]=some (.tup [B]):=zE_ _
theorem W5 (A B:D):CW [.tup [.str "all",A,B]]=some (.tup [B]):=zE_ _
theorem extR (xs ys:List Str) (h:xs.length+ys.length<=10000000):extL (.lst (xs.map .str)) (.lst (ys.map .str))=some (.lst ((xs++ys).map .str)):=by
 show (if _ then _ else _)=_;rw[if_pos (by simpa using CV h),z0H]
theorem fO (r:List D->Option D) (t:Str) (e:D) (z1 z2:Slot) (x:Str) (xs:List Str):Bo [.fz (.tup [.str t,.str x,e]),z1,z2] (Em r) (Ir r) (xs.map .str)=some ((xs.filter (λ y=>!decide (y=x))).map .str):=by
 induction xs with
 | nil=>rfl
 | cons y ys ih=>
  have t:Em r ([.fz (.tup [.str t,.str x,e]),z1,z2]++[.fz (.str y)])=some (!decide (y=x)):=by
   have e:eqD true (.str y) (.str x)=some (.bl (!decide (y=x))):=rfl;simp only[cK,Em,Aq,CK,Mw,e]
  rw[z03,Bg,t,ih,List.filter_cons]
  by_cases q:y=x
  ·simp[q,Nf]
  ·simp[q,Nb];rfl
theorem Yh (ns:List Str) (hn:ns.length<=6):∀ (s:Sy) (n:Nat),hgt s<=n->Am ns s->Bf n [encS s]=some (.lst ((fn s).map .str)):=by
 intro s
 induction s with
 | fa a=>
  intro n h hA;obtain⟨n,rfl⟩:=hsu h;exact qi a n
 | no s ih=>
  intro n h hA;obtain⟨n,rfl⟩:=hsu h;have i1:=ih n (by simp[hgt] at h;omega) hA;have l1:=Jh (s:=s) hn hA;have x1:=extR [] (fn s) (by simp;omega);have l2:(Cp (fn s)).length<=6:=Jh (s:=.no s) hn hA;have e:=ss_l (xs:=[]++fn s) (by simp;omega) (by rw[z0F];omega);simp only[z0q,z0F] at x1 e;simp only[dK,Bf,encS,fn,Ez,Gq,Aq,CK,MT,JZ,W4,fcN,biN,i1,x1,e]
 | bo b s t ih1 ih2=>
  intro n h hA;obtain⟨n,rfl⟩:=hsu h;simp only[hgt] at h;have i1:=ih1 n (by omega) hA.1;have i2:=ih2 n (by omega) hA.2;have l1:=Jh hn hA.1;have l2:=Jh hn hA.2;have x1:=extR [] (fn s) (by simp;omega);have x2:=extR (fn s) (fn t) (by omega);have l3:(Cp (fn s++fn t)).length<=6:=Jh (s:=.bo b s t) hn hA;have e:=ss_l (xs:=fn s++fn t) (by simp;omega) (by omega);simp only[z0q,z0F] at x1;cases b<;>simp only[dK,Bf,encS,fn,Ez,Gq,Aq,CK,MT,JZ,Oz,Jx,fcB,fcE,biB,biE,i1,i2,x1,x2,e]
 | qu b x s ih=>
  intro n h hA;obtain⟨n,rfl⟩:=hsu h;simp only[hgt] at h;have i1:=ih n (by omega) hA;have l1:=Jh (s:=s) hn hA;have x1:=extR [] (fn s) (by simp;omega);have l3:(Cp ((fn s).filter λ y=>!decide (y=x))).length<=6:=Jh (s:=.qu b x s) hn hA;have lf:=List.length_filter_le (λ y=>!decide (y=x)) (fn s);have e:=ss_l (xs:=(fn s).filter λ y=>!decide (y=x)) (by omega) (by omega);have c (t:Str) (z2:Slot):BJ (seqI (vU 1)) (Em (Bf n)) (Ir (Bf n)) [.fz (.tup [.str t,.str x,encS s]),.ow (.lst ((fn s).map .str)),z2]=some (.lst (((fn s).filter (λ y=>!decide (y=x))).map .str)):=
   Ea (by rfl) (by simp;omega) (fO (Bf n) t (encS s) _ z2 x (fn s))
  simp only[z0q,z0F] at x1;cases b<;>simp only[dK,Bf,encS,fn,Ez,Gq,Aq,CK,MT,JZ,Rj,W5,fcS,fcA,biS,biA,i1,x1,c,H_,GK,e]
theorem gmN:eqD false (.str "not") (.str "mark")=some (.bl false):=zE_ _
theorem gtN:eqD false (.str "not") (.str "tie")=some (.bl false):=zE_ _
theorem gmB:eqD false (.str "both") (.str "mark")=some (.bl false):=zE_ _
theorem gtB:eqD false (.str "both") (.str "tie")=some (.bl false):=zE_ _
theorem gmE:eqD false (.str "either") (.str "mark")=some (.bl false):=zE_ _
theorem gtE:eqD false (.str "either") (.str "tie")=some (.bl false):=zE_ _
theorem gmS:eqD false (.str "some") (.str "mark")=some (.bl false):=zE_ _
theorem gtS:eqD false (.str "some") (.str "tie")=some (.bl false):=zE_ _
theorem gmA:eqD false (.str "all") (.str "mark")=some (.bl false):=zE_ _
theorem gtA:eqD false (.str "all") (.str "tie")=some (.bl false):=zE_ _
theorem Yi (W:Wl):∀ (s:Sy) (n:Nat),hgt s<=n->KnS W s->Ac n [wob W,encS s]=some .non:=by
 intro s
 induction s with
 | fa a=>
  intro n h hk;obtain⟨n,rfl⟩:=hsu h;exact Tv W a hk n
 | no s ih=>
  intro n h hk;obtain⟨n,rfl⟩:=hsu h;have i1:=ih n (by simp[hgt] at h;omega) hk;simp only[dK,Ac,Aj,Ao,encS,Aq,CK,gmN,gtN,W4,i1]
 | bo b s t ih1 ih2=>
  intro n h hk;obtain⟨n,rfl⟩:=hsu h;simp only[hgt] at h;have i1:=ih1 n (by omega) hk.1;have i2:=ih2 n (by omega) hk.2;cases b<;>simp only[dK,Ac,Aj,Ao,encS,Aq,CK,gmB,gtB,gmE,gtE,Oz,Jx,i1,i2]
 | qu b x s ih=>
  intro n h hk;obtain⟨n,rfl⟩:=hsu h;simp only[hgt] at h;have i1:=ih n (by omega) hk;cases b<;>simp only[dK,Ac,Aj,Ao,encS,Aq,CK,gmS,gtS,gmA,gtA,Rj,W5,i1]
def one (n p:Nat):List Nat:=(List.range n).map λ t=>if t=p then 1 else 0
theorem qw (n p:Nat):row n p=.lst ((one n p).map nD):=by
 rw[row,one,z0l];congr 2;funext t;simp only[Function.comp_apply,nD];split<;>rfl
theorem fP (n:Nat) (P:Str->Nat) (xs:List Str):Kg n P xs=spt (xs.map λ x=>(x,one n (P x))):=by
 rw[Kg,spt,z0l];congr 2;funext x;simp only[Function.comp_apply,qw]
theorem mR (W:Wl) (h:WOk W) (ns:List Str) (hn:ns.length<=6) (g:List (Key×D)) (g0:D) (h0:g0=.dk g∨(g0=.non/\g=[])) (P:Str->Nat) (s:Sy) (hk:KnS W s) (hA:Am ns s) (hh:hgt s<=60) (hd:dpt s<=6) (hp:∀ x∈fr s,Pl W.n g P x):Ce [wob W,encS s,g0]=some (.bl (tru W P s)):=by
 have fn':=Yh ns hn s 60 hh hA;have nd:=Ng (mQ s);have l3:=Jh hn hA;have up:=Qx W g P (fn s) λ x hx=>hp x ((Iz s x).mp hx);have st:=Yi W s 60 hh hk;obtain⟨z',sp⟩:=Tw W h.n5 (encS s) g0 (.lst ((fn s).map .str)) g P (fn s) [] .un (by simpa using nd) (λ x hx=>hp x ((Iz s x).mp hx)) (by simp;omega);rw[z0F] at sp;have e0:D.dk []=Kg W.n P []:=rfl;have mm:(((fn s).map λ x=>(x,one W.n (P x))).map (·.1))=fn s:=by rw[z0l];exact List.map_id _
 have R:Rows W.n 1 ((fn s).map λ x=>(x,one W.n (P x))):=by
  refine⟨by rw[mm];exact nd,λ p hp=>?_,λ p hp=>?_,by rw[z02];omega⟩
  ·obtain⟨x,_,rfl⟩:=z07.mp hp;simp[one]
  ·obtain⟨x,_,rfl⟩:=z07.mp hp;intro y hy;obtain⟨t,_,rfl⟩:=z07.mp hy;split<;>decide
 have hQ:Asg W.n 1 ((fn s).map λ x=>(x,one W.n (P x))) (λ _=>P):=by
  intro j hj p hp t ht;obtain⟨x,_,rfl⟩:=z07.mp hp;have j0:j=0:=by omega
  subst j0;have:(one W.n (P x)).getD t 0=if t=P x then 1 else 0:=by
   rw[one,z1Z,z0g,z1Y ht];rfl
  simp only[this]
  by_cases q:t=P x
  ·simp[q]
  ·simp[q]
 obtain⟨c,cs,c1,c2⟩:=mO W h s 60 1 _ _ R hQ hk (by rw[mm];exact λ x hx=>(Iz s x).mpr hx) hh (by rw[z02];omega) (by
  rw[Nat.one_mul];exact z0a (z1H (by decide) hd) (by decide))
 rw[<-fP] at cs;have c3:=c2 0 (by decide);have ec:c=if tru W P s then 1 else 0:=by
  rw[<-c3];have:c=0∨c=1:=by omega
  rcases this with rfl | rfl<;>rfl
 have cs':By 60 [wob W,encS s,Kg W.n P (fn s),.int 1]=some (.int (if tru W P s then 1 else 0)):=by
  have e1:D.int 1=nD 1:=rfl;rw[e1,cs,ec,nD];congr 2;split<;>rfl
 have eq1:decide ((if tru W P s then (1:Int) else 0)=1)=tru W P s:=by cases tru W P s<;>decide
 rcases h0 with rfl | ⟨rfl,rfl⟩
 ·have nd1:isND false (.dk g)=some (.bl false):=rfl;simp only[ciK,Ce,HS,Aq,CK,nd1,fn',up,st,Hk,HF,H_,e0,GK,sp,Sh,My,Sg,cs',eq1]
 ·have nd1:isND false .non=some (.bl true):=rfl;simp only[e0] at up sp;simp only[ciK,Ce,HS,Aq,CK,nd1,fn',e0,up,st,Hk,HF,H_,GK,sp,Sh,My,Sg,cs',eq1]
theorem LR (xs:List Str) (j n:Int) (hl:n=xs.length) (hx:xs≠[]):∃ x,x∈xs/\ixD (.lst (xs.map .str)) (.int (j%n))=some (.str x):=by
 obtain⟨x,hx,e⟩:=Vl (xs:=xs.map D.str) j n (by simpa using hl) (by simpa using hx);obtain⟨y,hy,rfl⟩:=z07.mp hx;exact⟨y,hy,e⟩
theorem sZ (xs:List Str):lenD (.lst (xs.map .str))=some (.int xs.length):=by simp[lenD]
theorem cu (i:Int) (ms ts ns:List Str) (hn:ns.length=3):∃ a,DR [.int i,.lst (ms.map .str),.lst (ts.map .str),.lst (ns.map .str)]=some (enc a)/\(∀ x∈nms a,x∈ns)/\(match a with | .mk w _=>w∈ms | .ti w _ _=>w∈ts | .sa _ _=>True):=by
 have hne:ns≠[]:=by intro z;simp[z] at hn
 obtain⟨x,mx,ex⟩:=LR ns (i/3) 3 (by omega) hne;obtain⟨y,my,ey⟩:=LR ns (i/9) 3 (by omega) hne;have lm:=sZ ms;have lt:=sZ ts;have nil_ne:∀ xs:List Str,xs≠[]->eqD true (.lst (xs.map .str)) (.lst [])=some (.bl true):=λ xs h=>by
  have:¬ xs.length=0:=by simpa using h
  simp[eqD,eqvD,h]
 have nil_eq:eqD true (.lst (([]:List Str).map .str)) (.lst [])=some (.bl false):=rfl
 by_cases h1:i%3=1/\ms≠[]
 ·obtain⟨w,mw,ew⟩:=LR ms (i/27) ms.length rfl h1.2;have m3:=De (i/27) ms.length (by have:=List.length_pos_iff.mpr h1.2;omega);refine⟨.mk w x,?_,by simpa [nms] using mx,mw⟩;simp only[ciK,DR,El,ex,ey,h1.1,nil_ne ms h1.2,lm,m3,ew,enc]
 ·by_cases h2:i%3=2/\ts≠[]
  ·obtain⟨w,mw,ew⟩:=LR ts (i/27) ts.length rfl h2.2;have m3:=De (i/27) ts.length (by have:=List.length_pos_iff.mpr h2.2;omega);refine⟨.ti w x y,?_,by simp[nms,mx,my],mw⟩;simp only[ciK,DR,El,ex,ey,h2.1,nil_ne ts h2.2,lt,m3,ew,enc]
  ·refine⟨.sa x y,?_,by simp[nms,mx,my],trivial⟩;have g1:i%3=1->ms=[]:=λ z=>by
    by_cases q:ms=[]
    ·exact q
    ·exact absurd ⟨z,q⟩ h1
   have g2:i%3=2->ts=[]:=λ z=>by
    by_cases q:ts=[]
    ·exact q
    ·exact absurd ⟨z,q⟩ h2
   by_cases c1:i%3=1
   ·have e1:=g1 c1;subst e1;simp only[z0q] at nil_eq;simp only[ciK,DR,El,ex,ey,c1,nil_eq,enc]
   ·by_cases c2:i%3=2
    ·have e1:=g2 c2;subst e1;simp only[z0q] at nil_eq;simp only[ciK,DR,El,ex,ey,c2,nil_eq,enc]
    ·simp only[ciK,DR,El,ex,ey,c1,c2,enc]
def sd (s:Sy):D:=.lst [encS s,.int (dpt s:Int)]
theorem sd0 (s:Sy):ixE (sd s) (.int 0)=some (encS s):=ix0 _ _
theorem sd1 (s:Sy):ixE (sd s) (.int 1)=some (.int (dpt s:Int)):=ix1 _ _ _
structure Gd (W:Wl) (ns:List Str) (M:Nat) (s:Sy):Prop where
 kn:KnS W s
 am:Am ns s
 dp:dpt s<=M
theorem T5 (L:List D) (x v:D):YB (.lst (L++[x])) (.int (-1)) v=some (.lst (L++[v])):=by
 delta YB ixN;simp;refine⟨by omega,?_⟩;rw[show (-1+((L.length:Int)+1)).toNat=L.length by omega];simp[List.set_append]
theorem mU (i:Nat) (ρ:Rho) (L:List D) (x:D):popO i ρ (some (.lst (L++[x])))=some (.nx (ρ.set i (.ow (.lst L)))):=by
 rw[vB];simp
theorem fQ (i j:Nat) (ρ:Rho) (L:List D) (x:D):X_ i j ρ (some (.lst (L++[x])))=some (.nx ((ρ.set i (.ow (.lst L))).set j (.fz x))):=by
 rw[qF];simp
theorem W6 (a b:Nat):maxD (.int (a:Int)) (.int (b:Int))=some (.int ((max a b:Nat):Int)):=by
 show some (D.int (if (b:Int) > a then (b:Int) else a))=_;congr 2;split<;>omega
theorem Zt (a b:D) (i:Int):ixE (.lst [a,b]) (.int (i%2))=some (if i%2=0 then a else b):=by
 by_cases h:i%2=0
 ·rw[h,if_pos rfl];exact ix0 _ _
 ·rw[mod2 i h,if_neg (by decide)];exact ix1 _ _ _
theorem cz (s:Sy):1<=hgt s:=by cases s<;>simp[hgt]
def bo' (b:Bool) (s t:Sy):D:=.lst [.tup [.str (if b then "both" else "either"),encS s,encS t],.int ((max (dpt s) (dpt t):Nat):Int)]
theorem tD (b:Bool) (s t:Sy):bo' b s t=sd (.bo b s t):=by cases b<;>rfl
theorem xV (b:Bool) (x:Str) (s:Sy):D.lst [.tup [.str (if b then "some" else "all"),.str x,encS s],.int ((dpt s:Int)+1)]=sd (.qu b x s):=by cases b<;>rfl
theorem xW (s:Sy):D.lst [.tup [.str "not",encS s],.int (dpt s:Int)]=sd (.no s):=rfl
theorem tG (a:Fa):D.lst [enc a,.int 0]=sd (.fa a):=rfl
theorem xX (L:List D) (x:D) (h:L.length<=1000):appL (.lst L) x=some (.lst (L++[x])):=by
 delta appL;simp only[];rw[if_pos (by (have:(1000:Nat)<sizeLine:=by decide +kernel);omega)]
def ats:Sy->Nat
 | .fa _=>1
 | .no s=>ats s
 | .bo _ s t=>ats s+ats t
 | .qu _ _ s=>ats s
structure Stk (W:Wl) (ns:List Str) (M m:Nat) (l:List Sy) (s:Sy):Prop where
 al:∀ t∈l,Gd W ns M t/\hgt t+(l.length+1)<=m
 gs:Gd W ns M s
 hs:hgt s+(l.length+1)<=m
 ct:(l.map ats).sum+ats s+1<=m
theorem Yj {W:Wl}{M m:Nat}{r:List Sy}{t s:Sy}(h:Stk W ns M m (r++[t]) s) (b:Bool):Stk W ns M m r (.bo b t s):=by
 have ht:=h.al t (by simp);have:=h.hs;simp at ht this;refine⟨λ u hu=>?_,⟨⟨ht.1.kn,h.gs.kn⟩,⟨ht.1.am,h.gs.am⟩,?_⟩,?_,?_⟩
 ·have:=h.al u (by simp[hu]);simp at this;exact⟨this.1,by omega⟩
 ·have:=ht.1.dp;have:=h.gs.dp;simp only[dpt];omega
 ·simp only[hgt];omega
 ·have:=h.ct;simp at this;simp only[ats];omega
theorem qx (W:Wl) (ns:List Str) (hn:ns.length=3) (M m:Nat) (hm:m<=100) (l:List Sy) (s:Sy) (h:Stk W ns M m l s) (cs:Slot) (c:Int) (z7 z8:Slot) :
  ∃ l' s' z7' z8',Bd [cs,.fz (.lst ((W.ms.map (·.1)).map .str)),.fz (.lst ((W.ts.map (·.1)).map .str)),.fz (.lst (ns.map .str)),.fz (.int (M:Int)),.ow (.lst (l.map sd++[sd s])),.fz (.int c),z7,z8]=some (.nx [cs,.fz (.lst ((W.ms.map (·.1)).map .str)),.fz (.lst ((W.ts.map (·.1)).map .str)),.fz (.lst (ns.map .str)),.fz (.int (M:Int)),.ow (.lst (l'.map sd++[sd s'])),.fz (.int c),z7',z8'])/\Stk W ns M (m+1) l' s':=by
 have em:=JD (c/8) 1000000007 (by decide);obtain⟨N,hN⟩:∃ N,modD (.int (c/8*1000000007)) (.int 2147483647)=some (.int N):=⟨_,De _ _ (by decide)⟩;have a1:ixE (.lst (l.map sd++[sd s])) (.int (-1))=some (sd s):=Le (l.map sd) (sd s);have hne:ns≠[]:=by intro z;simp[z] at hn
 obtain⟨x,mx,ex⟩:=LR ns (N/2) 3 (by omega) hne;replace ex:ixE (.lst (ns.map .str)) (.int (N/2%3))=some (.str x):=ex;have sl:=T5 (l.map sd) (sd s);have hl:=h.hs;have hp:=cz s;have keep:Stk W ns M (m+1) l s:=⟨λ t ht=>⟨(h.al t ht).1,by have:=(h.al t ht).2;omega⟩,h.gs,by omega,by have:=h.ct;omega⟩
 by_cases h1:5<c%8/\(dpt s:Int)<(M:Int)
 ·refine⟨l,.qu (decide (N%2=0)) x s,.fz (.int N),.fz (sd s),?_,keep.al,⟨h.gs.kn,h.gs.am,by simp only[dpt];omega⟩,by simp only[hgt];omega,keep.ct⟩;have w:=Zt (.str "some") (.str "all") N;have q:=xV (decide (N%2=0)) x s;have e:(if N%2=0 then D.str "some" else D.str "all")=.str (if decide (N%2=0)=true then "some" else "all"):=by by_cases z:N%2=0<;>simp[z]
  rw[e] at w;simp only[ciK,Bd,em,hN,a1,h1.1,h1.2,sd0,sd1,w,ex,q,P_,Lp,CP,sl]
 ·have t1:¬ (5<c%8)∨¬ ((dpt s:Int)<(M:Int)):=by omega
  by_cases h5:c%8=5
  ·refine⟨l,.no s,.fz (.int N),.fz (sd s),?_,keep.al,⟨h.gs.kn,h.gs.am,h.gs.dp⟩,by simp only[hgt];omega,keep.ct⟩;have q:=xW s;simp only[ciK,Bd,em,hN,a1,h5,sd0,sd1,q,P_,Lp,CP,sl]
  ·by_cases h6:2<c%8/\l≠[]
   ·obtain⟨r,t,rfl⟩:∃ r t,l=r++[t]:=⟨l.dropLast,l.getLast h6.2,(List.dropLast_concat_getLast h6.2).symm⟩;refine⟨r,.bo (decide (N%2=0)) t s,.fz (.int N),.fz (sd s),?_,Yj keep _⟩;have mm:(r++[t]).map sd=r.map sd++[sd t]:=by simp
    have a2:ixE (.lst (r.map sd++[sd t])) (.int (-1))=some (sd t):=Le (r.map sd) (sd t);have w:=Zt (.str "both") (.str "either") N;have e:(if N%2=0 then D.str "both" else D.str "either")=.str (if decide (N%2=0)=true then "both" else "either"):=by by_cases z:N%2=0<;>simp[z]
    rw[e] at w;have q:=tD (decide (N%2=0)) t s;unfold bo' at q;have mx:=W6 (dpt t) (dpt s);have s2:=T5 (r.map sd) (sd t);have ln:lenE (.lst ((r.map sd++[sd t])++[sd s]))=some (.int ((r.length:Int)+2)):=by simp[lenE,lenD]
    have g2:(1:Int)<(r.length:Int)+2:=by omega
    have pl (ρ:Rho):=mU 5 ρ (r.map sd++[sd t]) (sd s);rw[mm] at a1 ⊢
    rcases t1 with t1 | t1
    ·simp only[ciK,Bd,em,hN,a1,t1,h5,h6.1,ln,g2,kI,pl,CP,sd0,sd1,a2,w,mx,q,P_,Lp,s2]
    ·by_cases h7:5<c%8
     ·simp only[ciK,Bd,em,hN,a1,t1,h5,h7,h6.1,ln,g2,kI,pl,CP,sd0,sd1,a2,w,mx,q,P_,Lp,s2]
     ·simp only[ciK,Bd,em,hN,a1,t1,h5,h7,h6.1,ln,g2,kI,pl,CP,sd0,sd1,a2,w,mx,q,P_,Lp,s2]
   ·obtain⟨a,ea,na,wa⟩:=cu N (W.ms.map (·.1)) (W.ts.map (·.1)) ns hn;have hk:Kn W a:=by cases a<;>exact wa
    have q:=tG a;have ap:=xX (l.map sd++[sd s]) (sd (.fa a)) (by simp;omega);have ln:lenE (.lst (l.map sd++[sd s]))=some (.int ((l.length:Int)+1)):=by simp[lenE,lenD]
    have mm:(l++[s]).map sd=l.map sd++[sd s]:=by simp
    refine⟨l++[s],.fa a,.fz (.int N),.fz (sd s),?_,λ t ht=>?_,⟨hk,na,by simp[dpt]⟩,by simp[hgt];omega,by have:=h.ct;simp[ats];omega⟩
    ·rw[mm];have t2:¬ (2<c%8)∨¬ ((1:Int)<(l.length:Int)+1):=by
      by_cases z:2<c%8
      ·right;have:l=[]:=by
        by_cases q:l=[]
        ·exact q
        ·exact absurd ⟨z,q⟩ h6
       subst this;simp
      ·exact .inl z
     have t3:5<c%8->¬ (dpt s:Int)<(M:Int):=by omega
     by_cases z5:5<c%8
     ·have z6:=t3 z5;have z2:2<c%8:=by omega
      have z7:¬ ((1:Int)<(l.length:Int)+1):=by rcases t2 with t2 | t2;exact absurd z2 t2;exact t2
      simp only[ciK,Bd,em,hN,a1,z5,z6,z2,z7,h5,ln,sd1,ea,q,MT,JZ,CP,ap]
     ·by_cases z2:2<c%8
      ·have z7:¬ ((1:Int)<(l.length:Int)+1):=by rcases t2 with t2 | t2;exact absurd z2 t2;exact t2
       simp only[ciK,Bd,em,hN,a1,z5,z2,z7,h5,ln,sd1,ea,q,MT,JZ,CP,ap]
      ·simp only[ciK,Bd,em,hN,a1,z5,z2,h5,ln,sd1,ea,q,MT,JZ,CP,ap]
    ·rcases z0p.mp ht with z | z
     ·exact⟨(h.al t z).1,by have:=(h.al t z).2;simp;omega⟩
     ·simp at z;subst z;exact⟨h.gs,by simp;omega⟩
theorem Yk (W:Wl) (ns:List Str) (hn:ns.length=3) (M:Nat) (cs:Slot):∀ (r:List Int) (m:Nat) (l:List Sy) (s:Sy) (z6 z7 z8:Slot),Stk W ns M m l s->m+r.length<=100 ->
  ∃ l' s' z6' z7' z8',forF (tgB (CT 6) Bd) (r.map .int) [cs,.fz (.lst ((W.ms.map (·.1)).map .str)),.fz (.lst ((W.ts.map (·.1)).map .str)),.fz (.lst (ns.map .str)),.fz (.int (M:Int)),.ow (.lst (l.map sd++[sd s])),z6,z7,z8]=some (.nx [cs,.fz (.lst ((W.ms.map (·.1)).map .str)),.fz (.lst ((W.ts.map (·.1)).map .str)),.fz (.lst (ns.map .str)),.fz (.int (M:Int)),.ow (.lst (l'.map sd++[sd s'])),z6',z7',z8'])/\Stk W ns M (m+r.length) l' s'
 | [],m,l,s,z6,z7,z8,h,_=>⟨l,s,z6,z7,z8,by simp[Hb],h⟩
 | c::r,m,l,s,z6,z7,z8,h,hm=>by
  obtain⟨l1,s1,y7,y8,e1,h1⟩:=qx W ns hn M m (by simp at hm;omega) l s h cs c z7 z8;obtain⟨l2,s2,z6',z7',z8',e2,h2⟩:=Yk W ns hn M cs r (m+1) l1 s1 (.fz (.int c)) y7 y8 h1 (by simp at hm;omega);refine⟨l2,s2,z6',z7',z8',?_,by rw[z0s,show m+(r.length+1)=m+1+r.length by omega];exact h2⟩
  w_up
  rw[e1,C_,e2]
theorem Yl (W:Wl) (ns:List Str) (M:Nat) (s0 s1 s2 s3 s4 s6 s7:Slot):∀ (k m:Nat) (l:List Sy) (s:Sy) (z8:Slot),Stk W ns M m l s->l.length+1<=k ->
  ∃ s' z8',JT Dm Gn k [s0,s1,s2,s3,s4,.ow (.lst (l.map sd++[sd s])),s6,s7,z8]=some (.nx [s0,s1,s2,s3,s4,.ow (.lst [sd s']),s6,s7,z8'])/\Gd W ns M s'/\hgt s'+1<=m/\ats s'+1<=m
 | 0,m,l,s,z8,h,hk=>by omega
 | k+1,m,l,s,z8,h,hk=>by
  have ln:lenE (.lst (l.map sd++[sd s]))=some (.int ((l.length:Int)+1)):=by simp[lenE,lenD]
  by_cases hl:l=[]
  ·subst hl;refine⟨s,z8,?_,h.gs,by simpa using h.hs,by simpa using h.ct⟩;have c0:¬ (1:Int)<1:=by decide
   have l1:lenE (.lst [sd s])=some (.int 1):=rfl;have t0:Dm [s0,s1,s2,s3,s4,.ow (.lst (([]:List Sy).map sd++[sd s])),s6,s7,z8]=some false:=by
    simp only[ciK,Dm,l1,c0]
   unfold JT;rw[t0];rfl
  ·obtain⟨r,t,rfl⟩:∃ r t,l=r++[t]:=⟨l.dropLast,l.getLast hl,(List.dropLast_concat_getLast hl).symm⟩;have c0:(1:Int)<(((r++[t]).length:Nat):Int)+1:=by simp;omega
   obtain⟨s',z8',e',g',hs'⟩:=Yl W ns M s0 s1 s2 s3 s4 s6 s7 k m r (.bo (decide (¬ ((r.length:Int)+1)%2=0)) t s) (.fz (sd s)) (Yj h _) (by simp at hk;omega);refine⟨s',z8',?_,g',hs'⟩;have t0:Dm [s0,s1,s2,s3,s4,.ow (.lst ((r++[t]).map sd++[sd s])),s6,s7,z8]=some true:=by
    simp only[ciK,Dm,ln,c0]
   have mm:(r++[t]).map sd=r.map sd++[sd t]:=by simp
   have a2:ixE (.lst (r.map sd++[sd t])) (.int (-1))=some (sd t):=Le (r.map sd) (sd t);have w:=Zt (.str "either") (.str "both") ((r.length:Int)+1);have e:(if ((r.length:Int)+1)%2=0 then D.str "either" else D.str "both")=.str (if decide (¬ ((r.length:Int)+1)%2=0)=true then "both" else "either"):=by by_cases z:((r.length:Int)+1)%2=0<;>simp[z]
   rw[e] at w;have q:=tD (decide (¬ ((r.length:Int)+1)%2=0)) t s;unfold bo' at q;have mx:=W6 (dpt t) (dpt s);have sl:=T5 (r.map sd) (sd t);have l2:lenE (.lst (r.map sd++[sd t]))=some (.int ((r.length:Int)+1)):=by simp[lenE,lenD]
   have pl (ρ:Rho):=fQ 5 8 ρ (r.map sd++[sd t]) (sd s);have b0:Gn [s0,s1,s2,s3,s4,.ow (.lst ((r++[t]).map sd++[sd s])),s6,s7,z8]=some (.nx [s0,s1,s2,s3,s4,.ow (.lst (r.map sd++[sd (.bo (decide (¬ ((r.length:Int)+1)%2=0)) t s)])),s6,s7,.fz (sd s)]):=by
    rw[mm];simp only[ciK,Gn,vC,pl,CP,sd0,sd1,a2,l2,w,mx,q,P_,Lp,sl]
   unfold JT;rw[t0,b0];exact e'
theorem mV (W:Wl) (ns:List Str) (hn:ns.length=3) (M:Nat) (r:List Int) (hr:r.length<=50):∃ s,Gp [.lst (r.map .int),.lst ((W.ms.map (·.1)).map .str),.lst ((W.ts.map (·.1)).map .str),.lst (ns.map .str),.int (M:Int)]=some (sd s)/\Gd W ns M s/\hgt s<=r.length+1/\ats s<=r.length+1:=by
 have lr:lenE (.lst (r.map .int))=some (.int (r.length:Int)):=by simp[lenE,lenD]
 obtain⟨a,ea,na,wa⟩:=cu (r.length:Int) (W.ms.map (·.1)) (W.ts.map (·.1)) ns hn;have hk:Kn W a:=by cases a<;>exact wa
 have q:=tG a;obtain⟨l',s',z6,z7,z8,e1,h1⟩:=Yk W ns hn M (.fz (.lst (r.map .int))) r 2 [] (.fa a) .un .un .un ⟨by simp,⟨hk,na,by simp[dpt]⟩,by simp[hgt],by simp[ats]⟩ (by omega);have hs:=h1.hs;have hp:=cz s';obtain⟨s,z8',e2,g,hg,ha⟩:=Yl W ns M (.fz (.lst (r.map .int))) (.fz (.lst ((W.ms.map (·.1)).map .str))) (.fz (.lst ((W.ts.map (·.1)).map .str))) (.fz (.lst (ns.map .str))) (.fz (.int (M:Int))) z6 z7 60 (2+r.length) l' s' z8 h1 (by omega);refine⟨s,?_,g,by omega,by omega⟩;have i0:ixE (.lst [sd s]) (.int 0)=some (sd s):=ix0 _ _;simp only[z0q,z0F] at e1;simp only[cK,Gp,KC,H_,GK,lr,ea,q,Hk,HF,e1,e2,i0]
def bwF (W:Wl):Fa->List Str
 | .mk w _=>if w∈W.ms.map (·.1) then [] else [w]
 | .ti w _ _=>if w∈W.ts.map (·.1) then [] else [w]
 | .sa _ _=>[]
def bw (W:Wl):Sy->List Str
 | .fa a=>bwF W a
 | .no s=>bw W s
 | .bo _ s t=>bw W s++bw W t
 | .qu _ _ s=>bw W s
def EW (w:Str):D:=.exc "NoWord" [("word",.str w)]
def hd (l:List Str):D:=match l with | []=>.non | w::_=>EW w
theorem W7 {α:Type}{w:Str}{l:List (Str×α)}(h:w∉l.map (·.1)):l.find? (λ p=>p.1=w)=none:=by
 rw[List.find?_eq_none];intro p hp q;exact h (z07.mpr ⟨p,hp,z1y q⟩)
theorem O1 (ρ:Rho) (w:Str):dzO ρ (some (EW w))=some (.rt (EW w) ρ):=zE_ _
def exO (c f:Str) (ok:D->Bool) (o:Option D):Option D:=o.bind λ d=>if ok d=true then some (.exc c [(f,d)]) else none
theorem T6 (c f:Str) (ok:D->Bool) (fa:FE) (ρ:Rho):excF c f ok fa ρ=exO c f ok (fa ρ):=zE_ _
theorem tH {w:Str}(h:okSD (.str w)=true):exO "NoWord" "word" okSD (some (.str w))=some (EW w):=by
 show (if okSD (.str w)=true then _ else _)=_;rw[if_pos h];rfl
def Ok (W:Wl) (s:Sy):Prop:=∀ w∈bw W s,okSD (.str w)=true
theorem fU (W:Wl) (a:Fa) (n:Nat) (ho:∀ w∈bwF W a,okSD (.str w)=true):Ac (n+1) [wob W,enc a]=some (hd (bwF W a)):=by
 by_cases hk:Kn W a
 ·rw[Tv W a hk n];cases a with
  | mk w x=>rw[bwF,if_pos (show w∈W.ms.map (·.1) from hk)];rfl
  | ti w x y=>rw[bwF,if_pos (show w∈W.ts.map (·.1) from hk)];rfl
  | sa x y=>rfl
 ·cases a with
  | mk w x=>
   have e1:getK (.inr w:Key) (oM W.ms)=none:=by
    show getK _ (W.ms.map λ p=>_)=_;rw[Jf kM w W.ms,W7 hk];rfl
   rw[bwF,if_neg (show ¬ w∈W.ms.map (·.1) from hk)] at ho ⊢;have ew:=tH (ho w (by simp));show _=some (EW w);simp only[dK,Ac,Aj,enc,g2,Tt,e1,z1E,z1V,if_true,T6,ew]
  | ti w x y=>
   have e1:getK (.inr w:Key) (oT W.ts)=none:=by
    show getK _ (W.ts.map λ p=>_)=_;rw[Jf kT w W.ts,W7 hk];rfl
   rw[bwF,if_neg (show ¬ w∈W.ts.map (·.1) from hk)] at ho ⊢;have ew:=tH (ho w (by simp));show _=some (EW w);simp only[dK,Ac,Aj,enc,g4,g5,Zm,e1,z1E,z1V,if_true,T6,ew]
  | sa x y=>exact absurd trivial hk
theorem fV (W:Wl):∀ (s:Sy) (n:Nat),hgt s<=n->Ok W s->Ac n [wob W,encS s]=some (hd (bw W s)):=by
 intro s
 induction s with
 | fa a=>
  intro n h ho;obtain⟨n,rfl⟩:=hsu h;exact fU W a n ho
 | no s ih=>
  intro n h ho;obtain⟨n,rfl⟩:=hsu h;have i1:=ih n (by simp[hgt] at h;omega) ho;show _=some (hd (bw W s));cases e:bw W s with
  | nil=>
   rw[e] at i1;have i1:Ac n [wob W,encS s]=some .non:=i1;show _=some D.non;simp only[dK,Ac,Aj,Ao,encS,Aq,CK,gmN,gtN,W4,i1]
  | cons w l=>
   rw[e] at i1;have i1:Ac n [wob W,encS s]=some (EW w):=i1;show _=some (EW w);simp only[dK,Ac,Aj,Ao,encS,Aq,CK,O1,gmN,gtN,W4,i1]
 | bo b s t ih1 ih2=>
  intro n h ho;obtain⟨n,rfl⟩:=hsu h;have h':max (hgt s) (hgt t)+1<=n+1:=h;have i1:=ih1 n (by omega) λ w hw=>ho w (by simp only[bw];simp[hw]);have i2:=ih2 n (by omega) λ w hw=>ho w (by simp only[bw];simp[hw]);show _=some (hd (bw W s++bw W t));cases e:bw W s with
  | nil=>
   rw[e] at i1;have i1:Ac n [wob W,encS s]=some .non:=i1;rw[z0F];cases e2:bw W t with
   | nil=>
    rw[e2] at i2;have i2:Ac n [wob W,encS t]=some .non:=i2;show _=some D.non;cases b<;>simp only[dK,Ac,Aj,Ao,encS,Aq,CK,gmB,gtB,gmE,gtE,Oz,Jx,i1,i2]
   | cons w l=>
    rw[e2] at i2;have i2:Ac n [wob W,encS t]=some (EW w):=i2;show _=some (EW w);cases b<;>simp only[dK,Ac,Aj,Ao,encS,Aq,CK,O1,gmB,gtB,gmE,gtE,Oz,Jx,i1,i2]
  | cons w l=>
   rw[e] at i1;have i1:Ac n [wob W,encS s]=some (EW w):=i1;show _=some (EW w);cases b<;>simp only[dK,Ac,Aj,Ao,encS,Aq,CK,O1,gmB,gtB,gmE,gtE,Oz,Jx,i1]
 | qu b x s ih=>
  intro n h ho;obtain⟨n,rfl⟩:=hsu h;have i1:=ih n (by simp[hgt] at h;omega) ho;show _=some (hd (bw W s));cases e:bw W s with
  | nil=>
   rw[e] at i1;have i1:Ac n [wob W,encS s]=some .non:=i1;show _=some D.non;cases b<;>simp only[dK,Ac,Aj,Ao,encS,Aq,CK,gmS,gtS,gmA,gtA,Rj,W5,i1]
  | cons w l=>
   rw[e] at i1;have i1:Ac n [wob W,encS s]=some (EW w):=i1;show _=some (EW w);cases b<;>simp only[dK,Ac,Aj,Ao,encS,Aq,CK,O1,gmS,gtS,gmA,gtA,Rj,W5,i1]
abbrev qq (a b:Str) (c:Bool):Prop:=eqD false (.str a) (.str b)=some (.bl c)
theorem ww:qq "mark" "mark" true/\qq "mark" "tie" false/\qq "mark" "same" false/\qq "mark" "not" false/\qq "mark" "both" false/\qq "mark" "either" false/\qq "tie" "mark" false/\qq "tie" "tie" true/\qq "tie" "same" false/\qq "tie" "not" false/\qq "tie" "both" false/\qq "tie" "either" false/\qq "same" "mark" false/\qq "same" "tie" false/\qq "same" "same" true/\qq "same" "not" false/\qq "same" "both" false/\qq "same" "either" false/\qq "not" "mark" false/\qq "not" "tie" false/\qq "not" "same" false/\qq "not" "not" true/\qq "not" "both" false/\qq "not" "either" false/\qq "both" "mark" false/\qq "both" "tie" false/\qq "both" "same" false/\qq "both" "not" false/\qq "both" "both" true/\qq "both" "either" false/\qq "either" "mark" false/\qq "either" "tie" false/\qq "either" "same" false/\qq "either" "not" false/\qq "either" "both" false/\qq "either" "either" true/\qq "some" "mark" false/\qq "some" "tie" false/\qq "some" "same" false/\qq "some" "not" false/\qq "some" "both" false/\qq "some" "either" false/\qq "all" "mark" false/\qq "all" "tie" false/\qq "all" "same" false/\qq "all" "not" false/\qq "all" "both" false/\qq "all" "either" false:=⟨rfl,rfl,rfl,rfl,rfl,rfl,rfl,rfl,rfl,rfl,rfl,rfl,rfl,rfl,rfl,rfl,rfl,rfl,rfl,rfl,rfl,rfl,rfl,rfl,rfl,rfl,rfl,rfl,rfl,rfl,rfl,rfl,rfl,rfl,rfl,rfl,rfl,rfl,rfl,rfl,rfl,rfl,rfl,rfl,rfl,rfl,rfl,rfl⟩
theorem qy (a:Fa):(nms a).length<=2:=by cases a<;>simp[nms]
theorem La:∀ s:Sy,(fr s).length<=2*ats s
 | .fa a=>qy a
 | .no s=>La s
 | .bo _ s t=>by have:=La s;have:=La t;simp only[fr,ats,z0u];omega
 | .qu _ x s=>z0a (List.length_filter_le _ _) (La s)
theorem qz (W:Wl) (a:Fa):(bwF W a).length<=1:=by cases a<;>simp only[bwF]<;>(try split)<;>simp
theorem QR (W:Wl):∀ s:Sy,(bw W s).length<=ats s
 | .fa a=>qz W a
 | .no s=>QR W s
 | .bo _ s t=>by have:=QR W s;have:=QR W t;simp only[bw,ats,z0u];omega
 | .qu _ x s=>QR W s
theorem O2 (xs ys:List Str) (h:xs.length+ys.length<=10000000):addD (.lst (xs.map .str)) (.lst (ys.map .str))=some (.lst ((xs++ys).map .str)):=by
 rw[iu (by simpa using h),z0H]
theorem dB (r:List D->Option D) (t:Str) (e:D) (x:Str) (xs:List Str):Bo [.fz (.tup [.str t,.str x,e])] (Dy r) (HQ r) (xs.map .str)=some ((xs.filter (λ y=>decide (y≠x))).map .str):=by
 induction xs with
 | nil=>rfl
 | cons y ys ih=>
  have t:Dy r ([.fz (.tup [.str t,.str x,e])]++[.fz (.str y)])=some (!decide (y=x)):=by
   have e:eqD true (.str y) (.str x)=some (.bl (!decide (y=x))):=rfl;simp only[cK,Dy,e]
  rw[z03,Bg,t,ih,List.filter_cons]
  by_cases q:y=x
  ·simp[q,Nf]
  ·simp[q,Nb];rfl
theorem q8 (l:List D):Us (.tup l)=some (.lst l):=zE_ _
theorem vf:∀ (s:Sy) (n:Nat),hgt s<=n->ats s<=1000->Bb n [encS s]=some (.lst ((fr s).map .str)):=by
 intro s
 induction s with
 | fa a=>
  intro n h _;obtain⟨n,rfl⟩:=hsu h;cases a<;>simp only[cK,Bb,Ej,encS,enc,fr,nms,ww,k1,k2,k3,q8]
 | no s ih=>
  intro n h ha;obtain⟨n,rfl⟩:=hsu h;have i1:=ih n (by simp[hgt] at h;omega) ha;simp only[cK,Bb,Ej,encS,fr,ww,i1]
 | bo b s t ih1 ih2=>
  intro n h ha;obtain⟨n,rfl⟩:=hsu h;have h':max (hgt s) (hgt t)+1<=n+1:=h;have ha':ats s+ats t<=1000:=ha;have i1:=ih1 n (by omega) (by omega);have i2:=ih2 n (by omega) (by omega);have l1:=La s;have l2:=La t;have ad:=O2 (fr s) (fr t) (by omega);cases b<;>simp only[cK,Bb,Ej,encS,fr,ww,i1,i2,ad]
 | qu b x s ih=>
  intro n h ha;obtain⟨n,rfl⟩:=hsu h;have i1:=ih n (by simp[hgt] at h;omega) ha;have l1:=La s;have ha':ats s<=1000:=ha;cases b
  ·have cm:BJ (seqI (An (Bb n) (Aa (bF ixD (vF 0) (kF (.int 2))) nilA))) (Dy (Bb n)) (HQ (Bb n)) [.fz (.tup [.str "all",.str x,encS s])]=some (.lst ((fr (.qu false x s)).map .str)):=by
    refine Ea (ds:=(fr s).map .str) ?_ (by rw[z02];omega) (dB _ _ _ x (fr s));simp only[cK,i1]
   simp only[cK,Bb,Ej,encS,ww,cm]
  ·have cm:BJ (seqI (An (Bb n) (Aa (bF ixD (vF 0) (kF (.int 2))) nilA))) (Dy (Bb n)) (HQ (Bb n)) [.fz (.tup [.str "some",.str x,encS s])]=some (.lst ((fr (.qu true x s)).map .str)):=by
    refine Ea (ds:=(fr s).map .str) ?_ (by rw[z02];omega) (dB _ _ _ x (fr s));simp only[cK,i1]
   simp only[cK,Bb,Ej,encS,ww,cm]
theorem tK (s:Sy):Cp (fr s)=fn s:=WN (IK _) (mQ s) λ x=>by rw[Dg,Iz]
theorem vg (ns:List Str) (hn:ns.length<=6) (s:Sy) (h:Am ns s) (ha:ats s<=100):ssD (.lst ((fr s).map .str))=some (.lst ((fn s).map .str)):=by
 have l1:=La s;have l2:=Jh hn h;rw[ss_l (by omega) (by rw[tK];omega),tK]
theorem xZ (W:Wl):∀ (s:Sy) (n:Nat),hgt s<=n->ats s<=1000->Ay n [encS s,.dk (eM W.ms),.dk (eT W.ts)]=some (.lst ((bw W s).map .str)):=by
 intro s
 induction s with
 | fa a=>
  cases a with
  | mk w x=>
   intro n h _;obtain⟨n,rfl⟩:=hsu h;have e1:getK (.inr w:Key) (eM W.ms)=(W.ms.find? (λ p=>p.1=w)).map λ p=>lM p.2:=Jf lM w W.ms
   by_cases hk:w∈W.ms.map (·.1)
   ·obtain⟨q,_,e⟩:=LQ hk;rw[e] at e1;replace e1:getK (.inr w:Key) (eM W.ms)=some (lM q.2):=e1;rw[bw,bwF,if_pos hk];simp only[dK,Ay,Ba,Fq,Ft,encS,enc,WK,RD,Lf,Bg,Nb,Nf,ww,e1,z1d,if_true,List.length_singleton,Nat.reduceLeDiff]
   ·rw[W7 hk] at e1;replace e1:getK (.inr w:Key) (eM W.ms)=none:=e1;rw[bw,bwF,if_neg hk];simp only[dK,Ay,Ba,Fq,Ft,encS,enc,WK,RD,Lf,Bg,Nb,Nf,ww,e1,z1E,if_true]
  | ti w x y=>
   intro n h _;obtain⟨n,rfl⟩:=hsu h;have e1:getK (.inr w:Key) (eT W.ts)=(W.ts.find? (λ p=>p.1=w)).map λ p=>lT p.2:=Jf lT w W.ts
   by_cases hk:w∈W.ts.map (·.1)
   ·obtain⟨q,_,e⟩:=LQ hk;rw[e] at e1;replace e1:getK (.inr w:Key) (eT W.ts)=some (lT q.2):=e1;rw[bw,bwF,if_pos hk];simp only[dK,Ay,Ba,Fv,Fw,encS,enc,WK,RD,Lf,Bg,Nb,Nf,ww,e1,z1d,if_true]
   ·rw[W7 hk] at e1;replace e1:getK (.inr w:Key) (eT W.ts)=none:=e1;rw[bw,bwF,if_neg hk];simp only[dK,Ay,Ba,Fv,Fw,encS,enc,WK,RD,Lf,Bg,Nb,Nf,ww,e1,z1E,if_true]
  | sa x y=>
   intro n h _;obtain⟨n,rfl⟩:=hsu h;simp only[dK,Ay,Ba,encS,enc,bw,bwF,ww]
 | no s ih=>
  intro n h ha;obtain⟨n,rfl⟩:=hsu h;have i1:=ih n (by simp[hgt] at h;omega) ha;simp only[dK,Ay,Ba,encS,bw,ww,i1]
 | bo b s t ih1 ih2=>
  intro n h ha;obtain⟨n,rfl⟩:=hsu h;have h':max (hgt s) (hgt t)+1<=n+1:=h;have ha':ats s+ats t<=1000:=ha;have i1:=ih1 n (by omega) (by omega);have i2:=ih2 n (by omega) (by omega);have l1:=QR W s;have l2:=QR W t;have ad:=O2 (bw W s) (bw W t) (by omega);cases b<;>simp only[dK,Ay,Ba,encS,bw,ww,i1,i2,ad]
 | qu b x s ih=>
  intro n h ha;obtain⟨n,rfl⟩:=hsu h;have i1:=ih n (by simp[hgt] at h;omega) ha;cases b<;>simp only[dK,Ay,Ba,encS,bw,ww,i1]
def eH (l:List (Str×Int)):List (Key×D):=l.map λ p=>((.inr p.1:Key),.int p.2)
def gO (l:List (Str×Int)) (x:Str):Option Int:=(l.find? λ p=>p.1=x).map (·.2)
theorem getH (l:List (Str×Int)) (x:Str):getK (.inr x:Key) (eH l)=(gO l x).map .int:=by
 rw[eH,Jf D.int x l,gO,Option.map_map];rfl
def lk (l:List (Str×Int)) (xs:List Str):List Str:=xs.filter λ x=>(gO l x).isNone
def bd (n:Nat) (v:Int):Bool:=decide (v<0)||decide ((n:Int)<=v)
def st (n:Nat) (l:List (Str×Int)) (xs:List Str):List Int:=(xs.map λ x=>(gO l x).getD 0).filter (bd n)
def EN (x:Str):D:=.exc "NoName" [("name",.str x)]
def ET (v:Int):D:=.exc "NoThing" [("thing",.int v)]
theorem Ym (ρ:Rho) (x:Str):dzO ρ (some (EN x))=some (.rt (EN x) ρ):=zE_ _
theorem Vc (ρ:Rho) (x:Int):dzO ρ (some (ET x))=some (.rt (ET x) ρ):=zE_ _
theorem xf {w:Str}(h:okSD (.str w)=true):exO "NoName" "name" okSD (some (.str w))=some (EN w):=by
 show (if okSD (.str w)=true then _ else _)=_;rw[if_pos h];rfl
theorem xg {w:Int}(h:okID (.int w)=true):exO "NoThing" "thing" okID (some (.int w))=some (ET w):=by
 show (if okID (.int w)=true then _ else _)=_;rw[if_pos h];rfl
theorem fW (n:Nat) (v:Int) (h:bd n v=true) (ho:okID (.int v)=true):Az [.int (n:Int),.int v]=some (ET v):=by
 have ex:=xg ho
 by_cases z:v<0
 ·simp only[ciK,Az,DQ,z,T6,ex]
 ·have z2:(n:Int)<=v:=by simpa [bd,z] using h
  have z3:v≥(n:Int):=z2;simp only[ciK,Az,DQ,z,z2,z3,T6,ex]
abbrev su (W:Wl) (xs:List Str) (l:List (Str×Int)) (z:Slot):Rho:=[.fz (wob W),.fz (.lst (xs.map .str)),.fz (.dk (eH l)),z]
theorem u1 (W:Wl) (xs:List Str) (l:List (Str×Int)):∀ (r:List Str) (z:Slot),lk l r=[]->∃ z',forF (tgB (CT 3) Av) (r.map .str) (su W xs l z)=some (.nx (su W xs l z'))
 | [],z,_=>⟨z,rfl⟩
 | x::r,z,h=>by
  cases e:gO l x with
  | none=>simp[lk,e] at h
  | some v=>
   obtain⟨z',i⟩:=u1 W xs l r (.fz (.str x)) (by simpa [lk,e] using h);refine⟨z',?_⟩;have e1:=getH l x;rw[e] at e1;replace e1:getK (.inr x:Key) (eH l)=some (.int v):=e1;have b:Av (su W xs l (.fz (.str x)))=some (.nx (su W xs l (.fz (.str x)))):=by
    simp only[dK,Av,e1,z1d,if_true]
   rw[z03,Ck,e_tg,GP,Ho];simp only[su,z0n,z0o];simp only[su] at b i;rw[b,C_,i]
theorem u1x (W:Wl) (xs:List Str) (l:List (Str×Int)) (y:Str) (q:List Str):∀ (r:List Str) (z:Slot),(∀ x∈r,okSD (.str x)=true)->lk l r=y::q->∃ ρ,forF (tgB (CT 3) Av) (r.map .str) (su W xs l z)=some (.rt (EN y) ρ)
 | [],z,_,h=>by simp[lk] at h
 | x::r,z,ho,h=>by
  have e1:=getH l x;cases e:gO l x with
  | none=>
   rw[e] at e1;replace e1:getK (.inr x:Key) (eH l)=none:=e1;have:x=y:=by simp[lk,e] at h;exact h.1
   subst this;have ex:=xf (ho x (by simp));refine⟨su W xs l (.fz (.str x)),?_⟩;have b:Av (su W xs l (.fz (.str x)))=some (.rt (EN x) (su W xs l (.fz (.str x)))):=by
    simp only[dK,Av,e1,z1E,if_true,T6,ex]
   rw[z03,Ck,e_tg,GP,Ho];simp only[su,z0n,z0o];simp only[su] at b;rw[b,Lg]
  | some v=>
   obtain⟨ρ,i⟩:=u1x W xs l y q r (.fz (.str x)) (λ u hu=>ho u (by simp[hu])) (by simpa [lk,e] using h);refine⟨ρ,?_⟩;rw[e] at e1;replace e1:getK (.inr x:Key) (eH l)=some (.int v):=e1;have b:Av (su W xs l (.fz (.str x)))=some (.nx (su W xs l (.fz (.str x)))):=by
    simp only[dK,Av,e1,z1d,if_true]
   rw[z03,Ck,e_tg,GP,Ho];simp only[su,z0n,z0o];simp only[su] at b i;rw[b,C_,i]
theorem vh {l:List (Str×Int)}(h:∀ p∈l,okID (.int p.2)=true) {x:Str}{v:Int}(e:gO l x=some v):okID (.int v)=true:=by
 unfold gO at e;cases f:l.find? (λ p=>p.1=x) with
 | none=>rw[f] at e;cases e
 | some p=>
  rw[f] at e;have:=z0h e;rw[<-this];exact h p (List.mem_of_find?_eq_some f)
theorem Zu (n:Nat) (v:Int) (h:¬ bd n v=true):Az [.int (n:Int),.int v]=some .non:=by
 have h':¬ (v<0)/\¬ ((n:Int)<=v):=by simpa [bd] using h
 have e:v=((v.toNat:Nat):Int):=by omega
 rw[e];exact Tn n v.toNat (by omega)
theorem u2x (W:Wl) (xs:List Str) (l:List (Str×Int)) (ho:∀ p∈l,okID (.int p.2)=true) (y:Int) (q:List Int):∀ (r:List Str) (z:Slot),lk l r=[]->st W.n l r=y::q->∃ ρ,forF (tgB (CT 3) BL) (r.map .str) (su W xs l z)=some (.rt (ET y) ρ)
 | [],z,_,h=>by simp[st] at h
 | x::r,z,hk,h=>by
  have e1:=getH l x;cases e:gO l x with
  | none=>simp[lk,e] at hk
  | some v=>
   rw[e] at e1;replace e1:getK (.inr x:Key) (eH l)=some (.int v):=e1
   by_cases hb:bd W.n v=true
   ·have:v=y:=by simp[st,e,hb] at h;exact h.1
    subst this;have t:=fW W.n v hb (vh ho e);refine⟨su W xs l (.fz (.str x)),?_⟩;have b:BL (su W xs l (.fz (.str x)))=some (.rt (ET v) (su W xs l (.fz (.str x)))):=by
     simp only[dK,BL,Aq,Vc,Jg,e1,t]
    rw[z03,Ck,e_tg,GP,Ho];simp only[su,z0n,z0o];simp only[su] at b;rw[b,Lg]
   ·obtain⟨ρ,i⟩:=u2x W xs l ho y q r (.fz (.str x)) (by simpa [lk,e] using hk) (by simpa [st,e,hb] using h);refine⟨ρ,?_⟩;have t:=Zu W.n v hb;have b:BL (su W xs l (.fz (.str x)))=some (.nx (su W xs l (.fz (.str x)))):=by
     simp only[dK,BL,Aq,CK,Jg,e1,t]
    rw[z03,Ck,e_tg,GP,Ho];simp only[su,z0n,z0o];simp only[su] at b i;rw[b,C_,i]
theorem mW (W:Wl) (l:List (Str×Int)) (xs:List Str) (ho:∀ x∈xs,okSD (.str x)=true) (y:Str) (q:List Str) (h:lk l xs=y::q):Bl [wob W,.lst (xs.map .str),.dk (eH l)]=some (EN y):=by
 obtain⟨ρ,e⟩:=u1x W xs l y q xs .un ho h;simp only[su] at e;simp only[dK,Bl,DW,e]
theorem fY (W:Wl) (l:List (Str×Int)) (xs:List Str) (ho:∀ p∈l,okID (.int p.2)=true) (hk:lk l xs=[]) (y:Int) (q:List Int) (h:st W.n l xs=y::q):Bl [wob W,.lst (xs.map .str),.dk (eH l)]=some (ET y):=by
 obtain⟨z,e1⟩:=u1 W xs l xs .un hk;obtain⟨ρ,e⟩:=u2x W xs l ho y q xs z hk h;simp only[su] at e e1;simp only[dK,Bl,DW,e1,e]
def Pf (l:List (Str×Int)) (x:Str):Nat:=((gO l x).getD 0).toNat
theorem xj {l:List (Str×Int)}{xs:List Str}(hk:lk l xs=[]) (hs:st n l xs=[]):∀ x∈xs,Pl n (eH l) (Pf l) x:=by
 intro x hx;cases e:gO l x with
 | none=>
  have:x∈lk l xs:=z0K.mpr ⟨hx,by simp[e]⟩;rw[hk] at this;cases this
 | some v=>
  have hb:¬ bd n v=true:=by
   intro z;have:v∈st n l xs:=z0K.mpr ⟨z07.mpr ⟨x,hx,by simp[e]⟩,z⟩;rw[hs] at this;cases this
  have h':¬ (v<0)/\¬ ((n:Int)<=v):=by simpa [bd] using hb
  have e1:=getH l x;rw[e] at e1;refine⟨?_,?_⟩
  ·rw[e1,Pf,e];show some (D.int v)=some (.int ((v.toNat:Nat):Int));rw[Int.toNat_of_nonneg (by omega)]
  ·rw[Pf,e];show v.toNat<n;omega
theorem Yn (W:Wl):∀ s:Sy,bw W s=[]->KnS W s
 | .fa (.mk w x),h=>by
  by_cases z:w∈W.ms.map (·.1)
  ·exact z
  ·rw[bw,bwF,if_neg z] at h;cases h
 | .fa (.ti w x y),h=>by
  by_cases z:w∈W.ts.map (·.1)
  ·exact z
  ·rw[bw,bwF,if_neg z] at h;cases h
 | .fa (.sa x y),h=>trivial
 | .no s,h=>Yn W s h
 | .bo _ s t,h=>by
  have h':bw W s++bw W t=[]:=h;exact⟨Yn W s (List.append_eq_nil_iff.mp h').1,Yn W t (List.append_eq_nil_iff.mp h').2⟩
 | .qu _ _ s,h=>Yn W s h
def out (W:Wl) (l:List (Str×Int)) (s:Sy):D:=match lk l (fn s) with
 | x::_=>EN x
 | []=>match st W.n l (fn s) with
  | v::_=>ET v
  | []=>match bw W s with
   | w::_=>EW w
   | []=>.bl (tru W (Pf l) s)
def due (W:Wl) (l:List (Str×Int)) (s:Sy):D:=match lk l (fn s) with
 | x::_=>.lst [.str "name",.str x]
 | []=>match st W.n l (fn s) with
  | v::_=>.lst [.str "thing",.int v]
  | []=>match bw W s with
   | w::_=>.lst [.str "word",.str w]
   | []=>.lst []
structure Hn (W:Wl) (ns:List Str) (l:List (Str×Int)) (s:Sy):Prop where
 am:Am ns s
 hh:hgt s<=60
 dp:dpt s<=6
 at':ats s<=100
 ow:Ok W s
 on:∀ x∈ns,okSD (.str x)=true
 oi:∀ p∈l,okID (.int p.2)=true
theorem Zv (W:Wl) (hW:WOk W) (ns:List Str) (hn:ns.length<=6) (l:List (Str×Int)) (s:Sy) (h:Hn W ns l s) (g0:D) (h0:g0=.dk (eH l)∨(g0=.non/\l=[])):Ce [wob W,encS s,g0]=some (out W l s):=by
 have fn':=Yh ns hn s 60 h.hh h.am;have os:∀ x∈fn s,okSD (.str x)=true:=λ x hx=>h.on x (QQ s h.am x ((Iz s x).mp hx));have nd1:∀ g,isND false (.dk g)=some (.bl false):=λ _=>rfl;have nd2:isND false .non=some (.bl true):=rfl;have eh:eH []=[]:=rfl;cases e:lk l (fn s) with
 | cons y q=>
  have r:=mW W l (fn s) os y q e;have eo:out W l s=EN y:=by delta out;rw[e]
  rw[eo]
  rcases h0 with rfl | ⟨rfl,rfl⟩
  ·simp only[cK,Ce,HS,Aq,Ym,nd1,fn',r]
  ·rw[eh] at r;simp only[cK,Ce,HS,Aq,Ym,nd2,fn',r]
 | nil=>
  cases e2:st W.n l (fn s) with
  | cons y q=>
   have r:=fY W l (fn s) h.oi e y q e2;have eo:out W l s=ET y:=by delta out;rw[e];simp only[];rw[e2]
   rw[eo]
   rcases h0 with rfl | ⟨rfl,rfl⟩
   ·simp only[cK,Ce,HS,Aq,Vc,nd1,fn',r]
   ·rw[eh] at r;simp only[cK,Ce,HS,Aq,Vc,nd2,fn',r]
  | nil=>
   have pl:=xj e e2;have r:=Qx W (eH l) (Pf l) (fn s) pl;have sr:=fV W s 60 h.hh h.ow;cases e3:bw W s with
   | cons y q=>
    rw[e3] at sr;replace sr:Ac 60 [wob W,encS s]=some (EW y):=sr;have eo:out W l s=EW y:=by delta out;rw[e];simp only[];rw[e2];simp only[];rw[e3]
    rw[eo]
    rcases h0 with rfl | ⟨rfl,rfl⟩
    ·simp only[cK,Ce,HS,Aq,CK,O1,nd1,fn',r,sr]
    ·rw[eh] at r;simp only[cK,Ce,HS,Aq,CK,O1,nd2,fn',r,sr]
   | nil=>
    have eo:out W l s=.bl (tru W (Pf l) s):=by delta out;rw[e];simp only[];rw[e2];simp only[];rw[e3]
    rw[eo];exact mR W hW ns hn (eH l) g0 (h0.imp id λ z=>⟨z.1,by rw[z.2];rfl⟩) (Pf l) s (Yn W s e3) h.am h.hh h.dp λ x hx=>pl x ((Iz s x).mpr hx)
theorem W8 (l:List D):eqD true (.lst l) (.lst [])=some (.bl (!decide (l=[]))):=by
 cases l with
 | nil=>rfl
 | cons a r=>rfl
theorem cl1 (a0 a1 a2 a3 a4 a5 a6 a7 a8:Slot) (l:List (Str×Int)) (ha:a1=.fz (.dk (eH l))):∀ xs:List Str,Bo [a0,a1,a2,a3,a4,a5,a6,a7,a8] Gk Gm (xs.map .str)=some ((lk l xs).map .str)
 | []=>rfl
 | x::r=>by
  have e1:=getH l x;subst ha;rw[z03,Bg,cl1 a0 _ a2 a3 a4 a5 a6 a7 a8 l rfl r];cases e:gO l x with
  | none=>
   rw[e] at e1;replace e1:getK (.inr x:Key) (eH l)=none:=e1;have t:lk l (x::r)=x::lk l r:=by simp[lk,e]
   rw[t];simp only[dK,Gk,Gm,e1,z1E,if_true,Nb]
  | some v=>
   rw[e] at e1;replace e1:getK (.inr x:Key) (eH l)=some (.int v):=e1;have t:lk l (x::r)=lk l r:=by simp[lk,e]
   rw[t];simp only[dK,Gk,Gm,e1,z1d,if_true,Nf]
theorem cl2 (n:Nat) (a0 a1 a2 a3 a4 a5 a6 a7 a8:Slot) (l:List (Str×Int)) (ha:a1=.fz (.dk (eH l))) (hb:a2=.fz (.int (n:Int))):∀ xs:List Str,lk l xs=[]->Bo [a0,a1,a2,a3,a4,a5,a6,a7,a8] Ex Ey (xs.map .str)=some ((st n l xs).map .int)
 | [],_=>rfl
 | x::r,hk=>by
  have e1:=getH l x;cases e:gO l x with
  | none=>simp[lk,e] at hk
  | some v=>
   subst ha hb;rw[z03,Bg,cl2 n a0 _ _ a3 a4 a5 a6 a7 a8 l rfl rfl r (by simpa [lk,e] using hk)];rw[e] at e1;replace e1:getK (.inr x:Key) (eH l)=some (.int v):=e1
   by_cases z1:v<0
   ·have t:st n l (x::r)=v::st n l r:=by simp[st,e,bd,z1]
    rw[t];simp only[diK,Ex,Ey,e1,z1,Nb]
   ·by_cases z2:(n:Int)<=v
    ·have t:st n l (x::r)=v::st n l r:=by simp[st,e,bd,z2]
     have z3:v≥(n:Int):=z2;rw[t];simp only[diK,Ex,Ey,e1,z1,z2,z3,Nb]
    ·have t:st n l (x::r)=st n l r:=by simp[st,e,bd,z1,z2]
     have z3:¬ (v≥(n:Int)):=z2;rw[t];simp only[diK,Ex,Ey,e1,z1,z2,z3,Nf]
theorem Zw (W:Wl) (ns:List Str) (hn:ns.length<=6) (l:List (Str×Int)) (s:Sy) (h:Hn W ns l s):Ek [encS s,.dk (eH l),.int (W.n:Int),.dk (eM W.ms),.dk (eT W.ts)]=some (due W l s):=by
 have f1:=vf s 60 h.hh (by have:=h.at';omega);have f2:=vg ns hn s h.am h.at';have f3:=Jh hn h.am;have bd:=xZ W s 60 h.hh (by have:=h.at';omega);have m1:BJ (seqA (vF 5)) Gk Gm [.fz (encS s),.fz (.dk (eH l)),.fz (.int (W.n:Int)),.fz (.dk (eM W.ms)),.fz (.dk (eT W.ts)),.fz (.lst ((fn s).map .str)),.un,.un,.un]=some (.lst ((lk l (fn s)).map .str)):=
  Ea (ds:=(fn s).map .str) (by simp only[Hk,e_v,z0I,z0w,e_vs,HF]) (by rw[z02];omega) (cl1 _ _ _ _ _ _ _ _ _ l rfl (fn s))
 cases e:lk l (fn s) with
 | cons y q=>
  have eo:due W l s=.lst [.str "name",.str y]:=by delta due;rw[e]
  rw[e] at m1;have n1:=W8 ((y::q).map .str);have i0:ixE (.lst ((y::q).map .str)) (.int 0)=some (.str y):=ix0 _ _;rw[eo];simp only[z03] at m1 n1 i0;simp only[cK,Ek,G9,f1,f2,m1,n1,i0,reduceCtorEq]
 | nil=>
  have m2:BJ (seqA (vF 5)) Ex Ey [.fz (encS s),.fz (.dk (eH l)),.fz (.int (W.n:Int)),.fz (.dk (eM W.ms)),.fz (.dk (eT W.ts)),.fz (.lst ((fn s).map .str)),.fz (.lst []),.un,.un]=some (.lst ((st W.n l (fn s)).map .int)):=
   Ea (ds:=(fn s).map .str) (by simp only[Hk,e_v,z0I,z0w,e_vs,HF]) (by rw[z02];omega) (cl2 W.n _ _ _ _ _ _ _ _ _ l rfl rfl (fn s) e)
  rw[e] at m1;have n0:=W8 [];cases e2:st W.n l (fn s) with
  | cons y q=>
   have eo:due W l s=.lst [.str "thing",.int y]:=by delta due;rw[e];simp only[];rw[e2]
   rw[e2] at m2;have n1:=W8 ((y::q).map .int);have i0:ixE (.lst ((y::q).map .int)) (.int 0)=some (.int y):=ix0 _ _;rw[eo];simp only[z03,z0q] at m1 m2 n1 i0;simp only[cK,Ek,G9,f1,f2,m1,n0,m2,n1,i0,reduceCtorEq]
  | nil=>
   rw[e2] at m2;cases e3:bw W s with
   | cons y q=>
    have eo:due W l s=.lst [.str "word",.str y]:=by delta due;rw[e];simp only[];rw[e2];simp only[];rw[e3]
    rw[e3] at bd;have n1:=W8 ((y::q).map .str);have i0:ixE (.lst ((y::q).map .str)) (.int 0)=some (.str y):=ix0 _ _;rw[eo];simp only[z03,z0q] at m1 m2 n1 i0 bd;simp only[cK,Ek,G9,f1,f2,m1,n0,m2,bd,n1,i0,reduceCtorEq]
   | nil=>
    have eo:due W l s=.lst []:=by delta due;rw[e];simp only[];rw[e2];simp only[];rw[e3]
    rw[e3] at bd;rw[eo];simp only[z0q] at m1 m2 bd;simp only[cK,Ek,G9,f1,f2,m1,n0,m2,bd,reduceCtorEq]
abbrev CS:List Str:=cs_
def cau (d:D):D:=match excOf d with | some (c,gs)=>.err c gs | none=>.non
theorem Zx (cs:List Str) (i:Nat) (g h:FS) (ρ:Rho):tryF cs i g h ρ=tryO cs i h (g ρ):=zE_ _
theorem Zy (cs:List Str) (i:Nat) (h:FS) (ρ:Rho):tryO cs i h (some (.nx ρ))=some (.nx ρ):=zE_ _
theorem Zz (i:Nat) (ρ:Rho):offO i (some (.nx ρ))=some (.nx (ρ.set i .un)):=zE_ _
theorem dC:CS.contains ("NoName":Str)=true:=by decide +kernel
theorem dD:CS.contains ("NoThing":Str)=true:=by decide +kernel
theorem dF:CS.contains ("NoWord":Str)=true:=by decide +kernel
theorem QS (i:Nat) (h:FS) (c:Str) (gs:List (Str×D)) (ρ:Rho) (hc:CS.contains c=true):tryO CS i h (some (.rt (.exc c gs) ρ))=offO i (h (ρ.set i (.fz (.err c gs)))):=by
 show (if CS.contains c=true then _ else _)=_;rw[if_pos hc]
theorem Z0 (i:Nat) (h:FS) (y:Str) (ρ:Rho):tryO CS i h (some (.rt (EW y) ρ))=offO i (h (ρ.set i (.fz (cau (EW y))))):=QS i h _ _ ρ dF
theorem Z1 (i:Nat) (h:FS) (y:Str) (ρ:Rho):tryO CS i h (some (.rt (EN y) ρ))=offO i (h (ρ.set i (.fz (cau (EN y))))):=QS i h _ _ ρ dC
theorem Z2 (i:Nat) (h:FS) (y:Int) (ρ:Rho):tryO CS i h (some (.rt (ET y) ρ))=offO i (h (ρ.set i (.fz (cau (ET y))))):=QS i h _ _ ρ dD
theorem mX (ρ:Rho) (b:Bool):dzO ρ (some (.bl b))=some (.nx ρ):=zE_ _
inductive Four:D->Prop
 | n (x:Str):Four (EN x)
 | t (v:Int):Four (ET v)
 | w (x:Str):Four (EW x)
 | b (x:Bool):Four (.bl x)
theorem T7 (W:Wl) (l:List (Str×Int)) (s:Sy):Four (out W l s):=by
 delta out;cases lk l (fn s) with
 | cons x q=>exact .n x
 | nil=>
  simp only[];cases st W.n l (fn s) with
  | cons x q=>exact .t x
  | nil=>
   simp only[];cases bw W s with
   | cons x q=>exact .w x
   | nil=>exact .b _
theorem mY (w s g o:D) (hf:Four o) (h:Ce [w,s,.non]=some o):CZ [.int 0,w,s,g]=some (cau o):=by
 cases hf<;>simp only[ciK,CZ,Ff,Aq,Zx,h,Ym,Vc,O1,mX,Zy,Z0,Z1,Z2,Zz]<;>rfl
theorem mZ (w s g o:D) (hf:Four o) (h:Ce [w,s,.non]=some o):CZ [.int 1,w,s,g]=some (cau o):=by
 have z:¬ ((1:Int)=0):=by decide
 cases hf<;>simp only[ciK,CZ,Ff,Aq,Zx,h,Ym,Vc,O1,mX,Zy,Z0,Z1,Z2,Zz]<;>rfl
theorem mj (i:Int) (hi:2<=i) (w s g o:D) (hf:Four o) (h:Ce [w,s,g]=some o):CZ [.int i,w,s,g]=some (cau o):=by
 have z:¬ (i=0):=by omega
 have z1:¬ (i=1):=by omega
 cases hf<;>simp only[ciK,CZ,Ff,z,z1,Aq,Zx,h,Ym,Vc,O1,mX,Zy,Z0,Z1,Z2,Zz]<;>rfl
theorem W9 (l:List D):eqD false (.lst l) (.lst [])=some (.bl (decide (l=[]))):=by
 cases l with
 | nil=>rfl
 | cons a r=>rfl
theorem eqKs (x:Str):eqK 180 (.str x) (.str x)=some true:=by
 have e:eqK 180 (.str x) (.str x)=flD (.str x) (.str x):=rfl;rw[e];simp[flD,flV,eqV]
theorem eqKi (x:Int):eqK 180 (.int x) (.int x)=some true:=by
 have e:eqK 180 (.int x) (.int x)=flD (.int x) (.int x):=rfl;rw[e];simp[flD,flV,eqV]
theorem tL (a b:Str):eqD false (.lst [.str a,.str b]) (.lst [.str a,.str b])=some (.bl true):=by
 simp only[eqD,eqvD,if_true,allO,eqKs];rfl
theorem xm (a:Str) (b:Int):eqD false (.lst [.str a,.int b]) (.lst [.str a,.int b])=some (.bl true):=by
 simp only[eqD,eqvD,if_true,allO,eqKs,eqKi];rfl
theorem mq:CG [.non,.lst []]=some (.bl true):=by
 have n:isND false .non=some (.bl true):=rfl;have q:=W9 [];simp only[cK,CG,Fz,n,q]
theorem gx1 (x:Str):isND false (cau (EN x))=some (.bl false):=rfl
theorem gx2 (x:Int):isND false (cau (ET x))=some (.bl false):=rfl
theorem gx3 (x:Str):isND false (cau (EW x))=some (.bl false):=rfl
theorem O3 (ns:List Str) (c:Str) (gs:List (Str×D)) (h:CS.contains c=true):isxD CS ns (.err c gs)=some (.bl (ns.contains c)):=by
 show (if _ then _ else _)=_;rw[if_pos h]
theorem i1 (ns:List Str) (x:Str):isxD CS ns (cau (EN x))=some (.bl (ns.contains ("NoName":Str))):=O3 ns _ _ dC
theorem i2 (ns:List Str) (x:Int):isxD CS ns (cau (ET x))=some (.bl (ns.contains ("NoThing":Str))):=O3 ns _ _ dD
theorem i3 (ns:List Str) (x:Str):isxD CS ns (cau (EW x))=some (.bl (ns.contains ("NoWord":Str))):=O3 ns _ _ dF
theorem M6 (c f:Str) (d:D) (h:CS.contains c=true):fldE CS f (.err c [(f,d)])=some d:=by
 show (if _ then _ else _)=_;rw[if_pos h,z09,z0Z]
theorem l1 (x:Str):fldE CS "name" (cau (EN x))=some (.str x):=M6 _ _ _ dC
theorem l2 (x:Int):fldE CS "thing" (cau (ET x))=some (.int x):=M6 _ _ _ dD
theorem l3 (x:Str):fldE CS "word" (cau (EW x))=some (.str x):=M6 _ _ _ dF
theorem cc1:CS.contains ("NoName":Str)=true/\(["NoPointing","NoSaying","TooGreat","Unlike"]:List Str).contains ("NoName":Str)=false/\(["NoName"]:List Str).contains ("NoName":Str)=true/\(["NoThing","NoWord"]:List Str).contains ("NoName":Str)=false:=by decide +kernel
theorem cc2:CS.contains ("NoThing":Str)=true/\(["NoPointing","NoSaying","TooGreat","Unlike"]:List Str).contains ("NoThing":Str)=false/\(["NoName"]:List Str).contains ("NoThing":Str)=false/\(["NoThing"]:List Str).contains ("NoThing":Str)=true/\(["NoWord"]:List Str).contains ("NoThing":Str)=false:=by decide +kernel
theorem cc3:CS.contains ("NoWord":Str)=true/\(["NoPointing","NoSaying","TooGreat","Unlike"]:List Str).contains ("NoWord":Str)=false/\(["NoName"]:List Str).contains ("NoWord":Str)=false/\(["NoThing"]:List Str).contains ("NoWord":Str)=false/\(["NoWord"]:List Str).contains ("NoWord":Str)=true:=by decide +kernel
theorem vm (x:Str):CG [cau (EN x),.lst [.str "name",.str x]]=some (.bl true):=by
 obtain⟨h1,h2,h3,h4⟩:=cc1;have n:=gx1 x;have q:=W9 [.str "name",.str x];have q2:=tL "name" x;have a1:=i1 CS x;have a2:=i1 ["NoPointing","NoSaying","TooGreat","Unlike"] x;have a3:=i1 ["NoName"] x;have a4:=i1 ["NoThing","NoWord"] x;have a5:=l1 x;rw[h1] at a1;rw[h2] at a2;rw[h3] at a3;rw[h4] at a4;generalize cau (EN x)=d at *;simp only[cK,CG,Fz,n,q,reduceCtorEq,a1,a2,a3,a4,a5,q2]
theorem vo (x:Int):CG [cau (ET x),.lst [.str "thing",.int x]]=some (.bl true):=by
 obtain⟨h1,h2,h3,h4,h5⟩:=cc2;have n:=gx2 x;have q:=W9 [.str "thing",.int x];have q2:=xm "thing" x;have a1:=i2 CS x;have a2:=i2 ["NoPointing","NoSaying","TooGreat","Unlike"] x;have a3:=i2 ["NoName"] x;have a4:=i2 ["NoThing"] x;have a6:=i2 ["NoWord"] x;have a5:=l2 x;rw[h1] at a1;rw[h2] at a2;rw[h3] at a3;rw[h4] at a4;rw[h5] at a6;generalize cau (ET x)=d at *;simp only[cK,CG,Fz,n,q,reduceCtorEq,a1,a2,a3,a4,a5,a6,q2]
theorem vy (x:Str):CG [cau (EW x),.lst [.str "word",.str x]]=some (.bl true):=by
 obtain⟨h1,h2,h3,h4,h5⟩:=cc3;have n:=gx3 x;have q:=W9 [.str "word",.str x];have q2:=tL "word" x;have a1:=i3 CS x;have a2:=i3 ["NoPointing","NoSaying","TooGreat","Unlike"] x;have a3:=i3 ["NoName"] x;have a4:=i3 ["NoThing"] x;have a6:=i3 ["NoWord"] x;have a5:=l3 x;rw[h1] at a1;rw[h2] at a2;rw[h3] at a3;rw[h4] at a4;rw[h5] at a6;generalize cau (EW x)=d at *;simp only[cK,CG,Fz,n,q,reduceCtorEq,a1,a2,a3,a4,a5,a6,q2]
theorem W_ (W:Wl) (l:List (Str×Int)) (s:Sy):CG [cau (out W l s),due W l s]=some (.bl true):=by
 delta out due;cases lk l (fn s) with
 | cons x q=>exact vm x
 | nil=>
  simp only[];cases st W.n l (fn s) with
  | cons x q=>exact vo x
  | nil=>
   simp only[];cases bw W s with
   | cons x q=>exact vy x
   | nil=>exact mq
def mkO (c f:Str) (ok:D->Bool) (o:Option D):Option D:=o.bind λ d=>if ok d=true then some (.err c [(f,d)]) else none
theorem xn (c f:Str) (ok:D->Bool) (fa:FE) (ρ:Rho):mkE c f ok fa ρ=mkO c f ok (fa ρ):=zE_ _
theorem dG (c f:Str) (ok:D->Bool) (d:D) (h:ok d=true):mkO c f ok (some d)=some (.err c [(f,d)]):=by
 show (if _ then _ else _)=_;rw[if_pos h]
def mkO2 (c f g:Str) (o:Option (List D)):Option D:=o.bind (two2 .err c f g)
theorem vz (c f g:Str) (fs:FA) (ρ:Rho):mkE2 c f g fs ρ=mkO2 c f g (fs ρ):=zE_ _
theorem v4 (c f g:Str) (a b:D) (h:okID a=true) (h':okID b=true):mkO2 c f g (some [a,b])=some (.err c [(g,b),(f,a)]):=by
 show (if _ then _ else _)=_;rw[h,h'];rfl
def mkO0 (c:Str) (o:Option D):Option D:=o.map λ _=>.err c []
theorem v5 (c:Str) (fa:FE) (ρ:Rho):mkE0 c fa ρ=mkO0 c (fa ρ):=zE_ _
theorem v6 (c:Str) (d:D):mkO0 c (some d)=some (.err c []):=zE_ _
theorem q9 (i:Int) (h:okID (.int i)=true):JK [.int i]=some (.bl true):=by
 have o1:okSD (.str "x")=true:=by decide +kernel
 have o2:okSD (.str "red")=true:=by decide +kernel
 have o3:okSD (.str "x=")=true:=by decide +kernel
 have o4:okID (.int 5)=true:=by decide +kernel
 have m1:=dG "NoThing" "thing" okID (.int i) h;have m2:=dG "NoName" "name" okSD (.str "x") o1;have m3:=dG "NoWord" "word" okSD (.str "red") o2;have m4:=dG "NoSaying" "line" okSD (.str "x=") o3;have m5:=v4 "TooGreat" "number" "most" (.int i) (.int 5) h o4;have f1:=M6 "NoThing" "thing" (.int i) dD;have f2:=M6 "NoName" "name" (.str "x") dC;have f3:=M6 "NoWord" "word" (.str "red") dF;have f4:=M6 "NoSaying" "line" (.str "x=") (by decide +kernel);have tg:CS.contains ("TooGreat":Str)=true:=by decide +kernel
 have f5:fldE CS "number" (.err "TooGreat" [("most",.int 5),("number",.int i)])=some (.int i):=by
  show (if CS.contains ("TooGreat":Str)=true then List.lookup ("number":Str) [("most",D.int 5),("number",D.int i)] else none)=_;rw[if_pos tg,z09,show (("number":Str)=="most")=false by decide +kernel];simp only[z09,z0Z]
 have f6:fldE CS "most" (.err "TooGreat" [("most",.int 5),("number",.int i)])=some (.int 5):=by
  show (if CS.contains ("TooGreat":Str)=true then List.lookup ("most":Str) [("most",D.int 5),("number",D.int i)] else none)=_;rw[if_pos tg,z09,z0Z]
 have s1:eqD true (.str "x") (.str "x")=some (.bl false):=zE_ _;have s2:eqD true (.str "red") (.str "red")=some (.bl false):=zE_ _;have s3:eqD true (.str "x=") (.str "x=")=some (.bl false):=zE_ _;have u1:isxD CS CS (.err "Unlike" [])=some (.bl true):=by rw[O3 _ _ _ (by decide +kernel)];exact congrArg (λ b=>some (D.bl b)) (by decide +kernel)
 have u2:isxD CS CS (.err "NoPointing" [])=some (.bl true):=by rw[O3 _ _ _ (by decide +kernel)];exact congrArg (λ b=>some (D.bl b)) (by decide +kernel)
 simp only[ciK,JK,K4,xn,m1,f1,m2,f2,m3,f3,vz,m5,f5,f6,m4,f4,s1,s2,s3,v5,v6,u1,u2]
theorem asg3 (f:FE) (a b c:D) (i j k:Nat) (ρ:Rho) (h:f ρ=some (.lst [a,b,c])):asgF f (tupG 3 (Cy i (Cy j (Cy k nilG)))) ρ=some (.nx (((ρ.set i (.fz a)).set j (.fz b)).set k (.fz c))):=by
 delta asgF;rw[h];rfl
theorem XD {α β:Type}(f:α->β) (l:List α) (lo hi:Option Int):cutD (l.map f) lo hi=(cutD l lo hi).map f:=by
 delta cutD;rw[z02,List.map_take,List.map_drop]
theorem cell_in (ns:List Int) (k:Nat):∃ i,BW [.lst (ns.map .int),.int k]=some (.int i)/\(i=0∨i∈ns):=by
 by_cases h:k<ns.length
 ·refine⟨ns[k],?_,.inr (z1x h)⟩;have e:atI (ns.map D.int) (k:Int)=some (.int ns[k]):=by
   rw[Y9 (by omega) (by simpa using h)];simp[h]
  simp[BW,runF,JH,seqF,ifS,blF,bF,vF,uF,FN,lenD,Xa,h,retF,ixD,e]
 ·refine⟨0,?_,.inl rfl⟩;simp[BW,runF,JH,seqF,ifS,blF,bF,vF,uF,FN,lenD,Xa,h,retF,nxF,kF]
theorem q_ (ms:List (Str×List Nat)):Qk (.dk (eM ms))=some (.lst ((ms.map (·.1)).map .str)):=by
 show some (D.lst ((eM ms).map λ p=>kDt p.1))=_;simp only[eM,z0l,Function.comp_def,VB]
theorem rB (ts:List (Str×List (Nat×Nat))):Qk (.dk (eT ts))=some (.lst ((ts.map (·.1)).map .str)):=by
 show some (D.lst ((eT ts).map λ p=>kDt p.1))=_;simp only[eT,z0l,Function.comp_def,VB]
theorem isb (b:Bool):isiD "bool" (.bl b)=some (.bl true):=by cases b<;>rfl
theorem QT {v:Int}(h:v.natAbs<10^60):okID (.int v)=true:=by
 show decide (v.natAbs.log2<1920)=true;rw[z1Q]
 by_cases z:v.natAbs=0
 ·rw[z];decide
 ·rw[Nat.log2_lt z];exact z0m h (by decide +kernel)
theorem xq (xs:List Int) (j n:Int) (hl:n=xs.length) (hx:xs≠[]):∃ x,x∈xs/\ixE (.lst (xs.map .int)) (.int (j%n))=some (.int x):=by
 obtain⟨x,hx,e⟩:=Vl (xs:=xs.map D.int) j n (by simpa using hl) (by simpa using hx);obtain⟨y,hy,rfl⟩:=z07.mp hx;exact⟨y,hy,e⟩
theorem Hx (a b c d e f g h i j k:D):lstO (some [a,b,c,d,e,f,g,h,i,j,k])=some (.lst [a,b,c,d,e,f,g,h,i,j,k]):=zE_ _
theorem O4:powD (.int 10) (.int 40)=some (.int 10000000000000000000000000000000000000000):=by rfl
theorem QV (c k:Int) (ns:List Str) (n:Nat) (hn:n<=5) (i:Nat) (q:Int) (hq:0<q/\q<1000) (x:Str) (hi:ixE (.lst [.int 1,.int 11,.int 121]) (.int (i:Int))=some (.int q)) (hx:ixE (.lst (ns.map .str)) (.int (i:Int))=some (.str x)) (l:List (Str×Int)) (hl:l.length<=10) (nx:x∉l.map (·.1)) (z6 z7:Slot) :
  ∃ l' z6' z7',BP [.fz (.int c),.fz (.int k),.fz (.lst (ns.map .str)),.fz (.int (n:Int)),.ow (.dk (eH l)),.fz (.int (i:Int)),z6,z7]=some (.nx [.fz (.int c),.fz (.int k),.fz (.lst (ns.map .str)),.fz (.int (n:Int)),.ow (.dk (eH l')),.fz (.int (i:Int)),z6',z7'])/\(l'=l∨∃ v,l'=l++[(x,v)]/\okID (.int v)=true):=by
 have ed:=JC c q hq.1 (by omega);have em:=JD (c/q) 48271 (by decide);obtain⟨M,mx,hM,hM5⟩:∃ M:Int,maxD (.int (n:Int)) (.int 1)=some (.int M)/\0<M/\M<=5:=by
  refine⟨_,W6 n 1,?_,?_⟩<;>omega
 have ep:=De (c/q*48271) M hM;have p0:0<=c/q*48271%M:=z19 _ (by omega);have p1:c/q*48271%M<M:=z1o _ hM;have okp:okID (.int (c/q*48271%M))=true:=QT (by
  generalize c/q*48271%M=p at p0 p1;have:p.natAbs<5:=by omega
  exact z0m this (by decide +kernel))
 generalize hP:c/q*48271%M=P at *;have r0:0<=c%10000000000000000000000000000000000000000:=z19 _ (by decide);have r1:c%10000000000000000000000000000000000000000<10000000000000000000000000000000000000000:=z1o _ (by decide);have e40:=De c 10000000000000000000000000000000000000000 (by decide);generalize hR:c%10000000000000000000000000000000000000000=R at *;obtain⟨v,mv,ev⟩:=xq [0,1,2,3,4,5,6,7,(n:Int),10000000000000000000000000000000000000000+R,-1-R] (c/q) 11 rfl (by simp);have okv:okID (.int v)=true:=QT (by
  have:v.natAbs<100000000000000000000000000000000000000000:=by
   simp at mv;omega
  exact z0m this (by decide +kernel))
 simp only[z03,z0q] at ev;generalize hN:c/q%11=N at *;have em11:modD (.int (c/q)) (.int 11)=some (.int N):=by rw[<-hN];exact De _ _ (by decide)
 have pk (v:Int):Dc (.dk (eH l)) (.str x) (.int v)=some (.dk (eH (l++[(x,v)]))):=by
  delta eH;rw[Kv _ _ _ (by simp;omega),putL_new (Jw D.int nx)];simp
 have go:∃ l' z7',BP [.fz (.int c),.fz (.int k),.fz (.lst (ns.map .str)),.fz (.int (n:Int)),.ow (.dk (eH l)),.fz (.int (i:Int)),z6,z7]=some (.nx [.fz (.int c),.fz (.int k),.fz (.lst (ns.map .str)),.fz (.int (n:Int)),.ow (.dk (eH l')),.fz (.int (i:Int)),.fz (.int N),.fz (.int z7')])/\(l'=l∨∃ v,l'=l++[(x,v)]/\okID (.int v)=true):=by
  by_cases h1:k/2%2=1
  ·by_cases h2:4<N
   ·skip
    by_cases h3:k%2=0
    ·exact⟨l++[(x,v)],v,by simp only[diK,BP,Hx,hi,ed,em,em11,mx,ep,O4,e40,ev,hx,pk,Hq,FQ,CP,h1,h2,h3],.inr ⟨_,rfl,okv⟩⟩
    ·by_cases h4:0<N%3
     ·exact⟨l++[(x,v)],v,by simp only[diK,BP,Hx,hi,ed,em,em11,mx,ep,O4,e40,ev,hx,pk,Hq,FQ,CP,h1,h2,h3,h4],.inr ⟨_,rfl,okv⟩⟩
     ·exact⟨l,v,by simp only[diK,BP,Hx,hi,ed,em,em11,mx,ep,O4,e40,ev,hx,pk,Hq,FQ,CP,h1,h2,h3,h4],.inl rfl⟩
   ·skip
    by_cases h3:k%2=0
    ·exact⟨l++[(x,P)],P,by simp only[diK,BP,Hx,hi,ed,em,em11,mx,ep,O4,e40,ev,hx,pk,Hq,FQ,CP,h1,h2,h3],.inr ⟨_,rfl,okp⟩⟩
    ·by_cases h4:0<N%3
     ·exact⟨l++[(x,P)],P,by simp only[diK,BP,Hx,hi,ed,em,em11,mx,ep,O4,e40,ev,hx,pk,Hq,FQ,CP,h1,h2,h3,h4],.inr ⟨_,rfl,okp⟩⟩
     ·exact⟨l,P,by simp only[diK,BP,Hx,hi,ed,em,em11,mx,ep,O4,e40,ev,hx,pk,Hq,FQ,CP,h1,h2,h3,h4],.inl rfl⟩
  ·skip
   by_cases h3:k%2=0
   ·exact⟨l++[(x,P)],P,by simp only[diK,BP,Hx,hi,ed,em,em11,mx,ep,O4,e40,ev,hx,pk,Hq,FQ,CP,h1,h3],.inr ⟨_,rfl,okp⟩⟩
   ·by_cases h4:0<N%3
    ·exact⟨l++[(x,P)],P,by simp only[diK,BP,Hx,hi,ed,em,em11,mx,ep,O4,e40,ev,hx,pk,Hq,FQ,CP,h1,h3,h4],.inr ⟨_,rfl,okp⟩⟩
    ·exact⟨l,P,by simp only[diK,BP,Hx,hi,ed,em,em11,mx,ep,O4,e40,ev,hx,pk,Hq,FQ,CP,h1,h3,h4],.inl rfl⟩
 obtain⟨l',z7',e,h⟩:=go;exact⟨l',_,_,e,h⟩
theorem fj (c k:Int) (a b d:Str) (nd:[a,b,d].Nodup) (n:Nat) (hn:n<=5):∃ l,HN [.int c,.int k,.lst ([a,b,d].map .str),.int (n:Int)]=some (.dk (eH l))/\∀ p∈l,okID (.int p.2)=true:=by
 have rg:=JW 3 (by decide);have r3:rngD (3:Int).toNat=[.int ((0:Nat):Int),.int ((1:Nat):Int),.int ((2:Nat):Int)]:=by rfl
 rw[r3] at rg;simp only[z1i,z0d,List.not_mem_nil,or_false,not_or] at nd;obtain⟨l1,z6,z7,e1,h1⟩:=QV c k [a,b,d] n hn 0 1 (by decide) a (ix0 _ _) (ix0 _ _) [] (by simp) (by simp) .un .un;have k1:∀ y∈l1.map (·.1),y=a:=by
  rcases h1 with rfl | ⟨v,rfl,_⟩<;>simp
 have o1:∀ p∈l1,okID (.int p.2)=true:=by
  rcases h1 with rfl | ⟨v,rfl,ov⟩
  ·simp
  ·intro p hp;simp at hp;subst hp;exact ov
 have n1:l1.length<=1:=by rcases h1 with rfl | ⟨v,rfl,_⟩<;>simp
 obtain⟨l2,y6,y7,e2,h2⟩:=QV c k [a,b,d] n hn 1 11 (by decide) b (ix1 _ _ _) (ix1 _ _ _) l1 (by omega) (λ h=>nd.1.1 (k1 b h).symm) z6 z7;have k2:∀ y∈l2.map (·.1),y=a∨y=b:=by
  rcases h2 with rfl | ⟨v,rfl,_⟩
  ·exact λ y hy=>.inl (k1 y hy)
  ·intro y hy;rw[z0H] at hy
   rcases z0p.mp hy with hy | hy
   ·exact .inl (k1 y hy)
   ·simp at hy;exact .inr hy
 have o2:∀ p∈l2,okID (.int p.2)=true:=by
  rcases h2 with rfl | ⟨v,rfl,ov⟩
  ·exact o1
  ·intro p hp
   rcases z0p.mp hp with hp | hp
   ·exact o1 p hp
   ·simp at hp;subst hp;exact ov
 have n2:l2.length<=2:=by
  rcases h2 with rfl | ⟨v,rfl,_⟩
  ·omega
  ·simp;omega
 obtain⟨l3,x6,x7,e3,h3⟩:=QV c k [a,b,d] n hn 2 121 (by decide) d (ix2 _ _ _ _) (ix2 _ _ _ _) l2 (by omega) (λ h=>by
  rcases k2 d h with z | z
  ·exact nd.1.2 z.symm
  ·exact nd.2.1 z.symm) y6 y7
 have o3:∀ p∈l3,okID (.int p.2)=true:=by
  rcases h3 with rfl | ⟨v,rfl,ov⟩
  ·exact o2
  ·intro p hp
   rcases z0p.mp hp with hp | hp
   ·exact o2 p hp
   ·simp at hp;subst hp;exact ov
 refine⟨l3,?_,o3⟩;have eh:D.dk []=.dk (eH []):=rfl;simp only[cK,HN,Jc,H_,GK,eh,rg];simp only[z03,z0q] at e1 e2 e3;simp only[cK,e1,e2,e3,Sh,My,Sg]
theorem Z3 {x:Str}(h:IsL x) (hl:x.length<=8):okSD (.str x)=true:=by
 show (decide (x.length<=100000)&&x.cps.toList.all λ c=>decide (c<4294967296))=true;rw[z0x,z1Q,z0L];refine⟨by omega,λ c hc=>?_⟩;have m:=h c hc;have a:∀ c∈cs LET,c<4294967296:=by decide +kernel
 exact z1m (a c m)
def fake (ms ts:List Str):Wl:={ n:=0,ms:=ms.map λ w=>(w,[]),ts:=ts.map λ w=>(w,[]) }
theorem mz (ms ts:List Str):(fake ms ts).ms.map (·.1)=ms:=by simp[fake,Function.comp_def]
theorem m7 (ms ts:List Str):(fake ms ts).ts.map (·.1)=ts:=by simp[fake,Function.comp_def]
theorem T8 (W:Wl) (ms ts:List Str):∀ s:Sy,KnS (fake ms ts) s->∀ w∈bw W s,w∈ms∨w∈ts
 | .fa (.mk w x),h,y,hy=>by
  have h':w∈(fake ms ts).ms.map (·.1):=h;rw[mz] at h';simp only[bw,bwF] at hy;split at hy
  ·cases hy
  ·simp at hy;subst hy;exact .inl h'
 | .fa (.ti w x z),h,y,hy=>by
  have h':w∈(fake ms ts).ts.map (·.1):=h;rw[m7] at h';simp only[bw,bwF] at hy;split at hy
  ·cases hy
  ·simp at hy;subst hy;exact .inr h'
 | .fa (.sa x z),h,y,hy=>by cases hy
 | .no s,h,y,hy=>T8 W ms ts s h y hy
 | .bo _ s t,h,y,hy=>(z0p.mp hy).elim (T8 W ms ts s h.1 y) (T8 W ms ts t h.2 y)
 | .qu _ _ s,h,y,hy=>T8 W ms ts s h y hy
theorem ten9:powD (.int 10) (.int 9)=some (.int 1000000000):=by rfl
theorem tM:powD (.int 10) (.int 50)=some (.int 100000000000000000000000000000000000000000000000000):=by rfl
theorem xr (i j:Int):eqF false (.int i) (.int j)=some (.bl (decide (i=j))):=zE_ _
theorem v7 (l:List (Str×Int)):eqF true (.dk (eH l)) (.dk (eH l))=some (.bl false):=by
 show (dkEq (eH l) (eH l)).map _=_;rw[fJ (by
  intro p hp;obtain⟨u,_,rfl⟩:=z07.mp hp;exact⟨u.2,rfl⟩)]
 rfl
theorem m8 (i:Int):minD (.int i) (.int 2)=some (.int (if (2:Int)<i then 2 else i)):=zE_ _
theorem m9 {α:Type}(l:List α) (lo hi:Option Int):∀ x∈cutD l lo hi,x∈l:=by
 intro x hx;unfold cutD at hx;exact List.mem_of_mem_drop (List.mem_of_mem_take hx)
theorem m_ (ns:List Int) (hl:ns.length<=63) (hb:∀ i∈ns,Builtin.Int.intBits i<=1048576):VJ [.lst (ns.map .int)]=some (.bl true):=by
 obtain⟨i0,c0,_⟩:=cell_in ns 0;obtain⟨i1,c1,_⟩:=cell_in ns 1;obtain⟨i2,c2,b2'⟩:=cell_in ns 2;obtain⟨i3,c3,_⟩:=cell_in ns 3;obtain⟨i4,c4,_⟩:=cell_in ns 4;have hb2:Builtin.Int.intBits i2<=1048576:=by
  rcases b2' with z | z
  ·subst z;decide
  ·exact hb i2 z
 obtain⟨ws,ew,lw,hws,ndw⟩:=lY i0;obtain⟨xs,en,lx,hxs,ndx⟩:=names3 i3;obtain⟨W,eW,hW⟩:=mF i1 i2 hb2 ws lw hws ndw;have es:slD (.lst (ns.map .int)) (some 5) (some 50)=some (.lst ((cutD ns (some 5) (some 50)).map .int)):=congrArg (λ z=>some (D.lst z)) (XD D.int ns (some 5) (some 50));have lc:(cutD ns (some 5) (some 50)).length<=45:=by
  unfold cutD HT.sIx;simp;omega
 generalize cutD ns (some 5) (some 50)=r at es lc;have lM':=q_ W.ms;have lT':=rB W.ts;replace c0:BW [.lst (ns.map .int),.int 0]=some (.int i0):=c0;replace c1:BW [.lst (ns.map .int),.int 1]=some (.int i1):=c1;replace c2:BW [.lst (ns.map .int),.int 2]=some (.int i2):=c2;replace c3:BW [.lst (ns.map .int),.int 3]=some (.int i3):=c3;replace c4:BW [.lst (ns.map .int),.int 4]=some (.int i4):=c4;have g1':An (Et) (Aa (An (BW) (Aa (vF 0) (Aa (kF (.int 1)) (nilA)))) (Aa (An (BW) (Aa (vF 0) (Aa (kF (.int 2)) (nilA)))) (Aa (vF 1) (nilA)))) [.fz (.lst (ns.map .int)),.fz (.lst (ws.map .str)),.un,.un,.un,.un,.un,.un,.un,.un,.un,.un,.un,.un,.un,.un]=some (.lst [.int (W.n:Int),.dk (eM W.ms),.dk (eT W.ts)]):=by
  simp only[cK,c1,c2,eW]
 have q:=asg3 _ _ _ _ 2 3 4 _ g1';simp only[z0n,z0o] at q
 match xs,lx,en,hxs,ndx with
 | [a,b,d],_,en,hxs,ndx=>
  obtain⟨l,eh,ol⟩:=fj (i4/8%1000000000) i4 a b d ndx W.n hW.n5;have on:∀ x∈[a,b,d],okSD (.str x)=true:=λ x hx=>Z3 (hxs x hx).isL (by have:=(hxs x hx).len;omega);have wM:∀ w∈W.ms.map (·.1),Wd w:=by
   intro w hw;obtain⟨p,hp,rfl⟩:=z07.mp hw;exact hW.mw p hp
  have wT:∀ w∈W.ts.map (·.1),Wd w:=by
   intro w hw;obtain⟨p,hp,rfl⟩:=z07.mp hw;exact hW.tw p hp
  have s1:slD (.lst (ws.map .str)) (some 1) (some 4)=some (.lst ((cutD ws (some 1) (some 4)).map .str)):=congrArg (λ z=>some (D.lst z)) (XD D.str ws (some 1) (some 4));have s2:slD (.lst (ws.map .str)) (some 2) (some 5)=some (.lst ((cutD ws (some 2) (some 5)).map .str)):=congrArg (λ z=>some (D.lst z)) (XD D.str ws (some 2) (some 5));have w1:∀ w∈cutD ws (some 1) (some 4),Wd w:=λ w hw=>hws w (m9 _ _ _ w hw);have w2:∀ w∈cutD ws (some 2) (some 5),Wd w:=λ w hw=>hws w (m9 _ _ _ w hw);have t1:(cutD ws (some 1) (some 4)).length<=6:=by rw[<-lw];delta cutD;rw[z0V,z1c];omega
  have t2:(cutD ws (some 2) (some 5)).length<=6:=by rw[<-lw];delta cutD;rw[z0V,z1c];omega
  generalize cutD ws (some 1) (some 4)=wa at s1 w1 t1;generalize cutD ws (some 2) (some 5)=wb at s2 w2 t2;have a1:=O2 (W.ms.map (·.1)) wa (by have:=hW.m3;simp;omega);have a2:=O2 wb (W.ts.map (·.1)) (by have:=hW.t3;simp;omega);have em:=JD i3 1000000007 (by decide);have o0:0<=i3*1000000007%2147483647%6:=z19 _ (by decide);have em2:modD (.int (i3*1000000007)) (.int 2147483647)=some (.int (i3*1000000007%2147483647)):=De _ _ (by decide);have em3:modD (.int (i3*1000000007%2147483647)) (.int 6)=some (.int (i3*1000000007%2147483647%6)):=De _ _ (by decide);generalize i3*1000000007%2147483647%6=way at o0 em3;have dc:bI (.dk (eH l))=some (.dk (eH l)):=rfl;have E:=v7 l;have md:=q9 (i4%100000000000000000000000000000000000000000000000000) (QT (by
   have h0:0<=i4%100000000000000000000000000000000000000000000000000:=z19 _ (by decide);have h1:i4%100000000000000000000000000000000000000000000000000<100000000000000000000000000000000000000000000000000:=z1o _ (by decide);generalize i4%100000000000000000000000000000000000000000000000000=u at h0 h1;have:u.natAbs<100000000000000000000000000000000000000000000000000:=by omega
   exact z0m this (by decide +kernel)))
  have al:=mR W hW [a,b,d] (by simp) [] .non (.inr ⟨rfl,rfl⟩) (λ _=>0) (.qu false a (.fa (.sa a a))) trivial (by intro x hx;simp[nms] at hx;subst hx;simp) (by simp[hgt]) (by simp[dpt]) (by intro x hx;simp[fr,nms] at hx);generalize tru W (λ _=>0) (.qu false a (.fa (.sa a a)))=tb at al;replace al:Ce [wob W,.tup [.str "all",.str a,.tup [.str "same",.str a,.str a]],.non]=some (.bl tb):=al;have nx:noX Ce [wob W,.tup [.str "all",.str a,.tup [.str "same",.str a,.str a]],.non]=some (.bl tb):=by
   delta noX;rw[al];rfl
  have ib:=isb tb;have n0:=xr (i4/4%2) 1;have rest:∀ (ms ts:List Str),(∀ w∈ms,Wd w)->(∀ w∈ts,Wd w)->∃ s,Gp [.lst (r.map .int),.lst (ms.map .str),.lst (ts.map .str),.lst ([a,b,d].map .str),.int 3]=some (sd s)/\(∀ l,(∀ p∈l,okID (.int p.2)=true)->Hn W [a,b,d] l s):=by
   intro ms ts hm ht;obtain⟨s,e1,g1,h1,h2⟩:=mV (fake ms ts) [a,b,d] rfl 3 r (by omega);rw[mz,m7] at e1;refine⟨s,e1,λ l hl=>⟨g1.am,by omega,by have:=g1.dp;omega,by omega,λ w hw=>?_,on,hl⟩⟩
   rcases T8 W ms ts s g1.kn w hw with z | z
   ·exact Z3 (hm w z).isL (hm w z).hi
   ·exact Z3 (ht w z).isL (ht w z).hi
  have tail:∀ (s:Sy),(∀ l,(∀ p∈l,okID (.int p.2)=true)->Hn W [a,b,d] l s)->∃ mi z du ca,minD (.int way) (.int 2)=some (.int mi)/\ixE (.lst [.dk [],.dk [],.dk (eH l)]) (.int mi)=some z/\Ek [encS s,z,.int (W.n:Int),.dk (eM W.ms),.dk (eT W.ts)]=some du/\CZ [.int way,wob W,encS s,.dk (eH l)]=some ca/\CG [ca,du]=some (.bl true):=by
   intro s hs;have H0:=hs [] (by simp);have H1:=hs l ol
   by_cases z0:way=0
   ·subst z0;exact⟨0,.dk (eH []),due W [] s,cau (out W [] s),m8 0,ix0 _ _,Zw W [a,b,d] (by simp) [] s H0,mY _ _ _ _ (T7 W [] s) (Zv W hW [a,b,d] (by simp) [] s H0 .non (.inr ⟨rfl,rfl⟩)),W_ W [] s⟩
   ·by_cases z1:way=1
    ·subst z1;exact⟨1,.dk (eH []),due W [] s,cau (out W [] s),m8 1,ix1 _ _ _,Zw W [a,b,d] (by simp) [] s H0,mZ _ _ _ _ (T7 W [] s) (Zv W hW [a,b,d] (by simp) [] s H0 .non (.inr ⟨rfl,rfl⟩)),W_ W [] s⟩
    ·have m2:minD (.int way) (.int 2)=some (.int 2):=by
      rw[m8]
      by_cases z:(2:Int)<way
      ·rw[if_pos z]
      ·rw[if_neg z,show way=2 by omega]
     exact⟨2,.dk (eH l),due W l s,cau (out W l s),m2,ix2 _ _ _ _,Zw W [a,b,d] (by simp) l s H1,mj way (by omega) _ _ _ _ (T7 W l s) (Zv W hW [a,b,d] (by simp) l s H1 _ (.inl rfl)),W_ W l s⟩
  have ea:ixE (.lst ([a,b,d].map .str)) (.int 0)=some (.str a):=ix0 _ _
  by_cases hk:i4/4%2=1
  ·rw[z1m hk] at n0;obtain⟨s,e1,hs⟩:=rest (W.ms.map (·.1)++wa) (wb++W.ts.map (·.1)) (λ w hw=>(z0p.mp hw).elim (wM w) (w1 w)) (λ w hw=>(z0p.mp hw).elim (w2 w) (wT w));obtain⟨mi,z,du,ca,p1,p2,p3,p4,p5⟩:=tail s hs;have mk:=sY W hW (Aa (vF 2) (Aa (vF 3) (Aa (vF 4) (nilA)))) [.fz (.lst (ns.map .int)),.fz (.lst (ws.map .str)),.fz (.int (W.n:Int)),.fz (.dk (eM W.ms)),.fz (.dk (eT W.ts)),.fz (.lst ([a,b,d].map .str)),.fz (.int i4),.fz (.dk (eH l)),.fz (.lst ((W.ms.map (·.1)++wa).map .str)),.fz (.lst ((wb++W.ts.map (·.1)).map .str)),.fz (encS s),.un,.un,.un,.un,.un] (by rfl);generalize [a,b,d].map D.str=nl at *;simp only[ciK,VJ,cR,c0,ew,q,c3,en,c4,ten9,eh,es,lM',lT',n0,s1,s2,a1,a2,e1,sd0,mk,dc,em,em2,em3,p1,p2,p3,p4,p5,E,ea,tM,md,nx,ib]
  ·rw[z0J hk] at n0;obtain⟨s,e1,hs⟩:=rest (W.ms.map (·.1)) (W.ts.map (·.1)) wM wT;obtain⟨mi,z,du,ca,p1,p2,p3,p4,p5⟩:=tail s hs;have mk:=sY W hW (Aa (vF 2) (Aa (vF 3) (Aa (vF 4) (nilA)))) [.fz (.lst (ns.map .int)),.fz (.lst (ws.map .str)),.fz (.int (W.n:Int)),.fz (.dk (eM W.ms)),.fz (.dk (eT W.ts)),.fz (.lst ([a,b,d].map .str)),.fz (.int i4),.fz (.dk (eH l)),.fz (.lst ((W.ms.map (·.1)).map .str)),.fz (.lst ((W.ts.map (·.1)).map .str)),.fz (encS s),.un,.un,.un,.un,.un] (by rfl);generalize [a,b,d].map D.str=nl at *;simp only[ciK,VJ,cR,c0,ew,q,c3,en,c4,ten9,eh,es,lM',lT',n0,s1,s2,a1,a2,e1,sd0,mk,dc,em,em2,em3,p1,p2,p3,p4,p5,E,ea,tM,md,nx,ib]
end K16
end
open PySem PySem.W PyProof.Rows
theorem L2.head_at {r:OpenRow}{q:Program}{d:DefRec}{kwd:List (Str×Expr)}{N:Nat}(H:Hook)
  (l1:LeftO r.prog q loose (λ s=>xlAt q [] s&&recOk r.records s) H.obs H.val N)
  (e1:defOf q r.name=some (d,kwd)) (e2:r.prog.theDef r.name=some (d.params,d.body,d.scope)) (e3:kwWritten? d.params.kwonlyargs d.params.kw_defaults=some kwd)
  (e4:(!r.writes||r.records.isEmpty)=true) (e5:r.wellSaid=true) (e6:(chainsOk q&&opensWell r.prog&&(frees r.toRowW&&r.within.isEmpty))=true) (e7:r.prog.bare) (e8:r.toRowW.promised)
  (e9:WalkO q loose (XL q []) H.says r.toRowW d kwd λ f vs=>PySem.call f vs):r.Holds:=
 holds_open (XP:=XL q []) l1 H.of H.keeps (λ s e=>xl_of s (Bool.and_eq_true_iff.mp e).1) XL.keeps e1 e2 e3 (λ _ e=>recFacts_of (Bool.and_eq_true_iff.mp e).2) e4 e5 e6 e7 e8 e9
set_option maxHeartbeats 0 in
theorem PySem.Challenge.cw_twinrounds_k16_no_name_thing_word_holds : PySem.Challenge.rw_twinrounds_k16_no_name_thing_word.Holds := by
 w_on;o_law;refine L2.head_at (q:=K16.vw) (loose:=[Str.ofString "is_so"]) (N:=6000) K16.hook K16.look (by rfl) (by rfl) (by rfl) (by rfl) (by assumption) (by decide +kernel) ⟨rfl,rfl,rfl,rfl,rfl,by decide +kernel⟩ ?_ ?_
 ·w_witness2
 delta K16.hook
 k_fill
 refine PV.j5 (l:=PySem.Challenge.rw_twinrounds_k16_no_name_thing_word) (n:=63) (k:=125) (x:="_law_script") (CX:=λ _=>L2.CX0) (sp:=λ w=>K16.sV _) rfl (by decide) rfl ⟨rfl,by decide,by decide⟩ (λ w h Y=>PySem.W.kIn_of Y) ?F (λ _ _ a ns hl hbt _ hS=>⟨a,ns,rfl,hS,hl,hbt,λ _=>rfl⟩) λ _ _ _ _ _ z=>z
 case F=>
  intro w mg fa h KX G hmg;have TT:∃ C_World:Addr,∃ l:List (Str×Addr),∃ T:K16.Tx (K16.gx (L2.KOf KX) C_World l) mg,∀ (s:Shared) (u:Value),BindsTo s T.x_law.fd ⟨[u],[]⟩ [("_law_script",u)]:=by
   dsimp only [L2.KOf];refine' ⟨_,[("NoWord",_),("NoThing",_),("NoName",_),("TooGreat",_),("NoSaying",_),("Unlike",_),("NoPointing",_)],{ C_World:=_,gc_World:=PV.vN,cl_World:=(PV.cls KX ?pg_World ?hd_World ?po_World ?sa_World :),mC_World:=z10 KX G ?aC_World,x__law_words:=(PV.dx KX G ?a0 ?l0 ?c0 ?k0 ?b0 :),x__law_world:=(PV.dx KX G ?a1 ?l1 ?c1 ?k1 ?b1 :),x__law_names:=(PV.dx KX G ?a2 ?l2 ?c2 ?k2 ?b2 :),x__law_cell:=(PV.dx KX G ?a3 ?l3 ?c3 ?k3 ?b3 :),x__law_handed:=(PV.dx KX G ?a4 ?l4 ?c4 ?k4 ?b4 :),x_refuse_above:=(PV.dx KX G ?a5 ?l5 ?c5 ?k5 ?b5 :),x_refuse_no_thing:=(PV.dx KX G ?a6 ?l6 ?c6 ?k6 ?b6 :),x_kept_things:=(PV.dx KX G ?a7 ?l7 ?c7 ?k7 ?b7 :),x_kept_pairs:=(PV.dx KX G ?a8 ?l8 ?c8 ?k8 ?b8 :),x_is_word:=(PV.dx KX G ?a9 ?l9 ?c9 ?k9 ?b9 :),x_World___init__:=(PV.ix KX ?mk_World ?kc_World ?a10 ?i10 ?l10 ?c10 ?k10 ?b10 :),x__law_bad_words:=(PV.dx KX G ?a11 ?l11 ?c11 ?k11 ?b11 :),x__law_free:=(PV.dx KX G ?a12 ?l12 ?c12 ?k12 ?b12 :),x__law_due:=(PV.dx KX G ?a13 ?l13 ?c13 ?k13 ?b13 :),x__law_atom:=(PV.dx KX G ?a14 ?l14 ?c14 ?k14 ?b14 :),x__law_built:=(PV.dx KX G ?a15 ?l15 ?c15 ?k15 ?b15 :),x__law_good:=(PV.dx KX G ?a16 ?l16 ?c16 ?k16 ?b16 :),x__law_made:=(PV.dx KX G ?a17 ?l17 ?c17 ?k17 ?b17 :),x_sayings_in:=(PV.dx KX G ?a18 ?l18 ?c18 ?k18 ?b18 :),x_names_in:=(PV.dx KX G ?a19 ?l19 ?c19 ?k19 ?b19 :),x_free_names:=(PV.dx KX G ?a20 ?l20 ?c20 ?k20 ?b20 :),x_refuse_unplaced:=(PV.dx KX G ?a21 ?l21 ?c21 ?k21 ?b21 :),x_refuse_strange_words:=(PV.dx KX G ?a22 ?l22 ?c22 ?k22 ?b22 :),x_pairs_of:=(PV.dx KX G ?a23 ?l23 ?c23 ?k23 ?b23 :),x_fact_cases:=(PV.dx KX G ?a24 ?l24 ?c24 ?k24 ?b24 :),x_repeated:=(PV.dx KX G ?a25 ?l25 ?c25 ?k25 ?b25 :),x_every_case:=(PV.dx KX G ?a26 ?l26 ?c26 ?k26 ?b26 :),x_widened:=(PV.dx KX G ?a27 ?l27 ?c27 ?k27 ?b27 :),x_bound_cases:=(PV.dx KX G ?a28 ?l28 ?c28 ?k28 ?b28 :),x_cases_so:=(PV.dx KX G ?a29 ?l29 ?c29 ?k29 ?b29 :),x_is_so:=(PV.dxD KX G ?a30 ?l30 ?c30 ?k30 ?b30 :),y_is_so:=(PV.yx KX ?y30 :),x__law_caught:=(PV.dx KX G ?a31 ?l31 ?c31 ?k31 ?b31 :),x_law:=(PV.dx KX G ?a32 ?l32 ?c32 ?k32 ?b32 :),fl_size:=(PV.Zc KX (PV.cls KX ?pg_World ?hd_World ?po_World ?sa_World) ?n_World_size :),fl_marked:=(PV.Zc KX (PV.cls KX ?pg_World ?hd_World ?po_World ?sa_World) ?n_World_marked :),fl_tied:=(PV.Zc KX (PV.cls KX ?pg_World ?hd_World ?po_World ?sa_World) ?n_World_tied :),z_ValueError:=z0T KX G ?z_ValueError,z_all:=z0T KX G ?z_all,z_bool:=z0T KX G ?z_bool,z_dict:=z0T KX G ?z_dict,z_isinstance:=z0T KX G ?z_isinstance,z_len:=z0T KX G ?z_len,z_list:=z0T KX G ?z_list,z_max:=z0T KX G ?z_max,z_min:=z0T KX G ?z_min,z_range:=z0T KX G ?z_range,z_set:=z0T KX G ?z_set,z_sorted:=z0T KX G ?z_sorted,s_MOST_LETTERS:=(PV.sx (f:=(.int 8)) KX G ?a_MOST_LETTERS :),s_LETTERS:=(PV.sx (f:=(.str "abcdefghijklmnopqrstuvwxyz")) KX G ?a_LETTERS :),s_MOST_THINGS:=(PV.sx (f:=(.int 5)) KX G ?a_MOST_THINGS :),s_MOST_WORDS:=(PV.sx (f:=(.int 3)) KX G ?a_MOST_WORDS :),c_KEPT_TEXTS:=(PV.kx2 (xs:=["not","and","or","some","all"]) KX G ?a_KEPT_TEXTS ?l_KEPT_TEXTS ?h_KEPT_TEXTS ?v_KEPT_TEXTS :),c_FACTS:=(PV.kx2 (xs:=["mark","tie","same"]) KX G ?a_FACTS ?l_FACTS ?h_FACTS ?v_FACTS :),c_BINDERS:=(PV.kx2 (xs:=["some","all"]) KX G ?a_BINDERS ?l_BINDERS ?h_BINDERS ?v_BINDERS :),r:=(PV.rx KX G ?rA ?rE ?r1 ?r2 ?r3 :),xt:=(PV.qX KX ?xt :),e_NoWord:=(PV.xx KX G ?eA_NoWord ?eg_NoWord (PV.S7 ?xt ?eg_NoWord) ?hi_NoWord ?ii_NoWord ?kp_NoWord ?na_NoWord ?el_NoWord ?ec_NoWord ?ek_NoWord ?eb_NoWord :),e_NoThing:=(PV.xx KX G ?eA_NoThing ?eg_NoThing (PV.S7 ?xt ?eg_NoThing) ?hi_NoThing ?ii_NoThing ?kp_NoThing ?na_NoThing ?el_NoThing ?ec_NoThing ?ek_NoThing ?eb_NoThing :),e_NoName:=(PV.xx KX G ?eA_NoName ?eg_NoName (PV.S7 ?xt ?eg_NoName) ?hi_NoName ?ii_NoName ?kp_NoName ?na_NoName ?el_NoName ?ec_NoName ?ek_NoName ?eb_NoName :),e_TooGreat:=(PV.xx2 KX G ?eA_TooGreat ?eg_TooGreat (PV.S7 ?xt ?eg_TooGreat) ?hi_TooGreat ?ii_TooGreat ?kp_TooGreat ?na_TooGreat ?nb_TooGreat ?el_TooGreat ?ec_TooGreat ?ek_TooGreat ?eb_TooGreat :),e_NoSaying:=(PV.xx KX G ?eA_NoSaying ?eg_NoSaying (PV.S7 ?xt ?eg_NoSaying) ?hi_NoSaying ?ii_NoSaying ?kp_NoSaying ?na_NoSaying ?el_NoSaying ?ec_NoSaying ?ek_NoSaying ?eb_NoSaying :),e_Unlike:=(PV.xx0 KX G ?eA_Unlike ?eg_Unlike (PV.S7 ?xt ?eg_Unlike) ?hi_Unlike ?kp_Unlike :),e_NoPointing:=(PV.xx0 KX G ?eA_NoPointing ?eg_NoPointing (PV.S7 ?xt ?eg_NoPointing) ?hi_NoPointing ?kp_NoPointing :),a_RoundError:=(PV.ax KX G ?sA_RoundError :),k_0:=(PV.Ih KX ?k0a :),k_1:=(PV.Ih KX ?k1a :),k_2:=(PV.Ih KX ?k2a :),k_3:=(PV.Ih KX ?k3a :),k_4:=(PV.Ih KX ?k4a :),k_5:=(PV.Ih KX ?k5a :),k_6:=(PV.Ih KX ?k6a :),nf_name:=(PV.Ls KX ?nf_name :),nf_thing:=(PV.Ls KX ?nf_thing :),nf_word:=(PV.Ls KX ?nf_word :),nf_number:=(PV.Ls KX ?nf_number :),nf_most:=(PV.Ls KX ?nf_most :),nf_line:=(PV.Ls KX ?nf_line :) },?bt⟩
   case aC_World | pg_World | hd_World | po_World | sa_World | mk_World | kc_World | n_World_size | n_World_marked | n_World_tied | a0 | l0 | c0 | k0 | a1 | l1 | c1 | k1 | a2 | l2 | c2 | k2 | a3 | l3 | c3 | k3 | a4 | l4 | c4 | k4 | a5 | l5 | c5 | k5 | a6 | l6 | c6 | k6 | a7 | l7 | c7 | k7 | a8 | l8 | c8 | k8 | a9 | l9 | c9 | k9 | a10 | i10 | l10 | c10 | k10 | a11 | l11 | c11 | k11 | a12 | l12 | c12 | k12 | a13 | l13 | c13 | k13 | a14 | l14 | c14 | k14 | a15 | l15 | c15 | k15 | a16 | l16 | c16 | k16 | a17 | l17 | c17 | k17 | a18 | l18 | c18 | k18 | a19 | l19 | c19 | k19 | a20 | l20 | c20 | k20 | a21 | l21 | c21 | k21 | a22 | l22 | c22 | k22 | a23 | l23 | c23 | k23 | a24 | l24 | c24 | k24 | a25 | l25 | c25 | k25 | a26 | l26 | c26 | k26 | a27 | l27 | c27 | k27 | a28 | l28 | c28 | k28 | a29 | l29 | c29 | k29 | a30 | l30 | c30 | k30 | a31 | l31 | c31 | k31 | a32 | l32 | c32 | k32 | z_ValueError | z_all | z_bool | z_dict | z_isinstance | z_len | z_list | z_max | z_min | z_range | z_set | z_sorted | a_MOST_LETTERS | a_LETTERS | a_MOST_THINGS | a_MOST_WORDS | a_KEPT_TEXTS | l_KEPT_TEXTS | a_FACTS | l_FACTS | a_BINDERS | l_BINDERS | rA | eA_NoWord | hi_NoWord | ii_NoWord | kp_NoWord | el_NoWord | ec_NoWord | ek_NoWord | eA_NoThing | hi_NoThing | ii_NoThing | kp_NoThing | el_NoThing | ec_NoThing | ek_NoThing | eA_NoName | hi_NoName | ii_NoName | kp_NoName | el_NoName | ec_NoName | ek_NoName | eA_TooGreat | hi_TooGreat | ii_TooGreat | kp_TooGreat | el_TooGreat | ec_TooGreat | ek_TooGreat | eA_NoSaying | hi_NoSaying | ii_NoSaying | kp_NoSaying | el_NoSaying | ec_NoSaying | ek_NoSaying | eA_Unlike | hi_Unlike | kp_Unlike | eA_NoPointing | hi_NoPointing | kp_NoPointing | sA_RoundError=>k_is
   case b0 | b2 | b9 | b12 | b17 | b18 | b19 | b20 | b26 | b32=>exact λ _ _ _ _ _ _ us hl=>by (obtain⟨_,rfl⟩:=PV.sI hl;rfl)
   case b3 | b5 | b6 | b7 | b8 | b16 | b22 | b23 | eb_NoWord | eb_NoThing | eb_NoName | eb_NoSaying=>exact λ _ _ _ _ _ _ us hl=>by (obtain⟨_,_,rfl⟩:=PV.sJ hl;rfl)
   case b1 | b11 | b21 | b24 | b25 | eb_TooGreat=>exact λ _ _ _ _ _ _ us hl=>by (obtain⟨_,_,_,rfl⟩:=PV.lQ hl;rfl)
   case b4 | b10 | b14 | b27 | b28 | b29 | b31=>exact λ _ _ _ _ _ _ us hl=>by (obtain⟨_,_,_,_,rfl⟩:=PV.sO hl;rfl)
   case b13 | b15=>exact λ _ _ _ _ _ _ us hl=>by (obtain⟨_,_,_,_,_,rfl⟩:=PV.xN hl;rfl)
   case b30=>exact λ s us hK hl=>by (rw[List.append_nil] at hl;obtain⟨_,_,_,rfl⟩:=PV.lQ hl;exact BindsTo.of_defaults rfl (hK _ _ (show List.lookup _ _=some ⟨.type "tuple",_,.seq #[.none] _,_⟩ by k_is)) rfl rfl rfl)
   case h_KEPT_TEXTS=>decide
   case v_KEPT_TEXTS=>exact .cons ⟨_,rfl⟩ (.cons ⟨_,rfl⟩ (.cons ⟨_,rfl⟩ (.cons ⟨_,rfl⟩ (.cons ⟨_,rfl⟩ (.nil)))))
   case h_FACTS=>decide
   case v_FACTS=>exact .cons ⟨_,rfl⟩ (.cons ⟨_,rfl⟩ (.cons ⟨_,rfl⟩ (.nil)))
   case h_BINDERS=>decide
   case v_BINDERS=>exact .cons ⟨_,rfl⟩ (.cons ⟨_,rfl⟩ (.nil))
   case eg_NoWord=>rfl
   case eg_NoThing=>rfl
   case eg_NoName=>rfl
   case eg_TooGreat=>rfl
   case eg_NoSaying=>rfl
   case eg_Unlike=>rfl
   case eg_NoPointing=>rfl
   case rE | r1 | r2 | r3 | xt | na_NoWord | na_NoThing | na_NoName | na_TooGreat | nb_TooGreat | na_NoSaying | k0a | k1a | k2a | k3a | k4a | k5a | k6a | nf_name | nf_thing | nf_word | nf_number | nf_most | nf_line=>kernel_rfl
   case y30=>exact λ s us hK hl=>by (obtain⟨a,b,rfl⟩:=PV.vD hl;exact BindsTo.of_defaults rfl (hK _ _ (show List.lookup _ _=some ⟨.type "tuple",_,.seq #[.none] _,_⟩ by k_is)) rfl rfl rfl)
   case bt=>exact λ s u=>.of_eq rfl
  obtain⟨C_World,l,T,e1⟩:=TT;have e0:fa=T.x_law.f:=by
   have q:=hmg.symm.trans T.x_law.m;cases q;rfl
  subst e0;exact⟨T.x_law.fd,e1,λ base kb nb=>(K16.vQ (w:=w) (base:=base) T).imp (K16.vR K16.m_)⟩
