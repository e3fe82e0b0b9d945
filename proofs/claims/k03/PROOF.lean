import PyProof.Rows.All
import Wide.All
import OpenK.AllK
import Wide.FinOn
import Lean
import PyProof.EqAt
import PyProof.EqKinds
import PyProof.TupleCall
import PyProof.StationsW
import PyProof.DictWalks
import PyProof.DictItemsLoops
import KE.KPairComp
import KE.KDictList
import PyProof.StrWalks
import PyProof.ConsumeWalk
import PyProof.DictUpdate
import PyProof.ExcClass2
import PyProof.ExcClass3
import PyProof.ExcArgsOwn
import PyProof.ExcAttrAll.ValueError
import PyProof.InstStoreFacts
import PyProof.StrLawsRepr
import PyProof.ReprStr
import PyProof.NsDelKeeps
import PyProof.RulesAs
import KE.KIsAll
import KE.KRevIter
import PyProof.EnumMake
import PyProof.MeetsSeq
import Wide.Txt2
import PyProof.AutoListH
import PySem.Challenge.RW_twinrounds_k03_no_world
set_option compiler.extract_closed false
set_option genSizeOf false
set_option Elab.async false
set_option linter.all false
set_option maxRecDepth 100000
set_option maxHeartbeats 4000000
abbrev zFr:=PySem.W.Frag
abbrev zQ:=PySem.Value->PySem.Shared->Prop
abbrev zP:=List (PySem.Addr×PySem.Obj)
variable {us its:List PySem.Value}{u cd doc pm cdv ct oc:PySem.Value}{a b it p C q:PySem.Addr}{P prog:PySem.Program}{w:PySem.World}{h h':PySem.Heap}{t' i j L ep x1 k' N' L':Nat}{e tg l:PySem.Expr}{pins' π:List (PySem.Addr×PySem.Obj)}{N ns ps ks loose:List PySem.Str}{M:PySem.Model}{A fp B A0:List PySem.Addr}{E:PySem.Value->PySem.Shared->Prop}{s' s:PySem.Shared}{pos pos' xpos apos spos tp:PySem.Pos}{es elts:List PySem.Expr}{n c:Int}{body:List PySem.Stmt}{kw:List (PySem.Str×PySem.Value)}{f m qual cn:PySem.Str}{env:PySem.Env}{mg:PySem.Str->Option PySem.Value}{fd:PySem.FuncData}{outer:List PySem.Env}{sc scope:PySem.Scope}{an od tb:Option PySem.Addr}{osl:Array (Option PySem.Value)}{st:PySem.Stmt}{ms:List (PySem.Str×List Int)}{ts:List (PySem.Str×List (Int×Int))}
theorem z00:type_of%@PySem.wpAny_bind:=@PySem.wpAny_bind
theorem z01:type_of%@List.length_map.{0,0}:=@List.length_map
theorem z02:type_of%@PySem.wpAny_pure:=@PySem.wpAny_pure
theorem z03:type_of%@Nat.le_refl:=@Nat.le_refl
theorem z04:type_of%@List.map_cons.{0,0}:=@List.map_cons
theorem z05:type_of%@PySem.Heap.lt_size:=@PySem.Heap.lt_size
theorem z06:type_of%@List.mem_cons.{0}:=@List.mem_cons
theorem z07:type_of%@List.mem_cons_of_mem.{0}:=@List.mem_cons_of_mem
theorem z08:type_of%@PySem.Heap.get?_push_of_some:=@PySem.Heap.get?_push_of_some
theorem z09:type_of%@List.lookup_cons.{0,0}:=@List.lookup_cons
theorem z0a:type_of%@Option.bind_some.{0,0}:=@Option.bind_some
theorem z0b:type_of%@List.mem_map.{0,0}:=@List.mem_map
theorem z0c:type_of%@List.getElem?_map.{0,0}:=@List.getElem?_map
theorem z0d:type_of%@decide_eq_false:=@decide_eq_false
theorem z0e:type_of%@Nat.ne_of_lt:=@Nat.ne_of_lt
theorem z0f:type_of%@Option.some.inj.{0}:=@Option.some.inj
theorem z0g:type_of%@List.size_toArray.{0}:=@List.size_toArray
theorem z0h:type_of%@decide_eq_true:=@decide_eq_true
theorem z0i:type_of%@List.map_map.{0,0,0}:=@List.map_map
theorem z0j:type_of%@Nat.le_trans:=@Nat.le_trans
theorem z0k:type_of%@List.mem_cons_self.{0}:=@List.mem_cons_self
theorem z0l:type_of%@PySem.Heap.get?_push_size:=@PySem.Heap.get?_push_size
theorem z0m:type_of%@Bool.false_ne_true:=@Bool.false_ne_true
theorem z0n:type_of%@List.getElem?_set_ne.{0}:=@List.getElem?_set_ne
theorem z0o:type_of%@List.length_cons.{0}:=@List.length_cons
theorem z0p:type_of%@beq_eq_false_iff_ne.{0}:=@beq_eq_false_iff_ne
theorem z0q:type_of%@Bool.and_eq_true:=@Bool.and_eq_true
theorem z0r:type_of%@Nat.lt_of_lt_of_le:=@Nat.lt_of_lt_of_le
theorem z0s:type_of%@List.mem_filter.{0}:=@List.mem_filter
theorem z0t:type_of%@List.mem_append_right.{0}:=@List.mem_append_right
theorem z0u:type_of%@beq_iff_eq.{0}:=@beq_iff_eq
theorem z0v:type_of%@List.append_nil.{0}:=@List.append_nil
theorem z0w:type_of%@Option.map_some.{0,0}:=@Option.map_some
theorem z0x:type_of%@PySem.PassesOwn.never:=@PySem.PassesOwn.never
theorem z0y:type_of%@List.mem_append.{0}:=@List.mem_append
theorem z0z:type_of%@List.getElem?_eq_some_iff.{0}:=@List.getElem?_eq_some_iff
theorem z0A:type_of%@List.length_append.{0}:=@List.length_append
theorem z0B:type_of%@PySem.wpAny_mono:=@PySem.wpAny_mono
theorem z0C:type_of%@List.all_eq_true.{0}:=@List.all_eq_true
theorem z0D:type_of%@List.getElem?_eq_getElem.{0}:=@List.getElem?_eq_getElem
theorem z0E:type_of%@Int.emod_nonneg:=@Int.emod_nonneg
theorem z0F:type_of%@List.mem_append_left.{0}:=@List.mem_append_left
theorem z0G:type_of%@Nat.zero_add:=@Nat.zero_add
theorem z0H:type_of%@List.getElem?_set_self.{0}:=@List.getElem?_set_self
theorem z0I:type_of%@Nat.not_lt:=@Nat.not_lt
theorem z0J:type_of%@List.length_set.{0}:=@List.length_set
theorem z0K:type_of%@decide_eq_true_eq:=@decide_eq_true_eq
theorem z0L:type_of%@Int.emod_lt_of_pos:=@Int.emod_lt_of_pos
theorem z0M:type_of%@Nat.zero_le:=@Nat.zero_le
theorem z0N:type_of%@PySem.codeAny_mono:=@PySem.codeAny_mono
theorem z0O:type_of%@List.nodup_cons.{0}:=@List.nodup_cons
theorem z0P:type_of%@List.getElem?_append_left.{0}:=@List.getElem?_append_left
theorem z0Q:type_of%@List.map_append.{0,0}:=@List.map_append
theorem z0R:type_of%@List.mem_range:=@List.mem_range
theorem z0S:type_of%@Bool.eq_iff_iff:=@Bool.eq_iff_iff
theorem z0T:type_of%@List.length_take.{0}:=@List.length_take
theorem z0U:type_of%@List.getElem?_append_right.{0}:=@List.getElem?_append_right
theorem z0V:type_of%@PySem.wpAny_field:=@PySem.wpAny_field
theorem z0W:type_of%@List.length_drop.{0}:=@List.length_drop
theorem z0X:type_of%@PySem.wpAny_holding:=@PySem.wpAny_holding
theorem z0Y:type_of%@PySem.wpAny_setField:=@PySem.wpAny_setField
theorem z0Z:type_of%@of_decide_eq_true:=@of_decide_eq_true
theorem z11:type_of%@Int.toNat_natCast:=@Int.toNat_natCast
theorem z12:type_of%@PySem.W.mg_of:=@PySem.W.mg_of
theorem z13:type_of%@Nat.le_succ:=@Nat.le_succ
theorem z14:type_of%@PySem.W.mg_none_of:=@PySem.W.mg_none_of
theorem z15:type_of%@Nat.lt_irrefl:=@Nat.lt_irrefl
theorem z16:type_of%@PySem.wpAny_Call_Name_kw:=@PySem.wpAny_Call_Name_kw
theorem z17:type_of%@PySem.wpAny_newObj_type:=@PySem.wpAny_newObj_type
theorem z18:type_of%@Nat.lt_of_le_of_lt:=@Nat.lt_of_le_of_lt
theorem z19:type_of%@PySem.wpAny_loadPart_at:=@PySem.wpAny_loadPart_at
theorem z1a:type_of%@List.set_cons_zero.{0}:=@List.set_cons_zero
theorem z1b:type_of%@List.set_cons_succ.{0}:=@List.set_cons_succ
theorem z1c:type_of%@List.foldl_cons.{0,0}:=@List.foldl_cons
theorem z1d:type_of%@PySem.W.callWith_K:=@PySem.W.callWith_K
theorem z1e:type_of%@PySem.Heap.get?_update_other:=@PySem.Heap.get?_update_other
theorem z1f:type_of%@List.find?_cons.{0}:=@List.find?_cons
theorem z1g:type_of%@List.length_nil.{0}:=@List.length_nil
theorem z1h:type_of%@List.getElem?_eq_none.{0}:=@List.getElem?_eq_none
theorem z1i:type_of%@List.mem_singleton.{0}:=@List.mem_singleton
theorem z1j:type_of%@beq_self_eq_true.{0}:=@beq_self_eq_true
theorem z1k:type_of%@List.drop_eq_getElem_cons.{0}:=@List.drop_eq_getElem_cons
theorem z1l:type_of%@Array.length_toList.{0}:=@Array.length_toList
theorem z1m:type_of%@PySem.mem_of_lookup:=@PySem.mem_of_lookup
theorem z1n:type_of%@PySem.Heap.get?_update_self:=@PySem.Heap.get?_update_self
theorem z1o:type_of%@List.getElem_of_mem.{0}:=@List.getElem_of_mem
theorem z1p:type_of%@PySem.F.slot_dict_keyiterator_next:=@PySem.F.slot_dict_keyiterator_next
theorem z1q:type_of%@List.getD_eq_getElem?_getD.{0}:=@List.getD_eq_getElem?_getD
section
open PySem PySem.W PyProof.Rows
def L2.viewAt (p:Program) (ks:List Nat):Program:={ p with main:={ p.main with body:=ks.filterMap λ i=>p.main.body[i]? } }
abbrev K03.R:=PySem.Challenge.rw_twinrounds_k03_no_world.row
def K03.vw:Program:=L2.viewAt PySem.Challenge.pw_twinrounds_k03_no_world [0,2,3,4,5,6,7,8,9,11,12,13,14,15,16,17,18,19,20,21,23,24,25,26,27,28,29,30,31,32,33,34,35]
theorem zE_ {α:Sort _}(a:α):a=a:=of_eq_true (eq_self a)
namespace L2T
def runG (st:SharedT->Thread->Option (SharedT×Thread)) (ok:Thread->Bool):Nat->SharedT->Thread->Option SharedT
 | 0,_,_=>none
 | n+1,s,t=>match through t with
  | true=>some s
  | false=>match ok t with
   | false=>none
   | true=>match st s t with
    | some (s',t')=>runG st ok n s' t'
    | none=>none
theorem VM {tb:String->Option Builtin}{p:Program}{w:World}{n₀:Nat}{ann:Option Value}:∀ {n:Nat}{s s':SharedT}{t:Thread},runG (stepT (denote tb) p w) (stepOk n₀ ann) n s t=some s'->topRun tb p w n₀ ann n s.abs t=some s'.abs
 | 0,_,_,_,h=>by cases h
 | n+1,s,s',t,h=>by
  unfold runG at h;unfold topRun;cases he:through t with
  | true=>rw[he] at h;cases h;rfl
  | false=>
   rw[he] at h;cases hk:stepOk n₀ ann t with
   | false=>rw[hk] at h;cases h
   | true=>
    rw[hk] at h;cases hs:stepT (denote tb) p w s t with
    | none=>rw[hs] at h;cases h
    | some r=>obtain⟨s₂,t₂⟩:=r;rw[hs] at h;rw[stepT_spec hs];exact VM h
def treeOf (l:List Obj):BT:=(l.foldl (λ (a:BT×Nat) o=>(a.1.ins a.2 o,a.2+1)) (BT.nil,0)).1
noncomputable abbrev boot (w:World) (os:OsState):SharedT:=⟨treeOf (boot_heap w.params).objs.toList,11,(boot_heap w.params).life,Array.mk [],boot_drawn,boot_toks,os⟩
set_option maxHeartbeats 0 in
theorem boot_abs (w:World) (os:OsState):(boot w os).abs=⟨boot_heap w.params,Array.mk [],boot_drawn,boot_toks,os⟩:=by kernel_rfl
set_option maxHeartbeats 0 in
theorem Xb (w:World):((boot_heap w.params).isNs mainGlobals,(boot_heap w.params).objs.size)=(true,11):=by kernel_rfl
noncomputable abbrev ann (w:World):Option Value:=(boot_heap w.params).nsMap mainGlobals "__annotations__"
noncomputable def fits (p:Program) (w:World) (s:Shared):Bool:=staticsOk (importedModules p.main.body) (boot_heap w.params) s.heap&&namesBound p s.heap&&gensDone s&&laidKept (boot_heap w.params) s.heap
theorem left {p:Program}{N:Nat}{α:Type}{f:Shared->α}{good:World->α}(hb:opening p=plainProg p.main.scope.names) (hf:∀ s,fenceModules? p s=some s) (hN:Nat.ble 600 N=true)
  (h:∀ (w:World) (os:OsState),(runG (Fast.tw10156331382660048174 (Fast.tw11892475500146522536 Fast.tw14364793385576792824) p w) (Fast.tw6613529449190102663 11 (ann w)) N (boot w os) (topStub p)).map (λ s=>(fits p w s.abs,f s.abs))=some (true,good w)) (w:World):(openEnds treeTable p w N).map f=some (good w):=by
 obtain⟨⟨h0,gs,d,k,os⟩,e,e'⟩:=Option.map_eq_some_iff.mp (boot_open hb hN hf w);obtain⟨rfl,rfl,rfl,rfl⟩:h0=boot_heap w.params/\gs=Array.mk []/\d=boot_drawn/\k=boot_toks:=by simpa using e'
 have h:=h w os;rw[<-Fast.te10156331382660048174,<-Fast.te11892475500146522536,<-Fast.te14364793385576792824,<-Fast.te6613529449190102663] at h;obtain⟨s1,r,q⟩:=Option.map_eq_some_iff.mp h;obtain⟨q1,q2⟩:=Prod.mk.inj q;have t:=VM r;rw[boot_abs] at t;obtain⟨b1,b2⟩:=Prod.mk.inj (Xb w);have g:topFrom treeTable p w N ⟨boot_heap w.params,Array.mk [],boot_drawn,boot_toks,os⟩=some s1.abs:=by
  unfold topFrom;dsimp only;rw[b1,b2];show (topRun treeTable p w 11 (ann w) N _ (topStub p)).bind _=_;rw[t];show (match fits p w s1.abs with | true=>some s1.abs | false=>none)=_;rw[q1]
 unfold openEnds;rw[e];show (topFrom treeTable p w N _).map f=_;rw[g];exact congrArg some q2
end L2T
section
local macro_rules | `(tactic| o_head $H) => `(tactic| exact ‹∀ P : Prop, P› _)
set_option maxHeartbeats 0 in
theorem K03.side (hole:∀ P:Prop,P):K03.R.Holds:=by
 k_head
end
open Lean.Parser.Command in
local macro_rules | `(def $i:declId $s:optDeclSig $v:declVal)=>`(noncomputable def $i:declId $s:optDeclSig $v:declVal) | `(abbrev $i:declId $s:optDeclSig $v:declVal)=>`(noncomputable abbrev $i:declId $s:optDeclSig $v:declVal)
def K03.as:List Addr:=[2,3,15,17,18,20,21,22,29,30,31,32,35,42,44,45,47,48,49,50,51,54,61,63,64,66,67,68,69,70,73,80,82,83,85,86,87,88,89,92,99,101,102,104,105,106,107,108,111,118,120,121,123,124,125,126,127,130,137,138,139,142,149,150,151,154,155,158,159,160,162,163,165,166,167,169,170,172,173,174,176,177,179,180,181,183,184,186,187,195,197,198,200,201,202,204,205,207,208,209,211,212,214,215,216,218,219,221,222,223,225,226,228,229,230,231,232,233,234,237,239,240,242,243,244,246,247,249,250,251,253,254,256,257,258,261,262,263,265,266,268,269,270,272,273,275,276,277,279,280,282,283,284,286,287,289,290,291,293,294,296,297,298,300,301,303,304,305,307,308,310,311,312,314,315,317,318,319,321,322,324,325]
set_option maxHeartbeats 0 in
theorem K03.as_ok:∀ P,K03.as=(K03.side.heap_1 P).map (·.1):=λ _=>by kernel_rfl
def K03.hook:Hook:=kHook K03.side.heap_1 K03.as K03.as_ok
set_option maxHeartbeats 0 in
theorem K03.look:LeftO K03.R.prog K03.vw [] (λ s=>xlAt K03.vw [] s&&recOk K03.R.records s) K03.hook.obs K03.hook.val 6000:=by
 rw[show LeftO K03.R.prog K03.vw [] (λ s=>xlAt K03.vw [] s&&recOk K03.R.records s) K03.hook.obs K03.hook.val 6000=∀ w,(openEnds treeTable K03.R.prog w 6000).map (λ s=>(openSeen K03.vw [] (importedModules K03.R.prog.main.body) (λ s=>xlAt K03.vw [] s&&recOk K03.R.records s) true s,K03.hook.obs s))=some (openGood K03.vw [],K03.hook.val w) from rfl,Fast.te4187177175401517315];exact L2T.left (by kernel_rfl) (λ _=>by kernel_rfl) rfl (λ w os=>by kernel_rfl)
end
namespace L2
open PySem PySem.Spec PyProof.Rows
abbrev Key:=Sum Int Str
def O3:Key->Value->Bool
 | .inl k,v=>Value.isInt k v
 | .inr x,v=>Value.isStrOf x v
def keyH (w:World):Key->Int
 | .inl k=>hashInt k
 | .inr x=>hashStr w x
theorem Bo:∀ {k:Key}{v:Value},O3 k v=true->(∃ i t,k=Sum.inl i/\v=Value.int i t)∨(∃ x t,k=Sum.inr x/\v=Value.str x t)
 | .inl i,v,h=>by
  obtain⟨t,e⟩:=Value.isInt_shape (k:=i) (v:=v) h;exact .inl ⟨i,t,rfl,e⟩
 | .inr x,v,h=>by
  obtain⟨t,e⟩:=Value.isStrOf_shape (x:=x) (v:=v) h;exact .inr ⟨x,t,rfl,e⟩
theorem Xc (i:Int) (t:Tok):O3 (.inl i) (.int i t)=true:=by simp[O3,Value.isInt]
theorem Xd (x:Str) (t:Tok):O3 (.inr x) (.str x t)=true:=by simp[O3,Value.isStrOf]
theorem jO (a b:Int):decide ((Sum.inl a:Key)=Sum.inl b)=(a==b):=by
 by_cases e:a=b
 ·subst e;simp
 ·have h:¬ (Sum.inl a:Key)=Sum.inl b:=λ q=>e (Sum.inl.inj q);rw[z0d h];exact (z0p.mpr e).symm
theorem jP (a b:Str):decide ((Sum.inr a:Key)=Sum.inr b)=decide (a=b):=by
 by_cases e:a=b
 ·subst e;simp
 ·have h:¬ (Sum.inr a:Key)=Sum.inr b:=λ q=>e (Sum.inr.inj q);rw[z0d h,z0d e]
theorem jQ (a:Int) (b:Str):decide ((Sum.inl a:Key)=Sum.inr b)=false:=z0d (λ q=>nomatch q)
theorem jR (a:Str) (b:Int):decide ((Sum.inr a:Key)=Sum.inl b)=false:=z0d (λ q=>nomatch q)
def BK (prog:Program) (w:World):PySem.KeyKind prog w Key where
 is:=O3
 hash:=keyH w
 inj:=λ v a b ha hb=>by
  rcases Bo ha with ⟨i,t,rfl,rfl⟩ | ⟨x,t,rfl,rfl⟩
  ·rcases Bo hb with ⟨j,u,rfl,e⟩ | ⟨y,u,rfl,e⟩
   ·injection e with e1 _;rw[e1]
   ·exact nomatch e
  ·rcases Bo hb with ⟨j,u,rfl,e⟩ | ⟨y,u,rfl,e⟩
   ·exact nomatch e
   ·injection e with e1 _;rw[e1]
 byValue:=λ k v h=>by
  rcases Bo h with ⟨i,t,rfl,rfl⟩ | ⟨x,t,rfl,rfl⟩<;>rfl
 pyHash:=λ hv h=>by
  rcases Bo hv with ⟨i,t,rfl,rfl⟩ | ⟨x,t,rfl,rfl⟩
  ·exact wpAny_pyHash_int h
  ·exact wpAny_pyHash_str h
 eqBool:=λ hu hv h=>by
  rcases Bo hu with ⟨i,t,rfl,rfl⟩ | ⟨x,t,rfl,rfl⟩
  ·rcases Bo hv with ⟨j,u,rfl,rfl⟩ | ⟨y,u,rfl,rfl⟩
   ·rw[jO] at h;exact wpAny_eqBool_int h
   ·rw[jQ] at h;exact SeqAt.EqAt.int_str i t y u _ _ _ _ h
  ·rcases Bo hv with ⟨j,u,rfl,rfl⟩ | ⟨y,u,rfl,rfl⟩
   ·rw[jR] at h;exact SeqAt.EqAt.str_int x t j u _ _ _ _ h
   ·rw[jP] at h;exact wpAny_eqBool_str h
 «strs»:=λ k x t v h=>by
  rcases Bo h with ⟨i,u,rfl,e⟩ | ⟨y,u,rfl,e⟩
  ·exact nomatch e
  ·injection e with e1 _
   subst e1;cases v<;>rfl
theorem R_ (prog:Program) (w:World) (i:Int) (t:Tok):(BK prog w).is (.inl i) (.int i t)=true:=Xc i t
theorem SJ (prog:Program) (w:World) (x:Str) (t:Tok):(BK prog w).is (.inr x) (.str x t)=true:=Xd x t
inductive V where
 | non | bl (b:Bool) | int (i:Int) | str (x:Str) | byt (b:Array UInt8) | flt (b:UInt64) | ref (a:Addr) | ty (n:String)
 deriving DecidableEq
def RelV:V->Value->Prop
 | .non,u=>u=Value.none
 | .bl b,u=>u=Value.bool b
 | .int i,u=>∃ t,u=Value.int i t
 | .str x,u=>∃ t,u=Value.str x t
 | .byt b,u=>∃ t,u=Value.bytes b t
 | .flt b,u=>∃ t,u=Value.float b t
 | .ref a,u=>u=Value.ref a
 | .ty n,u=>u=Value.type n
abbrev Vals:List V->List Value->Prop:=Paired RelV
theorem Vals.length {xs:List V}{us:List Value}(r:Vals xs us):xs.length=us.length:=Paired.length r
theorem Vals.get:∀ {xs:List V}{us:List Value}{i:Nat}{x:V},Vals xs us->xs[i]?=some x->∃ u,us[i]?=some u/\RelV x u
 | _,_,_,_,.nil,e=>by simp at e
 | _,_,0,_,.cons r _,e=>by simp at e;subst e;exact⟨_,rfl,r⟩
 | _,_,i+1,x,.cons _ t,e=>by
  obtain⟨u,h1,h2⟩:=Vals.get (i:=i) (x:=x) t (by simpa using e);exact⟨u,by simpa using h1,h2⟩
theorem Vals.set {x:V}{u:Value}(r:RelV x u):∀ {xs:List V}{us:List Value}(i:Nat),Vals xs us->Vals (xs.set i x) (us.set i u)
 | _,_,_,.nil=>.nil
 | _,_,0,.cons _ t=>.cons r t
 | _,_,i+1,.cons q t=>.cons q (Vals.set r i t)
theorem Vals.append:∀ {xs ys:List V}{us ws:List Value},Vals xs us->Vals ys ws->Vals (xs++ys) (us++ws)
 | _,_,_,_,.nil,s=>s
 | _,_,_,_,.cons r t,s=>.cons r (Vals.append t s)
theorem Vals.take:∀ {xs:List V}{us:List Value}(n:Nat),Vals xs us->Vals (xs.take n) (us.take n)
 | _,_,0,_=>.nil
 | _,_,_+1,.nil=>.nil
 | _,_,n+1,.cons r t=>.cons r (Vals.take n t)
theorem Vals.drop:∀ {xs:List V}{us:List Value}(n:Nat),Vals xs us->Vals (xs.drop n) (us.drop n)
 | _,_,0,r=>r
 | _,_,_+1,.nil=>.nil
 | _,_,n+1,.cons _ t=>Vals.drop n t
theorem Vals.none_of:∀ {xs:List V}{us:List Value}{i:Nat},Vals xs us->xs[i]?=none->us[i]?=none:=λ {xs us i} r e=>by
 have h1:=r.length;have h2:xs.length<=i:=List.getElem?_eq_none_iff.mp e;exact List.getElem?_eq_none_iff.mpr (by omega)
def RelO:Option V->Option Value->Prop
 | some v,some u=>RelV v u
 | none,none=>True
 | _,_=>False
def KV {κ:Type}:List (κ×V)->List (κ×Value)->Prop:=Paired λ (p:κ×V) (q:κ×Value)=>p.1=q.1/\RelV p.2 q.2
def kV:Key->V
 | .inl i=>.int i
 | .inr x=>.str x
inductive HO where
 | lst (xs:List V)
 | tup (xs:List V)
 | dK (kvs:List (Key×V)) | dT (kvs:List (List Key×V))
 | set (S:Int->Bool) (n:Nat)
 | ins (C dx:Addr) (fs:List (Str×V))
 | own (x:Addr)
 | xd (fs:List (Str×V))
 | met (f x:Addr)
 | rng (lo hi:Int)
 | frz (o:Obj) (u:HO)
 | tbl (ps:Array Value)
 | ext (φ:Heap->Prop)
abbrev Hp:=Addr->Option HO
def upd (H:Hp) (a:Addr) (o:HO):Hp:=λ b=>if b=a then some o else H b
theorem Ae {H:Hp}{o:HO}:upd H a o a=some o:=by unfold upd;rw[if_pos rfl]
theorem Ad {H:Hp}{o:HO}(h:b≠a):upd H a o b=H b:=by unfold upd;rw[if_neg h]
theorem gY {H:Hp}{o u:HO}(h:H a=some o) (h':H b=some u) (d:o≠u):a≠b:=by
 intro e;subst e;rw[h] at h';exact d (z0f h')
theorem Ak {H:Hp}{o:HO}(h:H a=some o) (h':H b=none):a≠b:=by
 intro e;subst e;rw[h] at h';cases h'
section
variable (P:Program) (w:World)
def Bg (H:Hp) (h:Heap) (a:Addr):HO->Prop
  | .lst xs=>xs.length<=sizeLine/\∃ (its:List Value) (n:Nat),Vals xs its/\h.get? a=some { cls:=.type "list",data:=.seq its.toArray n }
  | .tup xs=>xs.length<=sizeLine/\∃ its:List Value,Vals xs its/\IsTup h a its.toArray
  | .dK kvs=>kvs.length<=sizeLine/\(a==sysModules)=false/\∃ vs,KV kvs vs/\h.DictOf (BK P w) a vs
  | .dT kvs=>kvs.length<=sizeLine/\(a==sysModules)=false/\∃ xs:List (List Key×Addr×Value),
      Paired (λ (p:List Key×V) (q:List Key×Addr×Value)=>p.1=q.1/\H q.2.1=some (.tup (p.1.map kV))/\RelV p.2 q.2.2) kvs xs ∧
      ∃ o es ep,h.get? a=some o/\o.ExactDict/\o.data=.dict es ep/\es.toList=xs.map (entryOfKey (tupleKind (BK P w)))/\(xs.map (·.1)).Nodup
  | .set S n=>h.SetOf (intKind P w) a S n
  | .ins C dx fs=>H dx=some (.own a)/\fs.length<=1000/\dx≠a/\h.get? a=some (PySem.W.instObj C dx) ∧
      ∃ mA,h.Ns1 dx mA/\(∀ f,RelO (fs.lookup f) (mA f))/\PySem.Within mA (fs.map (·.1))
  | .own _=>∃ o,h.get? a=some o
  | .xd fs=>∃ mA,h.Ns1 a mA/\∀ f,RelO (fs.lookup f) (mA f)
  | .rng lo hi=>∃ t u v,h.get? a=some { cls:=.type "range",data:=.fields #[.int lo t,.int hi u,.int 1 v] }
  | .frz o u=>h.get? a=some o/\Bg H h a u
  | .tbl ps=>h.get? a=some { cls:=.none,data:=.fields ps }
  | .met f x=>h.get? a=some (PySem.W.methodObj (.ref f) (.ref x))
  | .ext φ=>φ h/\(∃ o,h.get? a=some o)/\∀ h1 h2:Heap,φ h1->(∀ o,h1.get? a=some o->h2.get? a=some o)->φ h2
def HOk (H:Hp) (h:Heap):Prop:=∀ a o,H a=some o->Bg P w H h a o
end
section
variable {H H':Hp}{o:HO}
theorem Bg.lt (x:Bg P w H h a o):a<h.objs.size:=by
 cases o with
 | lst xs=>obtain⟨_,_,_,_,e⟩:=x;exact z05 e
 | tup xs=>obtain⟨_,_,_,p⟩:=x;exact p.lt
 | dK kvs=>obtain⟨_,_,_,_,o,_,_,e,_⟩:=x;exact z05 e
 | dT kvs=>obtain⟨_,_,_,_,o,_,_,e,_⟩:=x;exact z05 e
 | set S n=>obtain⟨o,_,_,_,e,_⟩:=x;exact z05 e
 | ins C dx fs=>obtain⟨_,_,_,e,_⟩:=x;exact z05 e
 | own y=>obtain⟨_,e⟩:=x;exact z05 e
 | xd fs=>obtain⟨_,⟨_,_,_,e,_⟩,_⟩:=x;exact z05 e
 | rng lo hi=>obtain⟨_,_,_,e⟩:=x;exact z05 e
 | frz ob u=>obtain⟨e,_⟩:=x;exact z05 e
 | tbl ps=>exact z05 (show h.get? a=some _ from x)
 | met f y=>exact z05 (show h.get? a=some _ from x)
 | ext φ=>obtain⟨_,⟨_,e⟩,_⟩:=x;exact z05 e
theorem Paired.mapP {α β:Type}{F G:α->β->Prop}:∀ {l₁:List α}{l₂:List β},Paired F l₁ l₂->(∀ a b,F a b->G a b)->Paired G l₁ l₂
 | _,_,.nil,_=>.nil
 | _,_,.cons r t,f=>.cons (f _ _ r) (Paired.mapP t f)
theorem Bg.stay (x:Bg P w H h a o) (k:∀ b u,(b=a∨H b=some (.own a))->h.get? b=some u->h'.get? b=some u)
  (ho:∀ b,H b=some (.own a)->H' b=some (.own a)) (ht:∀ b xs,H b=some (.tup xs)->H' b=some (.tup xs)):Bg P w H' h' a o:=by
 induction o with
 | lst xs=>obtain⟨z,its,n,r,e⟩:=x;exact⟨z,its,n,r,k _ _ (.inl rfl) e⟩
 | tup xs=>obtain⟨z,its,r,ob,e,c⟩:=x;exact⟨z,its,r,ob,k _ _ (.inl rfl) e,c⟩
 | dK kvs=>obtain⟨z,y,vs,r,ob,es,ep,e,c⟩:=x;exact⟨z,y,vs,r,ob,es,ep,k _ _ (.inl rfl) e,c⟩
 | dT kvs=>
  obtain⟨z,y,xs,r,ob,es,ep,e,c⟩:=x;exact⟨z,y,xs,Paired.mapP r λ p q z=>⟨z.1,ht _ _ z.2.1,z.2.2⟩,ob,es,ep,k _ _ (.inl rfl) e,c⟩
 | set S n=>obtain⟨ob,es,ep,t,e,c⟩:=x;exact⟨ob,es,ep,t,k _ _ (.inl rfl) e,c⟩
 | ins C dx fs=>
  obtain⟨d,z,ne,e,mA,⟨od,es,ep,e2,c⟩,r⟩:=x;exact⟨ho _ d,z,ne,k _ _ (.inl rfl) e,mA,⟨od,es,ep,k _ _ (.inr d) e2,c⟩,r⟩
 | own y=>obtain⟨ob,e⟩:=x;exact⟨ob,k _ _ (.inl rfl) e⟩
 | xd fs=>obtain⟨mA,⟨od,es,ep,e,c⟩,r⟩:=x;exact⟨mA,⟨od,es,ep,k _ _ (.inl rfl) e,c⟩,r⟩
 | rng lo hi=>obtain⟨t,u,v,e⟩:=x;exact⟨t,u,v,k _ _ (.inl rfl) e⟩
 | frz ob u ih=>obtain⟨e,q⟩:=x;exact⟨k _ _ (.inl rfl) e,ih q⟩
 | tbl ps=>
  have e:h.get? a=some { cls:=.none,data:=.fields ps }:=x;show h'.get? a=some { cls:=.none,data:=.fields ps };exact k a _ (.inl rfl) e
 | met f y=>
  have e:h.get? a=some (PySem.W.methodObj (.ref f) (.ref y)):=x;show h'.get? a=some (PySem.W.methodObj (.ref f) (.ref y));exact k a _ (.inl rfl) e
 | ext φ=>obtain⟨p,⟨o,e⟩,st⟩:=x;exact⟨st _ _ p λ o q=>k _ _ (.inl rfl) q,⟨o,k _ _ (.inl rfl) e⟩,st⟩
theorem HOk.lt (x:HOk P w H h) (e:H a=some o):a<h.objs.size:=(x a o e).lt
theorem HOk.fresh (x:HOk P w H h) (e:h.objs.size<=a):H a=none:=by
 cases q:H a with
 | none=>rfl
 | some u=>exact absurd (z0r (x.lt q) e) (z15 _)
theorem HOk.kept (x:HOk P w H h) (k:∀ b u,h.get? b=some u->h'.get? b=some u):HOk P w H h':=λ a o e=>
 (x a o e).stay (λ b u _ q=>k b u q) (λ _ q=>q) λ _ _ q=>q
theorem HOk.laid (x:HOk P w H h) (k:∀ b u,h.get? b=some u->h'.get? b=some u) (hp:h.objs.size<=a) (new:Bg P w (upd H a o) h' a o):HOk P w (upd H a o) h':=λ b u e=>by
 have hn:=x.fresh hp
 by_cases hb:b=a
 ·subst hb;rw[Ae] at e;cases e;exact new
 ·rw[Ad hb] at e;exact (x b u e).stay (λ c v _ q=>k c v q) (λ c q=>by rw[Ad (Ak q hn)];exact q) λ c xs q=>by rw[Ad (Ak q hn)];exact q
end
def Rd (H:Hp) (a:Addr) (u:HO):Prop:=H a=some u∨∃ o,H a=some (.frz o u)
theorem Rd.of {H:Hp}{u:HO}(h:H a=some u):Rd H a u:=.inl h
theorem Rd.ok {H:Hp}{u:HO}(r:Rd H a u) (x:HOk P w H h):Bg P w H h a u:=by
 rcases r with r | ⟨o,r⟩
 ·exact x a u r
 ·obtain⟨_,q⟩:=x a _ r;exact q
def Mut:Option HO->Prop
 | some (.lst _)=>True
 | some (.dK _)=>True
 | some (.dT _)=>True
 | some (.set _ _)=>True
 | some (.ins _ _ _)=>True
 | some (.ext _)=>True
 | _=>False
section
variable {H:Hp}{x e:Addr}{o':HO}
theorem HOk.write (ok:HOk P w H h) (mu:Mut (H x)) (he:e=x∨H e=some (.own x)) (k:∀ b u,b≠e->h.get? b=some u->h'.get? b=some u) (heo:∃ u,h'.get? e=some u)
  (new:Bg P w (upd H x o') h' x o'):HOk P w (upd H x o') h':=λ b u q=>by
 have nown:∀ c y,H c=some (.own y)->c≠x:=λ c y r z=>by subst z;rw[r] at mu;exact mu
 have ntup:∀ c xs,H c=some (.tup xs)->c≠x:=λ c xs r z=>by subst z;rw[r] at mu;exact mu
 by_cases hb:b=x
 ·subst hb;rw[Ae] at q;cases q;exact new
 ·rw[Ad hb] at q
  by_cases hbe:b=e
  ·have q':H b=some (.own x):=by
    rcases he with z | z
    ·exact absurd (hbe.trans z) hb
    ·rw[hbe];exact z
   rw[q] at q';cases q';obtain⟨v,hv⟩:=heo;exact⟨v,by rw[hbe];exact hv⟩
  ·refine (ok b u q).stay (λ c v hc r=>k c v ?_ r) (λ c r=>by rw[Ad (nown c b r)];exact r) λ c xs r=>by rw[Ad (ntup c xs r)];exact r
   rcases hc with rfl | hc
   ·exact hbe
   ·rintro rfl
    rcases he with z | z
    ·exact nown c b hc z
    ·rw[hc] at z;cases z;exact hb rfl
end
structure Un (fs ex:List Addr) (H H':Hp) (h h':Heap):Prop where
 keep:∀ b o,h.get? b=some o->H b=none->b∉fs->b∉ex->h'.get? b=some o
 slot:∀ b o,h.get? b=some o->H b=none->b∈fs->b∉ex->∃ sl,h'.get? b=some { o with slots:=sl }
 free:∀ b o,h.get? b=some o->H b=none->b∉ex->H' b=none
 there:∀ b o,h.get? b=some o->b∉ex->∃ o',h'.get? b=some o'
 tups:∀ b xs,H b=some (.tup xs)->H' b=some (.tup xs)
 frzs:∀ b o u,H b=some (.frz o u)->H' b=some (.frz o u)
 tbls:∀ b ps,H b=some (.tbl ps)->∃ more,H' b=some (.tbl (ps++more))
section
variable {fs fs' ex ex':List Addr}{H H1 H2:Hp}{h1 h2:Heap}{x e:Addr}{o:HO}
theorem Un.any (u:Un fs ex H H1 h h1) {b:Addr}{ob:Obj}(q:h.get? b=some ob) (n:H b=none) (hx:b∉ex):∃ sl,h1.get? b=some { ob with slots:=sl }:=by
 by_cases hb:b∈fs
 ·exact u.slot b ob q n hb hx
 ·exact⟨ob.slots,u.keep b ob q n hb hx⟩
theorem Un.trans (a:Un fs ex H H1 h h1) (b:Un fs ex H1 H2 h1 h2):Un fs ex H H2 h h2 where
 keep:=λ c ob q n hc hx=>b.keep c ob (a.keep c ob q n hc hx) (a.free c ob q n hx) hc hx
 slot:=λ c ob q n hc hx=>by
  obtain⟨sl,e1⟩:=a.slot c ob q n hc hx;obtain⟨sl',e2⟩:=b.slot c _ e1 (a.free c ob q n hx) hc hx;exact⟨sl',e2⟩
 free:=λ c ob q n hx=>by
  obtain⟨o',e1⟩:=a.there c ob q hx;exact b.free c o' e1 (a.free c ob q n hx) hx
 there:=λ c ob q hx=>by
  obtain⟨o',e1⟩:=a.there c ob q hx;exact b.there c o' e1 hx
 tups:=λ c xs q=>b.tups c xs (a.tups c xs q)
 frzs:=λ c ob xs q=>b.frzs c ob xs (a.frzs c ob xs q)
 tbls:=λ c ps q=>by
  obtain⟨m1,e1⟩:=a.tbls c ps q;obtain⟨m2,e2⟩:=b.tbls c _ e1;exact⟨m1++m2,by rw[e2,Array.append_assoc]⟩
theorem Un.kept (k:∀ b u,h.get? b=some u->h'.get? b=some u):Un fs ex H H h h':=
 ⟨λ b ob q _ _ _=>k b ob q,λ b ob q _ _ _=>⟨ob.slots,k b ob q⟩,λ _ _ _ n _=>n,λ b ob q _=>⟨ob,k b ob q⟩,λ _ _ q=>q,λ _ _ _ q=>q,λ _ ps q=>⟨#[],by rw[q];simp⟩⟩
theorem Un.refl:Un fs ex H H h h:=Un.kept λ _ _ q=>q
theorem Un.laid (k:∀ b u,h.get? b=some u->h'.get? b=some u) (hp:h.objs.size<=a) (hn:H a=none):Un fs ex H (upd H a o) h h' where
 keep:=λ b u q _ _ _=>k b u q
 slot:=λ b u q _ _ _=>⟨u.slots,k b u q⟩
 free:=λ b u q n _=>by rw[Ad (z0e (z0r (z05 q) hp))];exact n
 there:=λ b u q _=>⟨u,k b u q⟩
 tups:=λ b xs q=>by rw[Ad (Ak q hn)];exact q
 frzs:=λ b u xs q=>by rw[Ad (Ak q hn)];exact q
 tbls:=λ b ps q=>⟨#[],by rw[Ad (Ak q hn),q];simp⟩
theorem Un.write (mu:Mut (H x)) (he:e=x∨H e=some (.own x)) (k:∀ b u,b≠e->h.get? b=some u->h'.get? b=some u) (heo:∃ u,h'.get? e=some u):Un fs ex H (upd H x o) h h':=by
 have hx:∀ b,H b=none->b≠x:=λ b n z=>by subst z;rw[n] at mu;exact mu
 have hb:∀ b,H b=none->b≠e:=λ b n z=>by
  subst z
  rcases he with r | r
  ·exact hx b n r
  ·rw[n] at r;cases r
 have hm:∀ b u,H b=some u->¬ Mut (some u)->b≠x:=λ b u q nm z=>by subst z;rw[q] at mu;exact nm mu
 refine⟨λ b u q n _ _=>k b u (hb b n) q,λ b u q n _ _=>⟨u.slots,k b u (hb b n) q⟩,λ b u q n _=>by rw[Ad (hx b n)];exact n,λ b u q _=>?_,
  λ b xs q=>by rw[Ad (hm b _ q λ z=>z)];exact q,λ b u xs q=>by rw[Ad (hm b _ q λ z=>z)];exact q,λ b ps q=>⟨#[],by rw[Ad (hm b _ q λ z=>z),q];simp⟩⟩
 by_cases hbe:b=e
 ·subst hbe;exact heo
 ·exact⟨u,k b u hbe q⟩
theorem Un.mono (u:Un fs ex H H1 h h1) (hs:∀ b∈fs,b∈fs') (hx:∀ b∈ex,b∈ex'):Un fs' ex' H H1 h h1:=
 ⟨λ b ob q n hb he=>u.keep b ob q n (λ z=>hb (hs b z)) λ z=>he (hx b z),λ _ _ q n _ he=>u.any q n λ z=>he (hx _ z),λ b ob q n he=>u.free b ob q n λ z=>he (hx b z),λ b ob q he=>u.there b ob q λ z=>he (hx b z),u.tups,u.frzs,u.tbls⟩
end
def trk (h:Heap) (H:Hp):List Addr:=(List.range h.objs.size).filter λ a=>(H a).isSome
def hidT (h:Heap) (H:Hp):Heap:=PySem.W.hideAll h (trk h H)
theorem Xe (h:Heap) (H:Hp):(hidT h H).objs.size=h.objs.size:=PySem.W.hideAll_size _ _
theorem YT {H:Hp}{o:Obj}(e:h.get? b=some o) (n:H b=none):(hidT h H).get? b=some o:=
 PySem.W.hideAll_get _ e λ hm=>by
  have q:(H b).isSome=true:=(z0s.mp hm).2;rw[n] at q;simp at q
theorem bw {H:Hp}{o:Obj}(e:(hidT h H).get? b=some o):h.get? b=some o/\H b=none:=by
 have e':h.get? b=some o:=PySem.W.of_hideAll (trk h H) e;refine⟨e',?_⟩;cases q:H b with
 | none=>rfl
 | some x=>
  have hm:b∈trk h H:=z0s.mpr ⟨z0R.mpr (z05 e'),by simp[q]⟩;have z:(hidT h H).get? b=none:=PySem.W.hideAll_none (trk h H) hm;rw[z] at e;cases e
def bx (g h:Heap) (L:Addr):List (Addr×Obj):=(List.range h.objs.size).filterMap λ a=>if a=L∨(g.get? a).isSome=true then none else (h.get? a).map λ o=>(a,o)
def rest (g h:Heap) (L d:Addr):List (Addr×Obj):=(bx g h L).filter λ p=>decide (p.1≠d)
structure Mod (K:zFr) (mg:Str->Option Value) (base:Heap):Prop where
 kin:K.In base
 glob:base.Ns mainGlobals mg
 blt:∃ mb,base.Ns builtinsNs mb/\∀ x:Str,x≠"__name__"->mb x=bootBuiltins x
 nolimit:base.NoLimit
structure Cx where
 prog:Program
 w:World
 K:PySem.W.Frag
 mg:Str->Option Value
 base:Heap
 A:Around
 N:List Str
 s₀:Shared
 H₀:Hp
 env:Env
 outer:List Env
 stack:List Env
 ex:List Addr
 fn:Str->Bool
 calm:Bool
 pn:List (Addr×Obj)
 xe:Value->Shared->Prop
def frs (l:List Env):List Addr:=l.filterMap (·.frame)
abbrev Cx.fs (X:Cx):List Addr:=frs X.outer
def Vis (sc:Scope) (x:Str):Prop:=sc.names.lookup x=some .local ∨sc.names.lookup x=some .cell ∨sc.names.lookup x=some .free
def Loc (sc:Scope) (x:Str):Prop:=sc.names.lookup x=some .local ∨sc.names.lookup x=some .cell
def Look (env:Env) (h:Heap) (m:Str->Option Value) (x:Str) (u:Value):Prop:=
 (env.kindOf x=some .local /\m x=some u)∨((env.kindOf x=some .cell ∨env.kindOf x=some .free)/\∃ c,env.cells.lookup x=some c/\h.IsCell c (some u))
structure Cx.Ok (X:Cx):Prop where
 mod:Mod X.K X.mg X.base
 kind:X.env.scope.kind=.function
 glob:X.env.globals=mainGlobals
 blt:X.env.builtins=builtinsNs
 above:X.s₀.heap.objs.size<=X.env.locals
 inj:∀ x y c,X.env.cells.lookup x=some c->X.env.cells.lookup y=some c->x=y
 has:∀ x,(X.env.kindOf x=some .cell ∨X.env.kindOf x=some .free)->∃ c,X.env.cells.lookup x=some c
 cab:∀ x c,X.fn x=true->X.env.cells.lookup x=some c->X.s₀.heap.objs.size<=c
 hd:X.calm=true->X.A.handled=none
 frames:X.A.frames=some X.stack
 stk:X.stack=X.outer∨(X.stack=X.env::X.outer/\X.env.frame=some X.env.locals)
 exf:∀ b∈X.ex,b≠X.env.locals/\∀ x c,X.env.cells.lookup x=some c->c≠b
 bs:∀ b o,X.base.get? b=some o->X.s₀.heap.get? b=some o/\X.H₀ b=none
 bsz:X.base.objs.size<=X.s₀.heap.objs.size
 noex:∀ b o,X.base.get? b=some o->b∉X.ex
 exfs:∀ b∈X.ex,b∉X.fs
 funs:X.s₀.heap.FunFrames X.base X.outer
 frf:∀ b∈X.fs,X.H₀ b=none
structure Inv (X:Cx) (π:zP) (σ:List (Option V)) (H:Hp) (s:Shared):Prop where
 ok:X.Ok
 os:s.os=X.s₀.os
 bare:AllBare s.gens
 base:Un X.fs X.ex X.H₀ H X.s₀.heap s.heap
 loc:∃ m,s.heap.Ns X.env.locals m/\∀ (i:Nat) (x:Str) (v:V),X.N[i]?=some x->σ[i]?=some (some v)->Vis X.env.scope x->∃ u,RelV v u/\Look X.env s.heap m x u
 cell:∀ x c,X.env.cells.lookup x=some c->∃ v,s.heap.IsCell c v
 free:H X.env.locals=none
 freeC:∀ x c,X.env.cells.lookup x=some c->H c=none
 pin:∀ p∈X.pn++π,s.heap.get? p.1=some p.2/\H p.1=none/\p.1≠X.env.locals/\p.1∉X.fs/\∀ v,p.2.data≠.cell v
 hok:HOk X.prog X.w H s.heap
 len:σ.length=X.N.length
section
variable {X:Cx}{σ:List (Option V)}{H H':Hp}
theorem Cx.Ok.nofr (ok:X.Ok) {b:Addr}{o:Obj}(e:X.base.get? b=some o):b∉X.fs:=λ hb=>by
 have:=(ok.funs.mem hb).1;rw[e] at this;cases this
theorem Inv.bs (I:Inv X π σ H s):∀ b o,X.base.get? b=some o->s.heap.get? b=some o/\H b=none:=λ b o e=>
 ⟨I.base.keep b o (I.ok.bs b o e).1 (I.ok.bs b o e).2 (I.ok.nofr e) (I.ok.noex b o e),I.base.free b o (I.ok.bs b o e).1 (I.ok.bs b o e).2 (I.ok.noex b o e)⟩
theorem Inv.bk (I:Inv X π σ H s):∀ b o,X.base.get? b=some o->s.heap.get? b=some o:=λ b o e=>(I.bs b o e).1
theorem Inv.mod (I:Inv X π σ H s):Mod X.K X.mg X.base:=I.ok.mod
theorem Inv.kIn (I:Inv X π σ H s):X.K.In s.heap:=I.ok.mod.kin.keeps I.bk
theorem Inv.nolimit (I:Inv X π σ H s):s.heap.NoLimit:=I.ok.mod.nolimit.keeps I.bk
theorem Inv.fr (I:Inv X π σ H s):∃ m,Fr X.base X.env.locals s.heap m:=
 let ⟨m,hn,_⟩:=I.loc
 ⟨m,hn,I.bk,z0j I.ok.bsz I.ok.above⟩
theorem Inv.lt (I:Inv X π σ H s):X.env.locals<s.heap.objs.size:=let ⟨_,hn,_⟩:=I.loc;hn.lt
theorem Inv.sz (I:Inv X π σ H s):X.s₀.heap.objs.size<=s.heap.objs.size:=z0j I.ok.above (Nat.le_of_lt I.lt)
theorem Inv.nofs (I:Inv X π σ H s) {a:Addr}(h:s.heap.objs.size<=a):a∉X.fs:=λ hb=>by
 obtain⟨_,o,ho,_⟩:=I.ok.funs.mem hb;exact absurd (z0r (z05 ho) (z0j I.sz h)) (z15 _)
theorem Inv.cne (I:Inv X π σ H s):∀ x c,X.env.cells.lookup x=some c->c≠X.env.locals:=λ x c e z=>by
 obtain⟨v,o,ho,hd⟩:=I.cell x c e;obtain⟨m,⟨o',es,ep,ho',hd',_⟩,_⟩:=I.loc;rw[z,ho'] at ho;cases ho;rw[hd'] at hd;cases hd
theorem Inv.funs (I:Inv X π σ H s):s.heap.FunFrames X.base X.outer:=by
 have all:∀ (l:List Env),(∀ b∈frs l,b∈X.fs)->X.s₀.heap.FunFrames X.base l->s.heap.FunFrames X.base l:=by
  intro l
  induction l with
  | nil=>intro _ _;trivial
  | cons env r ih=>
   intro hs hl;obtain⟨hk,⟨L,o,hf,hn,ho,hd⟩,hr⟩:=hl;have hL:L∈X.fs:=hs L (by unfold frs;rw[List.filterMap_cons,hf];exact z0k);obtain⟨sl,e⟩:=I.base.slot L o ho (I.ok.frf L hL) hL λ z=>I.ok.exfs L z hL;exact⟨hk,⟨L,_,hf,hn,e,hd⟩,ih (λ b hb=>hs b (by unfold frs;rw[List.filterMap_cons,hf];exact z07 _ hb)) hr⟩
 exact all X.outer (λ _ hb=>hb) I.ok.funs
theorem Inv.stack (I:Inv X π σ H s):s.heap.FunFrames X.base X.stack:=by
 rcases I.ok.stk with e | ⟨e,hf⟩
 ·rw[e];exact I.funs
 ·rw[e];obtain⟨m,hn,_⟩:=I.loc;refine .cons (by rw[I.ok.kind];decide) hf hn ?_ I.funs;exact Heap.get?_none_of_le (z0j I.ok.bsz I.ok.above)
theorem Inv.stkSub (I:Inv X π σ H s):∀ b∈frs X.stack,b∈X.env.locals::X.fs:=λ b hb=>by
 rcases I.ok.stk with e | ⟨e,hf⟩
 ·rw[e] at hb;exact z07 _ hb
 ·rw[e] at hb;unfold frs at hb;rw[List.filterMap_cons,hf] at hb;exact hb
theorem Inv.stkFree (I:Inv X π σ H s):∀ b∈frs X.stack,H b=none:=λ b hb=>by
 rcases z06.mp (I.stkSub b hb) with e | hb
 ·rw[e];exact I.free
 ·obtain⟨_,o,ho,_⟩:=I.ok.funs.mem hb;exact I.base.free b o ho (I.ok.frf b hb) λ z=>I.ok.exfs b z hb
theorem Inv.step {g':Array GenState}{d':Drawn}{ch:List Addr}(I:Inv X π σ H s)
  (hch:∀ b∈ch,(b∈X.ex∨X.s₀.heap.objs.size<=b)/\b≠X.env.locals/\(∀ x c,X.env.cells.lookup x=some c->c≠b)/\∀ p∈X.pn++π,p.1≠b)
  (keep:∀ b o,b≠X.env.locals->b∉X.fs->b∉ch->s.heap.get? b=some o->H b=none->h'.get? b=some o)
  (slot:∀ b o,b≠X.env.locals->b∈X.fs->b∉ch->s.heap.get? b=some o->H b=none->∃ sl,h'.get? b=some { o with slots:=sl }) (free:∀ b o,b∉ch->s.heap.get? b=some o->H b=none->H' b=none)
  (there:∀ b o,b∉ch->s.heap.get? b=some o->∃ o',h'.get? b=some o')
  (tups:∀ b xs,H b=some (.tup xs)->H' b=some (.tup xs)) (frzs:∀ b o u,H b=some (.frz o u)->H' b=some (.frz o u)) (tbls:∀ b ps,H b=some (.tbl ps)->∃ more,H' b=some (.tbl (ps++more)))
  (ns:∀ m,s.heap.Ns X.env.locals m->h'.Ns X.env.locals m) (hok:HOk X.prog X.w H' h') (hg:AllBare g') :
  Inv X π σ H' { s with heap:=h',gens:=g',drawn:=d',toks:=t' }:=by
 have neL:∀ b o,X.s₀.heap.get? b=some o->b≠X.env.locals:=λ b o e=>z0e (z0r (z05 e) I.ok.above);have neC:∀ b o,X.s₀.heap.get? b=some o->b∉X.ex->b∉ch:=λ b o e hx hb=>by
  rcases (hch b hb).1 with z | z
  ·exact hx z
  ·exact absurd (z0r (z05 e) z) (z15 _)
 have cellK:∀ x c,X.env.cells.lookup x=some c->∀ v,s.heap.IsCell c v->h'.IsCell c v:=λ x c e v ⟨o,ho,hd⟩=>by
  have nch:c∉ch:=λ z=>(hch c z).2.2.1 x c e rfl
  by_cases hc:c∈X.fs
  ·obtain⟨sl,q⟩:=slot c o (I.cne x c e) hc nch ho (I.freeC x c e);exact⟨_,q,hd⟩
  ·exact⟨o,keep c o (I.cne x c e) hc nch ho (I.freeC x c e),hd⟩
 refine⟨I.ok,I.os,hg,⟨λ b o e n hb hx=>?_,λ b o e n hb hx=>?_,λ b o e n hx=>?_,λ b o e hx=>?_,λ b xs e=>tups b xs (I.base.tups b xs e),λ b o xs e=>frzs b o xs (I.base.frzs b o xs e),λ b ps e=>?_⟩,?_,λ x c e=>?_,?_,λ x c e=>?_,λ p hp=>?_,hok,I.len⟩
 ·exact keep b o (neL b o e) hb (neC b o e hx) (I.base.keep b o e n hb hx) (I.base.free b o e n hx)
 ·obtain⟨sl,e1⟩:=I.base.slot b o e n hb hx;obtain⟨sl',e2⟩:=slot b _ (neL b o e) hb (neC b o e hx) e1 (I.base.free b o e n hx);exact⟨sl',e2⟩
 ·obtain⟨o',e1⟩:=I.base.there b o e hx;exact free b o' (neC b o e hx) e1 (I.base.free b o e n hx)
 ·obtain⟨o',e1⟩:=I.base.there b o e hx;exact there b o' (neC b o e hx) e1
 ·obtain⟨m1,e1⟩:=I.base.tbls b ps e;obtain⟨m2,e2⟩:=tbls b _ e1;exact⟨m1++m2,by rw[e2,Array.append_assoc]⟩
 ·obtain⟨m,hn,hl⟩:=I.loc;refine⟨m,ns m hn,λ i x v e1 e2 e3=>?_⟩;obtain⟨u,r,l⟩:=hl i x v e1 e2 e3;refine⟨u,r,?_⟩
  rcases l with l | ⟨k,c,e,z⟩
  ·exact .inl l
  ·exact .inr ⟨k,c,e,cellK x c e _ z⟩
 ·obtain⟨v,z⟩:=I.cell x c e;exact⟨v,cellK x c e v z⟩
 ·obtain⟨m,⟨o,_,_,ho,_⟩,_⟩:=I.loc;exact free _ o (λ z=>(hch _ z).2.1 rfl) ho I.free
 ·obtain⟨v,o,ho,hd⟩:=I.cell x c e;exact free c o (λ z=>(hch c z).2.2.1 x c e rfl) ho (I.freeC x c e)
 ·obtain⟨e,n,ne,nf,d⟩:=I.pin p hp;have nch:p.1∉ch:=λ z=>(hch p.1 z).2.2.2 p hp rfl;exact⟨keep p.1 p.2 ne nf nch e n,free p.1 p.2 nch e n,ne,nf,d⟩
theorem Inv.un (I:Inv X π σ H s) (u:Un X.fs [] H H' s.heap h') (hok:HOk X.prog X.w H' h'):Inv X π σ H' { s with heap:=h',toks:=t' }:=by
 obtain⟨m,⟨o,es,ep,ho,r⟩,_⟩:=id I.loc;obtain⟨sl,hL⟩:=u.any ho I.free (by simp);exact I.step (g':=s.gens) (d':=s.drawn) (ch:=[]) (λ _ z=>nomatch z) (λ b o _ hb _ e n=>u.keep b o e n hb (by simp)) (λ b o _ hb _ e n=>u.slot b o e n hb (by simp)) (λ b o _ e n=>u.free b o e n (by simp)) (λ b o _ e=>u.there b o e (by simp)) u.tups u.frzs u.tbls (λ m' hm=>by
  obtain⟨o',es',ep',ho',r'⟩:=hm;rw[ho] at ho';cases ho';exact⟨_,es',ep',hL,r'⟩) hok I.bare
theorem Inv.call {g':Array GenState}{d':Drawn}{ch:List Addr}(I:Inv X π σ H s) (u:Un (frs X.stack) ch H H' s.heap h') (hok:HOk X.prog X.w H' h') (hg:AllBare g')
  (hch:∀ b∈ch,(b∈X.ex∨X.s₀.heap.objs.size<=b)/\b≠X.env.locals/\(∀ x c,X.env.cells.lookup x=some c->c≠b)/\∀ p∈X.pn++π,p.1≠b) :
  Inv X π σ H' { s with heap:=h',gens:=g',drawn:=d',toks:=t' }:=by
 obtain⟨m,⟨o,es,ep,ho,r⟩,_⟩:=id I.loc;obtain⟨sl,hL⟩:=u.any ho I.free λ z=>(hch _ z).2.1 rfl;exact I.step (ch:=ch) hch (λ b o hL hb hc e n=>u.keep b o e n (λ z=>(z06.mp (I.stkSub b z)).elim hL hb) hc) (λ b o _ _ hc e n=>u.any e n hc) (λ b o hc e n=>u.free b o e n hc) (λ b o hc e=>u.there b o e hc) u.tups u.frzs u.tbls (λ m' hm=>by
  obtain⟨o',es',ep',ho',r'⟩:=hm;rw[ho] at ho';cases ho';exact⟨_,es',ep',hL,r'⟩) hok hg
theorem Inv.turned (I:Inv X π σ H s) (k:∀ b o,b≠it->s.heap.get? b=some o->h'.get? b=some o) (hn:H it=none) (hL:it≠X.env.locals)
  (h1:it∈X.ex∨X.s₀.heap.objs.size<=it) (h2:∀ x c,X.env.cells.lookup x=some c->c≠it) (h3:∀ p∈X.pn++π,p.1≠it):Inv X π σ H { s with heap:=h',toks:=t' }:=by
 have nit:∀ b u,H b=some u->b≠it:=λ b u e z=>by rw[z,hn] at e;cases e
 refine I.step (g':=s.gens) (d':=s.drawn) (ch:=[it]) (λ b hb=>?_) (λ b o _ _ hc e _=>k b o (λ z=>hc (by simp[z])) e) (λ b o _ _ hc e _=>⟨o.slots,k b o (λ z=>hc (by simp[z])) e⟩) (λ _ _ _ _ n=>n)
  (λ b o hc e=>⟨o,k b o (λ z=>hc (by simp[z])) e⟩) (λ _ _ e=>e) (λ _ _ _ e=>e) (λ b ps e=>⟨#[],by rw[e];simp⟩) (λ m hm=>?_) (λ b u e=>?_) I.bare
 ·have e:b=it:=by simpa using hb
  subst e;exact⟨h1,hL,h2,h3⟩
 ·obtain⟨o,es,ep,ho,r⟩:=hm;exact⟨o,es,ep,k _ o (Ne.symm hL) ho,r⟩
 ·refine (I.hok b u e).stay (λ c v hc q=>k c v ?_ q) (λ _ q=>q) λ _ _ q=>q
  rcases hc with z | z
  ·rw[z];exact nit b u e
  ·exact nit c _ z
theorem Inv.tok (I:Inv X π σ H s) (t:Nat):Inv X π σ H { s with toks:=t }:=I.un (h':=s.heap) (t':=t) Un.refl I.hok
theorem Inv.kept {t':Nat}(I:Inv X π σ H s) (k:∀ b u,s.heap.get? b=some u->h'.get? b=some u):Inv X π σ H { s with heap:=h',toks:=t' }:=I.un (Un.kept k) (I.hok.kept k)
theorem Inv.laid {a:Addr}{o:HO}{t':Nat}(I:Inv X π σ H s) (k:∀ b u,s.heap.get? b=some u->h'.get? b=some u) (hp:s.heap.objs.size<=a) (new:Bg X.prog X.w (upd H a o) h' a o) :
  Inv X π σ (upd H a o) { s with heap:=h',toks:=t' }:=I.un (Un.laid k hp (I.hok.fresh hp)) (I.hok.laid k hp new)
theorem Inv.write {x e:Addr}{o:HO}{t':Nat}(I:Inv X π σ H s) (mu:Mut (H x)) (he:e=x∨H e=some (.own x)) (k:∀ b u,b≠e->s.heap.get? b=some u->h'.get? b=some u) (heo:∃ u,h'.get? e=some u)
  (new:Bg X.prog X.w (upd H x o) h' x o):Inv X π σ (upd H x o) { s with heap:=h',toks:=t' }:=I.un (Un.write mu he k heo) (I.hok.write mu he k heo new)
theorem Inv.pins_of (I:Inv X π σ H s) (h:∀ p∈pins',s.heap.get? p.1=some p.2/\H p.1=none/\p.1≠X.env.locals/\p.1∉X.fs/\∀ v,p.2.data≠.cell v):Inv X pins' σ H s:=
 ⟨I.ok,I.os,I.bare,I.base,I.loc,I.cell,I.free,I.freeC,λ p hp=>(z0y.mp hp).elim (λ z=>I.pin p (z0F _ z)) (h p),I.hok,I.len⟩
theorem M7 (hN:N.Nodup) {i j:Nat}{x:Str}(a:N[i]?=some x) (b:N[j]?=some x):i=j:=by
 obtain⟨h1,e1⟩:=z0z.mp a;obtain⟨h2,e2⟩:=z0z.mp b;exact (List.getElem_inj hN).mp (e1.trans e2.symm)
theorem Xf {A:Around}{x:Str}{v:V}{Q:Unit->Shared->Prop}(I:Inv X π σ H s) (hN:X.N.Nodup) (hi:X.N[i]?=some x) (hx:Loc X.env.scope x) (r:RelV v u)
  (h:∀ s',Inv X π (σ.set i (some v)) H s'->(∃ a,Heap.SameBut a s.heap s'.heap/\(a=X.env.locals∨X.env.cells.lookup x=some a))->Q () s') (hf:X.fn x=true∨X.env.scope.names.lookup x=some .local :=by first | exact .inl rfl | exact .inr rfl | assumption):wpAny M A (storeName X.env x u) Q E s:=by
 obtain⟨m,hn,hl⟩:=id I.loc;have hcls:(X.env.scope.kind==.class||(X.env.scope.kind==.module&&X.env.locals != X.env.globals))=false:=by rw[I.ok.kind];rfl
 have hiσ:i<σ.length:=by rw[I.len];exact (z0z.mp hi).1
 have cne:=I.cne;have tracked:∀ {a:Addr}{h':Heap},(∃ o,s.heap.get? a=some o/\H a=none)->Heap.SameBut a s.heap h'->HOk X.prog X.w H h':=λ {a h'} ha hs b ob e=>by
  obtain⟨_,_,hfree⟩:=ha;refine (I.hok b ob e).stay (λ c w' hc q=>(hs.2 c ?_).trans q) (λ _ q=>q) λ _ _ q=>q;rintro rfl
  rcases hc with rfl | hc
  ·rw[hfree] at e;cases e
  ·rw[hfree] at hc;cases hc
 rcases hx with hk | hk
 ·refine wpAny_storeName_local hk hn (λ h' hn' hs=>?_) hcls;obtain⟨oL,_,_,hoL,_⟩:=id hn;refine h _ ⟨I.ok,I.os,I.bare,⟨λ b o e n hb hx=>?_,λ b o e n hb hx=>?_,I.base.free,λ b o e hx=>?_,I.base.tups,I.base.frzs,I.base.tbls⟩,⟨_,hn',λ j y v' e1 e2 e3=>?_⟩,λ y c e=>?_,I.free,I.freeC,λ p hp=>?_,tracked ⟨oL,hoL,I.free⟩ hs,by simpa using I.len⟩ ⟨_,hs,.inl rfl⟩
  ·exact (hs.2 b (z0e (z0r (z05 e) I.ok.above))).trans (I.base.keep b o e n hb hx)
  ·obtain⟨sl,e1⟩:=I.base.slot b o e n hb hx;exact⟨sl,(hs.2 b (z0e (z0r (z05 e) I.ok.above))).trans e1⟩
  ·obtain⟨o',e1⟩:=I.base.there b o e hx;exact⟨o',(hs.2 b (z0e (z0r (z05 e) I.ok.above))).trans e1⟩
  ·by_cases hj:j=i
   ·subst hj;rw[hi] at e1;cases e1;rw[z0H hiσ] at e2;cases e2;exact⟨u,r,.inl ⟨hk,by simp⟩⟩
   ·rw[z0n (Ne.symm hj)] at e2;obtain⟨u',r',q⟩:=hl j y v' e1 e2 e3;refine⟨u',r',?_⟩
    rcases q with ⟨k,e⟩ | ⟨k,c,e,z⟩
    ·refine .inl ⟨k,?_⟩;have:y≠x:=λ e=>hj (M7 hN e1 (e▸hi));simp[this,e]
    ·exact .inr ⟨k,c,e,z.sameBut hs (cne y c e)⟩
  ·obtain⟨w',z⟩:=I.cell y c e;exact⟨w',z.sameBut hs (cne y c e)⟩
  ·obtain⟨e,n,ne,nf,d⟩:=I.pin p hp;exact⟨(hs.2 p.1 ne).trans e,n,ne,nf,d⟩
 ·have hfn:X.fn x=true:=by
   rcases hf with z | z
   ·exact z
   ·rw[z] at hk;cases hk
  obtain⟨c,hc⟩:=I.ok.has x (.inl hk);obtain⟨w',z⟩:=I.cell x c hc;refine wpAny_storeName_cell I.ok.kind hk hc z (λ h' hc' hs=>?_);obtain⟨oc,hoc,hocd⟩:=id z;refine h { s with heap:=h' } ⟨I.ok,I.os,I.bare,⟨λ b o e n hb hx=>?_,λ b o e n hb hx=>?_,I.base.free,λ b o e hx=>?_,I.base.tups,I.base.frzs,I.base.tbls⟩,⟨m,hn.sameBut hs (Ne.symm (cne x c hc)),λ j y v' e1 e2 e3=>?_⟩,λ y c' e=>?_,I.free,I.freeC,λ p hp=>?_,tracked ⟨oc,hoc,I.freeC x c hc⟩ hs,by simpa using I.len⟩ ⟨c,hs,.inr hc⟩
  ·exact (hs.2 b (z0e (z0r (z05 e) (I.ok.cab x c hfn hc)))).trans (I.base.keep b o e n hb hx)
  ·obtain⟨sl,e1⟩:=I.base.slot b o e n hb hx;exact⟨sl,(hs.2 b (z0e (z0r (z05 e) (I.ok.cab x c hfn hc)))).trans e1⟩
  ·obtain⟨o',e1⟩:=I.base.there b o e hx;exact⟨o',(hs.2 b (z0e (z0r (z05 e) (I.ok.cab x c hfn hc)))).trans e1⟩
  ·by_cases hj:j=i
   ·subst hj;rw[hi] at e1;cases e1;rw[z0H hiσ] at e2;cases e2;exact⟨u,r,.inr ⟨.inl hk,c,hc,hc'⟩⟩
   ·rw[z0n (Ne.symm hj)] at e2;obtain⟨u',r',q⟩:=hl j y v' e1 e2 e3;refine⟨u',r',?_⟩
    rcases q with q | ⟨k,c',e,z'⟩
    ·exact .inl q
    ·refine .inr ⟨k,c',e,z'.sameBut hs ?_⟩;rintro rfl;exact hj (M7 hN e1 (I.ok.inj _ _ _ e hc▸hi))
  ·by_cases hcc:c'=c
   ·subst hcc;exact⟨_,hc'⟩
   ·obtain⟨w2,z2⟩:=I.cell y c' e;exact⟨w2,z2.sameBut hs hcc⟩
  ·obtain⟨e,n,ne,nf,d⟩:=I.pin p hp;refine⟨(hs.2 p.1 ?_).trans e,n,ne,nf,d⟩;intro q;rw[q,hoc] at e;have q':oc=p.2:=z0f e;exact d w' (by rw[<-q'];exact hocd)
theorem M8 {A:Around}{x:Str}{v:V}{Q:Unit->Shared->Prop}(I:Inv X π σ H s) (hN:X.N.Nodup) (hi:X.N[i]?=some x) (hx:Loc X.env.scope x) (r:RelV v u)
  (h:∀ s',Inv X π (σ.set i (some v)) H s'->Q () s') (hf:X.fn x=true∨X.env.scope.names.lookup x=some .local :=by first | exact .inl rfl | exact .inr rfl | assumption):wpAny M A (storeName X.env x u) Q E s:=
 Xf I hN hi hx r (λ s' I' _=>h s' I') hf
theorem Inv.call' {ch:List Addr}(I:Inv X π σ H s) (ho:s'.os=s.os) (u:Un (frs X.stack) ch H H' s.heap s'.heap) (hok:HOk X.prog X.w H' s'.heap) (hg:AllBare s'.gens)
  (hch:∀ b∈ch,(b∈X.ex∨X.s₀.heap.objs.size<=b)/\b≠X.env.locals/\(∀ x c,X.env.cells.lookup x=some c->c≠b)/\∀ p∈X.pn++π,p.1≠b):Inv X π σ H' s':=by
 obtain⟨h',g',d',t',o'⟩:=s';have e:o'=s.os:=ho;subst e;exact I.call (g':=g') (t':=t') (d':=d') u hok hg hch
end
abbrev XK:=Value->Option Addr->Hp->Prop
abbrev St:=List (Option V)
abbrev VK:=V->Hp->Prop
abbrev TE:=St->Hp->VK->Prop
abbrev TT:=St->Hp->(Bool->Hp->Prop)->Prop
abbrev TA:=St->Hp->(List V->Hp->Prop)->Prop
structure Ends where
 nx:St->Hp->Prop
 rt:VK
 bk:St->Hp->Prop:=λ _ _=>False
 ct:St->Hp->Prop:=λ _ _=>False
abbrev TS:=Ends->St->Hp->Prop
def EP (X:Cx) (π:zP) (σ:St) (Q:VK) (u:Value) (s':Shared):Prop:=∃ v H',Inv X π σ H' s'/\RelV v u/\Q v H'
def TP (X:Cx) (π:zP) (σ:St) (Q:Bool->Hp->Prop) (b:Bool) (s':Shared):Prop:=∃ H',Inv X π σ H' s'/\Q b H'
def AP (X:Cx) (π:zP) (σ:St) (Q:List V->Hp->Prop) (us:List Value) (s':Shared):Prop:=∃ vs H',Inv X π σ H' s'/\Vals vs us/\Q vs H'
def SP (X:Cx) (π:zP) (D:Ends) (f:Flow) (s':Shared):Prop:=
 match f with
 | .next=>∃ σ' H',Inv X π σ' H' s'/\D.nx σ' H'
 | .brk=>∃ σ' H',Inv X π σ' H' s'/\D.bk σ' H'
 | .cont=>∃ σ' H',Inv X π σ' H' s'/\D.ct σ' H'
 | .ret u=>∃ v σ' H',Inv X π σ' H' s'/\RelV v u/\D.rt v H'
def PE (X:Cx) (e:Expr) (t:TE):Prop:=
 ∀ (π:zP) (s:Shared) (σ:St) (H:Hp) (Q:VK),Inv X π σ H s->t σ H Q->wpAny (model X.prog X.w) X.A (eval e X.env) (EP X π σ Q) X.xe s
def PT (X:Cx) (e:Expr) (t:TT):Prop:=
 ∀ (π:zP) (s:Shared) (σ:St) (H:Hp) (Q:Bool->Hp->Prop),Inv X π σ H s->t σ H Q->wpAny (model X.prog X.w) X.A (isTrue e X.env (eval e X.env)) (TP X π σ Q) X.xe s
def PW (X:Cx) (e:Expr) (t:TT):Prop:=
 ∀ (whole:Sem Value) (π:zP) (s:Shared) (σ:St) (H:Hp) (Q:Bool->Hp->Prop),Inv X π σ H s->t σ H Q->wpAny (model X.prog X.w) X.A (isTrue e X.env whole) (TP X π σ Q) X.xe s
theorem PW.pt {X:Cx}{t:TT}(h:PW X e t):PT X e t:=h _
def PA (X:Cx) (es:List Expr) (t:TA):Prop:=
 ∀ (pos:Pos) (π:zP) (s:Shared) (σ:St) (H:Hp) (Q:List V->Hp->Prop),Inv X π σ H s->t σ H Q->wpAny (model X.prog X.w) X.A (spliced (backTo pos (starEach es X.env))) (AP X π σ Q) X.xe s
def PS (X:Cx) (st:Stmt) (t:TS):Prop:=
 ∀ (π:zP) (s:Shared) (σ:St) (H:Hp) (D:Ends),Inv X π σ H s->t D σ H->wpAny (model X.prog X.w) X.A (exec st X.env) (SP X π D) X.xe s
def PSs (X:Cx) (st:List Stmt) (t:TS):Prop:=
 ∀ (π:zP) (s:Shared) (σ:St) (H:Hp) (D:Ends),Inv X π σ H s->t D σ H->wpAny (model X.prog X.w) X.A (execs st X.env) (SP X π D) X.xe s
theorem thn {α:Type}{t:Sem α}{Q Q':α->Shared->Prop}{A:Around}(h:wpAny M A t Q E s) (hQ:∀ a s,Q a s->Q' a s):wpAny M A t Q' E s:=z0B h hQ λ _ _ x=>x
section
variable {X:Cx}
def tVar (i:Nat):TE:=λ σ H Q=>∃ v,σ[i]?=some (some v)/\Q v H
def tC (v:V):TE:=λ _ H Q=>Q v H
theorem jT {x:Str}(hN:X.N[i]?=some x) (hv:Vis X.env.scope x) (hd:(x==("__debug__":Str))=false:=by decide) (hcd:(x==("__classdict__":Str))=false:=by decide):PE X (.Name x pos) (tVar i):=by
 intro π s σ H Q I h;obtain⟨v,e,h⟩:=h;obtain⟨m,hn,hl⟩:=I.loc;obtain⟨u,r,l⟩:=hl i x v hN e hv;have fin:EP X π σ Q u s:=⟨v,H,I,r,h⟩
 rcases l with ⟨hk,hm⟩ | ⟨hk,c,hc,hcell⟩
 ·exact wpAny_Name (wpAny_loadName_local I.ok.kind hk hn hm fin) hd
 ·rcases hk with hk | hk
  ·exact wpAny_Name (wpAny_loadName_cell I.ok.kind hk hc hcell fin) hd
  ·exact wpAny_Name (wpAny_loadName_free I.ok.kind hk hc hcell fin hcd) hd
theorem jU {i j pos}:PE X (.Constant (.int i) j pos) (tC (.int i)):=λ _ _ _ H _ I h=>wpAny_Constant_int ⟨.int i,H,I.tok _,⟨_,rfl⟩,h⟩
theorem nD {b j pos}:PE X (.Constant (.bool b) j pos) (tC (.bl b)):=λ _ _ _ H _ I h=>Constant_bool ⟨.bl b,H,I,rfl,h⟩
theorem jV {j pos}:PE X (.Constant .none j pos) (tC .non):=λ _ _ _ H _ I h=>Constant_none ⟨.non,H,I,rfl,h⟩
theorem jW {x j pos}:PE X (.Constant (.str x) j pos) (tC (.str x)):=λ _ _ _ H _ I h=>Calls.Constant_str ⟨.str x,H,I.tok _,⟨_,rfl⟩,h⟩
def Gl (X:Cx) (x:Str):Prop:=X.env.kindOf x=some .globalImplicit
theorem GF {σ:St}{H:Hp}{x:Str}{Q:zQ}(I:Inv X π σ H s) (hg:Gl X x) (hm:X.mg x=some u) (h:Q u s)
  (hd:(x==("__debug__":Str))=false:=by decide):wpAny (model X.prog X.w) X.A (eval (.Name x pos) X.env) Q E s:=
 Calls.Name_function_global I.ok.kind hg (Calls.loadGlobal_global (by rw[I.ok.glob];exact I.mod.glob.keeps I.bk) hm h) hd
theorem QK {σ:St}{H:Hp}{x:Str}{Q:zQ}(I:Inv X π σ H s) (hg:Gl X x) (hm:X.mg x=none) (hv:bootBuiltins x=some u) (h:Q u s)
  (hn:x≠"__name__":=by decide) (hd:(x==("__debug__":Str))=false:=by decide):wpAny (model X.prog X.w) X.A (eval (.Name x pos) X.env) Q E s:=by
 obtain⟨mb,h1,h2⟩:=I.mod.blt;exact Calls.Name_function_global I.ok.kind hg (Calls.loadGlobal_builtin (by rw[I.ok.glob];exact I.mod.glob.keeps I.bk) hm (by rw[I.ok.blt];exact h1.keeps I.bk) ((h2 x hn).trans hv) h) hd
theorem GJ {x:Str}{v:V}(hg:Gl X x) (hm:X.mg x=some u) (r:RelV v u) (hd:(x==("__debug__":Str))=false:=by decide):PE X (.Name x pos) (tC v):=
 λ _ _ _ H _ I h=>GF I hg hm ⟨v,H,I,r,h⟩ hd
theorem bz {x:Str}{v:V}(hg:Gl X x) (hm:X.mg x=none) (hv:bootBuiltins x=some u) (r:RelV v u) (hn:x≠"__name__":=by decide) (hd:(x==("__debug__":Str))=false:=by decide):PE X (.Name x pos) (tC v):=
 λ _ _ _ H _ I h=>QK I hg hm hv ⟨v,H,I,r,h⟩ hn hd
def t2I (ta tb:TE) (k:Int->Int->Hp->Prop):St->Hp->Prop:=λ σ H=>ta σ H λ x H1=>tb σ H1 λ y H2=>∃ i j,x=.int i/\y=.int j/\k i j H2
variable {a b:Expr}{ta tb:TE}
def tCmp (p:Int->Int->Bool) (ta tb:TE):TE:=λ σ H Q=>t2I ta tb (λ i j H2=>Q (.bl (p i j)) H2) σ H
abbrev tLt:TE->TE->TE:=tCmp λ i j=>decide (i<j)
abbrev tGt:TE->TE->TE:=tCmp λ i j=>decide (j<i)
abbrev tGe:TE->TE->TE:=tCmp λ i j=>decide (j<=i)
variable {tA tB':TT}{rest:List Expr}
def tAnd (t u:TT):TT:=λ σ H Q=>t σ H λ c H1=>if c=true then u σ H1 Q else Q false H1
def tOr (t u:TT):TT:=λ σ H Q=>t σ H λ c H1=>if c=true then Q true H1 else u σ H1 Q
def tNot (t:TT):TT:=λ σ H Q=>t σ H λ c H1=>Q (!c) H1
theorem b_ (ha:PT X a tA):PW X (.BoolOp .And [a] pos) tA:=by
 intro wh π s σ H Q I h;refine isTrue_and (thn (ha π s σ H Q I h) λ c s1 e=>?_);cases c with
 | true=>exact isTrue_and_nil e
 | false=>exact e
theorem YW (ha:PT X a tA):PW X (.BoolOp .Or [a] pos) tA:=by
 intro wh π s σ H Q I h;refine isTrue_or (thn (ha π s σ H Q I h) λ c s1 e=>?_);cases c with
 | false=>exact isTrue_or_nil e
 | true=>exact e
theorem jX (ha:PT X a tA) (hb:PW X (.BoolOp .And (b::rest) pos) tB'):PW X (.BoolOp .And (a::b::rest) pos) (tAnd tA tB'):=by
 intro wh π s σ H Q I h;refine isTrue_and (thn (ha π s σ H _ I h) λ c s1 ⟨H1,I1,q1⟩=>?_);cases c with
 | true=>exact hb wh π s1 σ H1 Q I1 q1
 | false=>exact⟨H1,I1,q1⟩
theorem gZ (ha:PT X a tA) (hb:PW X (.BoolOp .Or (b::rest) pos) tB'):PW X (.BoolOp .Or (a::b::rest) pos) (tOr tA tB'):=by
 intro wh π s σ H Q I h;refine isTrue_or (thn (ha π s σ H _ I h) λ c s1 ⟨H1,I1,q1⟩=>?_);cases c with
 | true=>exact⟨H1,I1,q1⟩
 | false=>exact hb wh π s1 σ H1 Q I1 q1
theorem jY (ha:PT X a tA):PT X (.UnaryOp .Not a pos) (tNot tA):=by
 intro π s σ H Q I h;exact isTrue_not (ha π s σ H (λ c H1=>Q (!c) H1) I h)
end
def SqL (K:zFr) (H:Hp) (a:Addr) (xs:List V):Prop:=
 Rd H a (.lst xs) ∨
  ∃ (o:Obj) (its:Array Value) (n:Nat),K.lookup a=some o/\o.cls=.type "list"/\o.dict=none/\o.data=.seq its n/\its.size<=sizeLine/\Vals xs its.toList
def SqT (K:zFr) (H:Hp) (a:Addr) (xs:List V):Prop:=
 Rd H a (.tup xs) ∨
  ∃ (o:Obj) (its:Array Value) (n:Nat),K.lookup a=some o/\o.cls=.type "tuple"/\o.data=.seq its n/\its.size<=sizeLine/\Vals xs its.toList
def absV:Value->Option V
 | .none=>some .non
 | .bool b=>some (.bl b)
 | .int i _=>some (.int i)
 | .str x _=>some (.str x)
 | .bytes b _=>some (.byt b)
 | .float b _=>some (.flt b)
 | .ref a=>some (.ref a)
 | .type n=>some (.ty n)
 | _=>none
theorem RelV.abs {x:V}(r:RelV x u):absV u=some x:=by
 cases x with
 | non=>cases r;rfl
 | bl _=>cases r;rfl
 | int _=>obtain⟨t,rfl⟩:=r;rfl
 | str _=>obtain⟨t,rfl⟩:=r;rfl
 | byt _=>obtain⟨t,rfl⟩:=r;rfl
 | flt _=>obtain⟨t,rfl⟩:=r;rfl
 | ref _=>cases r;rfl
 | ty _=>cases r;rfl
theorem RelV.inj {x y:V}{u:Value}(r:RelV x u) (q:RelV y u):x=y:=z0f (r.abs.symm.trans q.abs)
theorem Vals.inj:∀ {xs ys:List V}{us:List Value},Vals xs us->Vals ys us->xs=ys
 | _,_,_,.nil,.nil=>rfl
 | _,_,_,.cons r t,.cons r' t'=>by rw[r.inj r',Vals.inj t t']
section
variable {X:Cx}{σ:St}{H:Hp}{xs ys:List V}
theorem SqL.of {K:zFr}(h:H a=some (.lst xs)):SqL K H a xs:=.inl (.inl h)
theorem SqT.of {K:zFr}(h:H a=some (.tup xs)):SqT K H a xs:=.inl (.inl h)
theorem Inv.list (I:Inv X π σ H s) (h:SqL X.K H a xs):∃ its:List Value,Vals xs its/\PlainL s.heap a its.toArray/\xs.length<=sizeLine:=by
 rcases h with h | ⟨o,its,n,hk,hc,hd,hs,hz,r⟩
 ·obtain⟨z,its,n,r,e⟩:=h.ok I.hok;exact⟨its,r,⟨_,n,e,rfl,rfl,rfl⟩,z⟩
 ·refine⟨its.toList,r,⟨o,n,I.kIn a o hk,hc,hd,by simpa using hs⟩,?_⟩;have e:=r.length;simp only[z1l] at e;omega
theorem Inv.tuple (I:Inv X π σ H s) (h:SqT X.K H a xs):∃ its:List Value,Vals xs its/\IsTup s.heap a its.toArray/\xs.length<=sizeLine:=by
 rcases h with h | ⟨o,its,n,hk,hc,hs,hz,r⟩
 ·obtain⟨z,its,r,p⟩:=h.ok I.hok;exact⟨its,r,p,z⟩
 ·refine⟨its.toList,r,⟨o,I.kIn a o hk,hc,n,by simpa using hs⟩,?_⟩;have e:=r.length;simp only[z1l] at e;omega
theorem Inv.list_inj (I:Inv X π σ H s) (h:SqL X.K H a xs) (h':SqL X.K H a ys):xs=ys:=by
 obtain⟨its,r,⟨o,n,e,_,_,d⟩,_⟩:=I.list h;obtain⟨its',r',⟨o',n',e',_,_,d'⟩,_⟩:=I.list h';rw[e] at e';cases e';rw[d] at d';injection d' with d1 _
 have:its=its':=by simpa using congrArg Array.toList d1
 subst this;exact r.inj r'
theorem Inv.tuple_inj (I:Inv X π σ H s) (h:SqT X.K H a xs) (h':SqT X.K H a ys):xs=ys:=by
 obtain⟨its,r,⟨o,e,_,n,d⟩,_⟩:=I.tuple h;obtain⟨its',r',⟨o',e',_,n',d'⟩,_⟩:=I.tuple h';rw[e] at e';cases e';rw[d] at d';injection d' with d1 _
 have:its=its':=by simpa using congrArg Array.toList d1
 subst this;exact r.inj r'
end
abbrev Cx.wish (X:Cx) (E:zQ):Cx:={ X with xe:=E }
abbrev Cx.nox (X:Cx):Cx:=X.wish λ _ _=>False
theorem Cx.Ok.wish {X:Cx}(ok:X.Ok) (E:zQ):(X.wish E).Ok:=
 ⟨ok.mod,ok.kind,ok.glob,ok.blt,ok.above,ok.inj,ok.has,ok.cab,ok.hd,ok.frames,ok.stk,ok.exf,ok.bs,ok.bsz,ok.noex,ok.exfs,ok.funs,ok.frf⟩
theorem Cx.Ok.unwish {X:Cx}(ok:(X.wish E).Ok):X.Ok:=
 ⟨ok.mod,ok.kind,ok.glob,ok.blt,ok.above,ok.inj,ok.has,ok.cab,ok.hd,ok.frames,ok.stk,ok.exf,ok.bs,ok.bsz,ok.noex,ok.exfs,ok.funs,ok.frf⟩
section
variable {X:Cx}{σ:St}{H:Hp}
theorem Inv.wish (I:Inv X π σ H s) (E:zQ):Inv (X.wish E) π σ H s:=⟨I.ok.wish E,I.os,I.bare,I.base,I.loc,I.cell,I.free,I.freeC,I.pin,I.hok,I.len⟩
theorem Inv.unwish (I:Inv (X.wish E) π σ H s):Inv X π σ H s:=⟨I.ok.unwish,I.os,I.bare,I.base,I.loc,I.cell,I.free,I.freeC,I.pin,I.hok,I.len⟩
theorem SP.unwish {D:Ends}{f:Flow}{s':Shared}(h:SP (X.wish E) π D f s'):SP X π D f s':=by
 cases f with
 | next=>obtain⟨σ',H',I,q⟩:=h;exact⟨σ',H',I.unwish,q⟩
 | brk=>obtain⟨σ',H',I,q⟩:=h;exact⟨σ',H',I.unwish,q⟩
 | cont=>obtain⟨σ',H',I,q⟩:=h;exact⟨σ',H',I.unwish,q⟩
 | ret u=>obtain⟨v,σ',H',I,r,q⟩:=h;exact⟨v,σ',H',I.unwish,r,q⟩
theorem PE.nox {t:TE}(h:PE X.nox e t):PE X e t:=λ π s σ H Q I hw=>
 z0B (h π s σ H Q (I.wish _) hw) (λ _ _ ⟨v,H',I',r,q⟩=>⟨v,H',I'.unwish,r,q⟩) λ _ _ z=>False.elim z
theorem PT.nox {t:TT}(h:PT X.nox e t):PT X e t:=λ π s σ H Q I hw=>
 z0B (h π s σ H Q (I.wish _) hw) (λ _ _ ⟨H',I',q⟩=>⟨H',I'.unwish,q⟩) λ _ _ z=>False.elim z
theorem PSs.nox {st:List Stmt}{t:TS}(h:PSs X.nox st t):PSs X st t:=λ π s σ H D I hw=>
 z0B (h π s σ H D (I.wish _) hw) (λ _ _ q=>q.unwish) λ _ _ z=>False.elim z
end
section
variable {X:Cx}{rest:List Stmt}{t u:TS}{te:TE}
def nF:TS:=λ D σ H=>D.nx σ H
def tSeq (t u:TS):TS:=λ D σ H=>t { D with nx:=u D } σ H
theorem Lk:PSs X [] nF:=λ _ _ σ H _ I h=>wpAny_execs_nil ⟨σ,H,I,h⟩
theorem Dr (h1:PS X st t) (h2:PSs X rest u):PSs X (st::rest) (tSeq t u):=by
 intro π s σ H D I h;refine wpAny_execs_cons (thn (h1 π s σ H { D with nx:=u D } I h) λ f s1 q=>?_);cases f with
 | next=>
  obtain⟨σ',H',I',q⟩:=q;exact h2 π s1 σ' H' D I' q
 | ret v=>exact q
 | brk=>exact q
 | cont=>exact q
theorem Gw (h1:PS X st t):PSs X [st] t:=by
 intro π s σ H D I h;refine wpAny_execs_cons (thn (h1 π s σ H D I h) λ f s1 q=>?_);cases f with
 | next=>exact wpAny_execs_nil q
 | ret v=>exact q
 | brk=>exact q
 | cont=>exact q
theorem Inv.quiet {σ:St}{H:Hp}(I:Inv X π σ H s):interactive X.env=false:=by simp[interactive,I.ok.kind]
def YX (te:TE):TS:=λ D σ H=>te σ H λ _ H1=>D.nx σ H1
theorem Ie (he:PE X e te) (hs:swapsWith e none pos.line X.env=pure false:=by rfl):PS X (.Expr e pos) (YX te):=by
 intro π s σ H D I h;exact wpAny_Expr_any (thn (he π s σ H _ I h) λ v s1 ⟨x,H1,I1,r1,q1⟩=>⟨σ,H1,I1,q1⟩) I.quiet hs
def tRet (te:TE):TS:=λ D σ H=>te σ H D.rt
theorem YZ (he:PE X e te):PS X (.Return (some e) pos) (tRet te):=by
 intro π s σ H D I h;exact wpAny_Return_some (thn (he π s σ H _ I h) λ v s1 ⟨x,H1,I1,r1,q1⟩=>⟨x,σ,H1,I1,r1,q1⟩)
def nG:TS:=λ D _ H=>D.rt .non H
theorem cA:PS X (.Return none pos) nG:=λ _ _ σ H _ I h=>wpAny_Return_none ⟨.non,σ,H,I,rfl,h⟩
def tIfS (c:TT) (t u:TS):TS:=λ D σ H=>c σ H λ b H1=>if b=true then t D σ H1 else u D σ H1
theorem VN {c:Expr}{a b:List Stmt}{tc:TT}(hc:PT X c tc) (ha:PSs X a t) (hb:PSs X b u):PS X (.If c a b pos) (tIfS tc t u):=by
 intro π s σ H D I h;refine wpAny_If (thn (hc π s σ H _ I h) λ d s1 ⟨H1,I1,q1⟩=>?_);cases d with
 | true=>exact ha π s1 σ H1 D I1 q1
 | false=>exact hb π s1 σ H1 D I1 q1
end
abbrev TG:=V->St->Hp->(St->Hp->Prop)->Prop
abbrev TGs:=List V->St->Hp->(St->Hp->Prop)->Prop
def PG (X:Cx) (target:Expr) (t:TG):Prop:=
 ∀ (π:zP) (s:Shared) (σ:St) (H:Hp) (v:V) (u:Value) (Q:St->Hp->Prop),Inv X π σ H s->RelV v u->t v σ H Q ->
  wpAny (model X.prog X.w) X.A (assign target X.env u) (λ _ s'=>∃ σ' H',Inv X π σ' H' s'/\Q σ' H') X.xe s
def PGs (X:Cx) (ts:List Expr) (t:TGs):Prop:=
 ∀ (π:zP) (s:Shared) (σ:St) (H:Hp) (vs:List V) (us:List Value) (Q:St->Hp->Prop),Inv X π σ H s->Vals vs us->t vs σ H Q ->
  wpAny (model X.prog X.w) X.A (assignInOrder ((assignEach ts X.env).map (·.2)) us) (λ _ s'=>∃ σ' H',Inv X π σ' H' s'/\Q σ' H') X.xe s
section
variable {X:Cx}
def GK (i:Nat):TG:=λ v σ H Q=>Q (σ.set i (some v)) H
theorem VP {x:Str}(hN:X.N.Nodup) (hi:X.N[i]?=some x) (hx:Loc X.env.scope x) (hf:X.fn x=true∨X.env.scope.names.lookup x=some .local :=by first | exact .inl rfl | exact .inr rfl | assumption):PG X (.Name x pos) (GK i):=by
 intro π s σ H v u Q I r h;exact wpAny_assign_Name (M8 I hN hi hx r (λ s' I'=>⟨_,H,I',h⟩) hf)
def gNil:TGs:=λ vs σ H Q=>vs=[]/\Q σ H
def nH (t:TG) (u:TGs):TGs:=λ vs σ H Q=>∃ v r,vs=v::r/\t v σ H λ σ' H'=>u r σ' H' Q
theorem cB:PGs X [] gNil:=by
 intro π s σ H vs us Q I r h;obtain⟨e,h⟩:=h;subst e;cases r;exact assignInOrder_nil ⟨σ,H,I,h⟩
theorem Yb {t:TG}{u:TGs}(h1:PG X e t) (h2:PGs X es u)
  (hs:(assignEach (e::es) X.env).map (·.2)=assign e X.env::(assignEach es X.env).map (·.2):=by rfl):PGs X (e::es) (nH t u):=by
 intro π s σ H vs us Q I r h;obtain⟨v,vr,e1,h⟩:=h;subst e1;cases r with
 | cons r rr=>
  rw[hs];refine assignInOrder_cons (thn (h1 π s σ H _ _ _ I r h) λ _ s1 ⟨σ1,H1,I1,q1⟩=>?_);exact h2 π s1 σ1 H1 _ _ Q I1 rr q1
def gTup (K:zFr) (n:Nat) (t:TGs):TG:=λ v σ H Q=>∃ a xs,v=.ref a/\SqT K H a xs/\xs.length=n/\t xs σ H Q
theorem jZ {k:Nat}{t:TGs}{n:Nat}(hc:X.calm=true) (h:PGs X es t)
  (hn:(assignEach es X.env).length=n:=by rfl) (hst:(assignEach es X.env).findIdx? (·.1)=none:=by rfl):PG X (.Tuple es k pos) (gTup X.K n t):=by
 intro π s σ H v u Q I r hw;obtain⟨a,xs,e1,hq,hl,hw⟩:=hw;subst e1;cases r;obtain⟨its,rv,ht,hz⟩:=I.tuple hq;refine assign_Tuple_tuple (I.ok.hd hc) ht (by simp[hn,<-hl,rv.length]) hst λ h' hx=>?_;have I1:Inv X π σ H { s with heap:=h' }:=I.kept (t':=s.toks) λ b o e=>hx b o (z0e (z05 e)) e;exact h π _ σ H xs _ Q I1 (by simpa using rv) hw
def tAsg (te:TE) (g:TG):TS:=λ D σ H=>te σ H λ x H1=>g x σ H1 D.nx
theorem jb {te:TE}{g:TG}(he:PE X e te) (hg:PG X tg g) (hs:swapsWithSole [tg] e pos.line X.env=pure false:=by rfl) (hw:swappedStores [tg] e X.env=pure none:=by rfl)
  (h1:(assignEach [tg] X.env).map (·.2)=[assign tg X.env]:=by rfl):PS X (.Assign [tg] e pos) (tAsg te g):=by
 intro π s σ H D I h;refine wpAny_Assign_stores (thn (he π s σ H _ I h) λ v s1 ⟨x,H1,I1,r1,q1⟩=>?_) hs hw;rw[h1];exact thn (hg π s1 σ H1 x v _ I1 r1 q1) λ _ s2 q=>q
theorem QL {x:Str}{te:TE}(hN:X.N.Nodup) (hi:X.N[i]?=some x) (hx:Loc X.env.scope x) (he:PE X e te) (hs:swapsWith e (some (.Name x pos')) pos.line X.env=pure false:=by rfl) (hf:X.fn x=true∨X.env.scope.names.lookup x=some .local :=by first | exact .inl rfl | exact .inr rfl | assumption) :
  PS X (.Assign [.Name x pos'] e pos) (tAsg te (GK i)):=by
 intro π s σ H D I h;refine wpAny_Assign_Name (thn (he π s σ H _ I h) λ v s1 ⟨y,H1,I1,r1,q1⟩=>?_) hs;exact M8 I1 hN hi hx r1 (λ s2 I2=>⟨_,H1,I2,q1⟩) hf
end
section
variable {X:Cx}
end
structure It where
 go:Nat->Hp->Prop
 yld:Nat->Hp->V->Hp->Prop
 stop:Nat->Hp->Prop
def FpOk (X:Cx) (π:zP) (H:Hp) (b:Addr):Prop:=
 H b=none/\b≠X.env.locals/\b∉X.fs/\(b∈X.ex∨X.s₀.heap.objs.size<=b)/\(∀ x c,X.env.cells.lookup x=some c->c≠b)/\∀ p∈X.pn++π,p.1≠b
theorem Inv.fpOk {X:Cx}{σ:St}{H H':Hp}(I:Inv X π σ H s) (hb:s.heap.objs.size<=b) (hn:H' b=none):FpOk X π H' b:=by
 refine⟨hn,Nat.ne_of_gt (z0r I.lt hb),I.nofs hb,.inr (z0j I.sz hb),λ x c e z=>?_,λ p hp z=>?_⟩
 ·obtain⟨v,q⟩:=I.cell x c e;exact absurd (z0r q.lt (by rw[z];exact hb)) (z15 _)
 ·exact absurd (z0r (z05 (I.pin p hp).1) (by rw[z];exact hb)) (z15 _)
structure Turn (P:Program) (w:World) (K:zFr) (tg:Expr) (J:It) (fp:List Addr) (it:Addr) (tn:Nat->Heap->Prop):Prop where
 mem:it∈fp
 obj:∀ i h,tn i h->∀ b∈fp,∃ o,h.get? b=some o/\∀ v,o.data≠.cell v
 keep:∀ i h h',tn i h->(∀ b∈fp,∀ o,h.get? b=some o->h'.get? b=some o)->tn i h'
 item:∀ (X:Cx),X.prog=P->X.w=w->X.K=K->X.calm=true->∀ (i:Nat) (π:zP) (s:Shared) (σ:St) (H:Hp) (E:zQ),Inv X π σ H s->(∀ b∈fp,FpOk X π H b)->tn i s.heap->J.go i H ->
  wpAny (model P w) X.A (pyNext (.ref it)) (λ r s1=>∃ u,r=some u ∧
   wpAny (model P w) X.A (letOwnedTupleGo tg (.ref it) u) (λ _ s2=>∃ x H',Inv X π σ H' s2/\RelV x u/\J.yld i H x H'/\tn (i+1) s2.heap/\∀ b∈fp,H' b=none) E s1) E s
 done:∀ (X:Cx),X.prog=P->X.w=w->X.K=K->X.calm=true->∀ (i:Nat) (π:zP) (s:Shared) (σ:St) (H:Hp) (E:zQ),Inv X π σ H s->(∀ b∈fp,FpOk X π H b)->tn i s.heap->J.stop i H ->
  wpAny (model P w) X.A (pyNext (.ref it)) (λ r s1=>r=none/\Inv X π σ H s1) E s
 self:∀ (A:Around) (i:Nat) (s:Shared) (Q:zQ) (E:zQ),tn i s.heap->Q (.ref it) s->wpAny (model P w) A (pyIter (.ref it)) Q E s
abbrev TI:=St->Hp->(It->Hp->Prop)->Prop
def PIE (X:Cx) (π:zP) (σ:St) (tg:Expr) (R:It->Hp->Prop) (itv:Value) (s2:Shared):Prop:=
 ∃ (it:Addr) (fp:List Addr) (tn:Nat->Heap->Prop) (J:It) (H':Hp),itv=.ref it/\Inv X π σ H' s2/\Turn X.prog X.w X.K tg J fp it tn/\tn 0 s2.heap/\(∀ b∈fp,FpOk X π H' b)/\R J H'
def PI (X:Cx) (tg iter:Expr) (wi:TI):Prop:=
 ∀ (π:zP) (s:Shared) (σ:St) (H:Hp) (R:It->Hp->Prop),Inv X π σ H s->wi σ H R ->
  wpAny (model X.prog X.w) X.A (eval iter X.env) (λ v s1=>wpAny (model X.prog X.w) X.A (pyIter v) (PIE X π σ tg R) X.xe s1) X.xe s
theorem SM {A:Around}{o:Obj}{n:String}{vs:Array Value}{Q:Unit->Shared->Prop}(ho:s.heap.get? it=some o) (hc:o.cls=.type n) (hd:o.data=.fields vs)
    (hn:["enumerate","zip","dict_itemiterator","dict_reverseitemiterator","odict_iterator","itertools.zip_longest","itertools.pairwise"].contains n=false) (hQ:Q () s):wpAny M A (letOwnedTupleGo tg (.ref it) u) Q E s:=by
  unfold letOwnedTupleGo;cases tg<;>first
    | exact z02 hQ
    | (cases u<;>first
        | exact z02 hQ
        | (refine z00 (wpAny_load ho ?_)
           rw[hc,hd];show wpAny M A (if (["enumerate","zip","dict_itemiterator","dict_reverseitemiterator","odict_iterator","itertools.zip_longest","itertools.pairwise"].contains n&&vs[0]?==some (rawInt _))=true then _ else _) Q E s;rw[if_neg (by intro h;rw[hn,Bool.false_and] at h;cases h)];exact z02 hQ))
def Itl (K:zFr) (a:Addr):It:=
 ⟨λ i H=>∃ xs x,SqL K H a xs/\xs[i]?=some x,λ i H x H'=>H'=H/\∀ xs,SqL K H a xs->xs[i]?=some x,λ i H=>∃ xs,SqL K H a xs/\xs.length<=i⟩
def Itt (K:zFr) (a:Addr):It:=
 ⟨λ i H=>∃ xs x,SqT K H a xs/\xs[i]?=some x,λ i H x H'=>H'=H/\∀ xs,SqT K H a xs->xs[i]?=some x,λ i H=>∃ xs,SqT K H a xs/\xs.length<=i⟩
def Itr (lo:Int) (n:Nat):It:=⟨λ i _=>i<n,λ i H x H'=>H'=H/\x=.int (lo+i),λ i _=>n<=i⟩
theorem Xg {K:zFr}(a it:Addr):Turn P w K tg (Itl K a) [it] it (λ i h=>h.IsListIter it a i) where
 mem:=by simp
 obj:=λ i h st b hb=>by
  have e:b=it:=by simpa using hb
  subst e;obtain⟨o,e,c,d⟩:=st;exact⟨o,e,λ v z=>by rw[d] at z;cases z⟩
 keep:=λ i h h' st k=>st.at λ o e=>k it (by simp) o e
 item:=by
  intro X hP hw hK hc i π s σ H E I hf st hg;subst hP hw hK;obtain⟨xs,x,hq,hx⟩:=hg;obtain⟨its,rv,p,hz⟩:=I.list hq;obtain⟨u,hu,ru⟩:=rv.get hx;obtain⟨f0,f1,f2,f3,f4,f5⟩:=hf it (by simp);refine wpAny_pyNext_list_item st p.isList (x:=u) (by simpa using hu) λ h' st' sb=>?_;have I1:Inv X π σ H { s with heap:=h' }:=I.turned (t':=s.toks) (λ b o hb e=>(sb.2 b hb).trans e) f0 f1 f3 f4 f5;obtain⟨o,e,c,d⟩:=id st';exact⟨u,rfl,SM (s:={ s with heap:=h' }) e c d (by decide) ⟨x,H,I1,ru,⟨rfl,λ ys hy=>by rw[I.list_inj hy hq];exact hx⟩,st',λ b hb=>(hf b hb).1⟩⟩
 done:=by
  intro X hP hw hK hc i π s σ H E I hf st hg;subst hP hw hK;obtain⟨xs,hq,hx⟩:=hg;obtain⟨its,rv,p,hz⟩:=I.list hq;obtain⟨f0,f1,f2,f3,f4,f5⟩:=hf it (by simp);have hl:=rv.length;exact wpAny_pyNext_list_end (I.ok.hd hc) st p.isList (by simp;omega) λ h' eb=>⟨rfl,I.turned (t':=s.toks) (λ b o hb e=>eb b o hb e) f0 f1 f3 f4 f5⟩
 self:=λ _ _ _ _ _ st h=>wpAny_pyIter_listiter st h
theorem UL {K:zFr}(a it:Addr):Turn P w K tg (Itt K a) [it] it (λ i h=>h.IsTupleIter it a i) where
 mem:=by simp
 obj:=λ i h st b hb=>by
  have e:b=it:=by simpa using hb
  subst e;obtain⟨o,e,c,d⟩:=st;exact⟨o,e,λ v z=>by rw[d] at z;cases z⟩
 keep:=λ i h h' st k=>st.at λ o e=>k it (by simp) o e
 item:=by
  intro X hP hw hK hc i π s σ H E I hf st hg;subst hP hw hK;obtain⟨xs,x,hq,hx⟩:=hg;obtain⟨its,rv,p,hz⟩:=I.tuple hq;obtain⟨u,hu,ru⟩:=rv.get hx;obtain⟨f0,f1,f2,f3,f4,f5⟩:=hf it (by simp);refine wpAny_pyNext_tuple_item st (show s.heap.IsTuple a its.toArray from p) (x:=u) (by simpa using hu) λ h' st' sb=>?_;have I1:Inv X π σ H { s with heap:=h' }:=I.turned (t':=s.toks) (λ b o hb e=>(sb.2 b hb).trans e) f0 f1 f3 f4 f5;obtain⟨o,e,c,d⟩:=id st';exact⟨u,rfl,SM (s:={ s with heap:=h' }) e c d (by decide) ⟨x,H,I1,ru,⟨rfl,λ ys hy=>by rw[I.tuple_inj hy hq];exact hx⟩,st',λ b hb=>(hf b hb).1⟩⟩
 done:=by
  intro X hP hw hK hc i π s σ H E I hf st hg;subst hP hw hK;obtain⟨xs,hq,hx⟩:=hg;obtain⟨its,rv,p,hz⟩:=I.tuple hq;obtain⟨f0,f1,f2,f3,f4,f5⟩:=hf it (by simp);have hl:=rv.length;exact wpAny_pyNext_tuple_end (I.ok.hd hc) st (show s.heap.IsTuple a its.toArray from p) (by simp;omega) λ h' eb=>⟨rfl,I.turned (t':=s.toks) (λ b o hb e=>eb b o hb e) f0 f1 f3 f4 f5⟩
 self:=λ _ _ _ _ _ st h=>wpAny_pyIter_tupleiter st h
theorem UT {K:zFr}(it:Addr) (lo:Int) (n:Nat):Turn P w K tg (Itr lo n) [it] it (λ i h=>IsRangeIter h it (lo+(i:Nat)*1) ((n:Int)-(i:Nat)) 1) where
 mem:=by simp
 obj:=λ i h st b hb=>by
  have e:b=it:=by simpa using hb
  subst e;exact⟨_,st,λ v z=>by
   have z':Data.fields _=Data.cell v:=z;cases z'⟩
 keep:=λ i h h' st k=>k it (by simp) _ st
 item:=by
  intro X hP hw hK hc i π s σ H E I hf st hg;subst hP hw hK;obtain⟨f0,f1,f2,f3,f4,f5⟩:=hf it (by simp);have W:=Walks.range (prog:=X.prog) (w:=X.w) (I.ok.hd hc) it lo 1 n;refine W.item i s _ _ hg st λ v h' tk hv st' kk=>?_;obtain⟨t,rfl⟩:=hv;have I1:Inv X π σ H { s with heap:=h',toks:=tk }:=I.turned (λ b o hb e=>kk b o (by simpa using hb) e) f0 f1 f3 f4 f5;refine⟨_,rfl,SM (s:={ s with heap:=h',toks:=tk }) (n:="range_iterator") st' rfl rfl (by decide) ⟨.int (lo+i),H,I1,⟨t,?_⟩,⟨rfl,rfl⟩,st',λ b hb=>(hf b hb).1⟩⟩;rw[Int.mul_one]
 done:=by
  intro X hP hw hK hc i π s σ H E I hf st hg;subst hP hw hK;obtain⟨f0,f1,f2,f3,f4,f5⟩:=hf it (by simp);exact wpAny_pyNext_range_end (I.ok.hd hc) st (by have:n<=i:=hg;omega) λ h' eb=>⟨rfl,I.turned (t':=s.toks) (λ b o hb e=>eb b o hb e) f0 f1 f3 f4 f5⟩
 self:=λ _ _ _ _ _ st h=>wpAny_pyIter_rangeiter st h
section
variable {X:Cx}
def nJ (K:zFr) (tl:TE):TI:=λ σ H R=>tl σ H λ x H1=>∃ a,x=.ref a/\(∃ xs,SqL K H1 a xs)/\R (Itl K a) H1
def iTup (K:zFr) (tl:TE):TI:=λ σ H R=>tl σ H λ x H1=>∃ a,x=.ref a/\(∃ xs,SqT K H1 a xs)/\R (Itt K a) H1
theorem cC {tl:TE}(hl:PE X l tl):PI X tg l (nJ X.K tl):=by
 intro π s σ H R I h;refine thn (hl π s σ H _ I h) λ v s1 ⟨x,H1,I1,r1,q1⟩=>?_;obtain⟨a,e,⟨xs,hq⟩,q⟩:=q1;subst e;cases r1;obtain⟨its,rv,p,hz⟩:=I1.list hq;refine wpAny_pyIter_list p.isList ?_;refine⟨s1.heap.objs.size,[s1.heap.objs.size],_,_,H1,rfl,I1.kept (t':=s1.toks) λ b o e=>z08 _ e,Xg a _,⟨_,z0l _ rfl,rfl,rfl⟩,λ b hb=>?_,q⟩;have e:b=s1.heap.objs.size:=by simpa using hb
 subst e;exact I1.fpOk (z03 _) (I1.hok.fresh (z03 _))
theorem jc {tl:TE}(hl:PE X l tl):PI X tg l (iTup X.K tl):=by
 intro π s σ H R I h;refine thn (hl π s σ H _ I h) λ v s1 ⟨x,H1,I1,r1,q1⟩=>?_;obtain⟨a,e,⟨xs,hq⟩,q⟩:=q1;subst e;cases r1;obtain⟨its,rv,p,hz⟩:=I1.tuple hq;refine wpAny_pyIter_tuple (show s1.heap.IsTuple a its.toArray from p) ?_;refine⟨s1.heap.objs.size,[s1.heap.objs.size],_,_,H1,rfl,I1.kept (t':=s1.toks) λ b o e=>z08 _ e,UL a _,⟨_,z0l _ rfl,rfl,rfl⟩,λ b hb=>?_,q⟩;have e:b=s1.heap.objs.size:=by simpa using hb
 subst e;exact I1.fpOk (z03 _) (I1.hok.fresh (z03 _))
theorem Yc {σ:St}{H:Hp}{R:It->Hp->Prop}{lo hi:Int}{t u v:Tok}{tk:Nat}(I:Inv X π σ H s) (h1 : -(2^62)<=lo) (h2:lo<2^62) (h3 : -(2^62)<=hi) (h4:hi<2^62)
  (q:R (Itr lo (hi-lo).toNat) H):wpAny (model X.prog X.w) X.A (pyIter (.ref s.heap.objs.size)) (PIE X π σ tg R) E { s with heap:=s.heap.push { cls:=.type "range",data:=.fields #[.int lo t,.int hi u,.int 1 v] },toks:=tk }:=by
 refine wpAny_pyIter_range (IsRange.new ..) (small_one h1 h2 h3 h4) ?_;have I1:Inv X π σ H { s with heap:=s.heap.push { cls:=.type "range",data:=.fields #[.int lo t,.int hi u,.int 1 v] },toks:=tk }:=I.kept λ b o e=>z08 _ e;refine⟨(s.heap.push { cls:=.type "range",data:=.fields #[.int lo t,.int hi u,.int 1 v] }).objs.size,[(s.heap.push { cls:=.type "range",data:=.fields #[.int lo t,.int hi u,.int 1 v] }).objs.size],_,_,H,rfl,
  I1.kept (t':=tk) λ b o e=>z08 _ e,UT _ lo (hi-lo).toNat,?_,λ b hb=>?_,q⟩
 ·have e1:lo+((0:Nat):Int)*1=lo:=by simp
  have e2:(((hi-lo).toNat:Nat):Int)-((0:Nat):Int)=Builtin.Range.rangeSize lo hi 1:=by rw[rangeSize_one];split<;>omega
  show IsRangeIter _ _ (lo+((0:Nat):Int)*1) ((((hi-lo).toNat:Nat):Int)-((0:Nat):Int)) 1;rw[e1,e2];exact z0l _ rfl
 ·have e:b=(s.heap.push { cls:=.type "range",data:=.fields #[.int lo t,.int hi u,.int 1 v] }).objs.size:=by simpa using hb
  subst e;exact I1.fpOk (z03 _) (I1.hok.fresh (z03 _))
def nM (ta:TA):TI:=λ σ H R=>ta σ H λ vs H1=>∃ j:Int,vs=[.int j]/\-(2^62)<=j/\j<2^62/\R (Itr 0 j.toNat) H1
theorem Xh {a:Expr}{ta:TA}{p:Pos}(hg:Gl X "range") (hm:X.mg "range"=none) (ha:PA X [a] ta) (hs:starEach [a] X.env=[(false,eval a X.env)]:=by rfl):PI X tg (.Call (.Name "range" p) [a] [] pos) (nM ta):=by
 intro π s σ H R I h;refine Call_ (QK I hg hm boot_range (PyProof.Rows.callWith_type1 (thn (ha pos π s σ H _ I h) λ us s1 ⟨vs,H1,I1,r1,q1⟩=>?_) hs rfl));obtain⟨j,e,q1,q2,q⟩:=q1;subst e;cases r1 with
 | cons r rr=>
  cases rr;obtain⟨t,rfl⟩:=r;exact call_range_1 (Yc I1 (by omega) (by omega) q1 q2 (by simpa using q))
def tFor (wi:TI) (g:TG) (tb:TS):TS:=λ D σ H=>wi σ H λ J H1=>∃ W:Nat->Nat->St->Hp->Prop,(∃ m,W 0 m σ H1)/\∀ i m σ H,W i m σ H ->
 (J.stop i H/\D.nx σ H)∨(J.go i H/\∃ N:St->Hp->Prop,(∀ σ' H',N σ' H'->∃ m',m'<m/\W (i+1) m' σ' H')/\∀ x H',J.yld i H x H'->g x σ H' λ σ2 H2=>tb { D with nx:=N,ct:=N,bk:=D.nx } σ2 H2)
def M9 (fp:List Addr) (h:Heap):List (Addr×Obj):=fp.filterMap λ b=>(h.get? b).map λ o=>(b,o)
theorem Gy {o:Obj}(hb:b∈fp) (e:h.get? b=some o):(b,o)∈M9 fp h:=List.mem_filterMap.mpr ⟨b,hb,by rw[e];rfl⟩
theorem Xi {p:Addr×Obj}(hp:p∈M9 fp h):p.1∈fp/\h.get? p.1=some p.2:=by
 obtain⟨b,hb,e⟩:=List.mem_filterMap.mp hp;cases q:h.get? b with
 | none=>rw[q] at e;cases e
 | some o=>
  rw[q] at e;have e':(b,o)=p:=z0f e;subst e';exact⟨hb,q⟩
theorem Inv.pinned {σ:St}{H:Hp}(I:Inv X π σ H s) (hf:∀ b∈fp,FpOk X π H b) (ho:∀ b∈fp,∃ o,s.heap.get? b=some o/\∀ v,o.data≠.cell v):Inv X (π++M9 fp s.heap) σ H s:=
 I.pins_of λ p hp=>(z0y.mp hp).elim (λ z=>I.pin p (z0t _ z)) λ z=>by
  obtain⟨hb,e⟩:=Xi z;obtain⟨f0,f1,f2,_⟩:=hf p.1 hb;obtain⟨o,e',d⟩:=ho p.1 hb;rw[e] at e';cases e';exact⟨e,f0,f1,f2,d⟩
theorem Inv.unpinned {pl:zP}{σ:St}{H:Hp}(I:Inv X (π++pl) σ H s):Inv X π σ H s:=I.pins_of λ p hp=>I.pin p (z0t _ (z0F _ hp))
theorem QM {iter:Expr}{wi:TI}{g:TG}{tb:TS}(hp:PassesOwn (model X.prog X.w) X.A X.env X.xe) (hc:X.calm=true) (hi:PI X tg iter wi) (hg:PG X tg g) (hb:PSs X body tb)
  (hs:∀ x,foldedSetIterable iter X.env x=pure x:=by intro _;rfl):PS X (.For tg iter body [] pos) (tFor wi g tb):=by
 intro π s σ H D I h;refine wpAny_For (thn (hi π s σ H _ I h) λ v s1 h1=>thn h1 λ itv s2 h2=>?_) hs;obtain⟨it,fp,tn,J,H2,e,I2,T,st2,f2,W,⟨m0,w0⟩,turn⟩:=h2;subst e;have stat:∀ {H':Hp},(∀ b∈fp,H' b=none)->∀ b∈fp,FpOk X π H' b:=λ hn b hb=>⟨hn b hb,(f2 b hb).2⟩;refine codeAny_forLoop_any (λ n s'=>∃ i σ' H',Inv X π σ' H' s'/\tn i s'.heap/\(∀ b∈fp,H' b=none)/\W i n σ' H') ?_ m0 ⟨0,σ,H2,I2,st2,λ b hb=>(f2 b hb).1,w0⟩;rintro n s3 ⟨i,σ3,H3,I3,st3,fr3,w3⟩
 rcases turn i n σ3 H3 w3 with ⟨stop,qn⟩ | ⟨go,N,hN,step⟩
 ·refine wpAny_passesOwn hp (thn (T.done X rfl rfl rfl hc i π s3 σ3 H3 X.xe I3 (stat fr3) st3 stop) λ r s4 ⟨hr,I4⟩=>?_);subst hr;exact wpAny_execs_nil ⟨σ3,H3,I4,qn⟩
 ·refine wpAny_passesOwn hp (thn (T.item X rfl rfl rfl hc i π s3 σ3 H3 X.xe I3 (stat fr3) st3 go) λ r s4 ⟨u,hr,h4⟩=>?_);subst hr;refine wpAny_passesOwn hp (thn h4 λ _ s5 ⟨x,H5,I5,r5,y5,st5,fr5⟩=>?_);have I5':=I5.pinned (stat fr5) (T.obj _ _ st5);refine wpAny_passesOwn hp (thn (hg _ s5 σ3 H5 x u _ I5' r5 (step x H5 y5)) λ _ s6 ⟨σ6,H6,I6,q6⟩=>?_);refine wpAny_passesOwn hp (thn (hb _ s6 σ6 H6 _ I6 q6) λ f s7 q7=>?_);have again:∀ {σ7:St}{H7:Hp},Inv X (π++M9 fp s5.heap) σ7 H7 s7->N σ7 H7->∃ m,m<n/\∃ i σ' H',Inv X π σ' H' s7/\tn i s7.heap/\(∀ b∈fp,H' b=none)/\W i m σ' H':=λ {σ7 H7} I7 n7=>by
   obtain⟨m',hm,w7⟩:=hN σ7 H7 n7;refine⟨m',hm,i+1,σ7,H7,I7.unpinned,T.keep _ _ _ st5 λ b hb o e=>(I7.pin (b,o) (z0t _ (z0t _ (Gy hb e)))).1,λ b hb=>?_,w7⟩;obtain⟨o,e,d⟩:=T.obj _ _ st5 b hb;exact (I7.pin (b,o) (z0t _ (z0t _ (Gy hb e)))).2.1
  cases f with
  | next=>obtain⟨σ7,H7,I7,n7⟩:=q7;exact again I7 n7
  | cont=>obtain⟨σ7,H7,I7,n7⟩:=q7;exact again I7 n7
  | brk=>obtain⟨σ7,H7,I7,q7⟩:=q7;exact⟨σ7,H7,I7.unpinned,q7⟩
  | ret v=>obtain⟨x7,σ7,H7,I7,r7,q7⟩:=q7;exact⟨x7,σ7,H7,I7.unpinned,r7,q7⟩
end
abbrev R2:=V->V->Hp->VK->Prop
def OpR (X:Cx) (f:Value->Value->Sem Value) (r:R2):Prop:=
 ∀ (π:zP) (s:Shared) (σ:St) (H:Hp) (x y:V) (v u:Value) (Q:VK),Inv X π σ H s->RelV x v->RelV y u->r x y H Q ->
  wpAny (model X.prog X.w) X.A (f v u) (EP X π σ Q) X.xe s
def UnR (X:Cx) (f:Value->Sem Value) (r:V->Hp->VK->Prop):Prop:=
 ∀ (π:zP) (s:Shared) (σ:St) (H:Hp) (x:V) (v:Value) (Q:VK),Inv X π σ H s->RelV x v->r x H Q ->
  wpAny (model X.prog X.w) X.A (f v) (EP X π σ Q) X.xe s
def Dn (X:Cx) (f:Value) (r:List V->Hp->VK->Prop):Prop:=
 ∀ (π:zP) (s:Shared) (σ:St) (H:Hp) (xs:List V) (us:List Value) (Q:VK),Inv X π σ H s->Vals xs us->r xs H Q ->
  wpAny (model X.prog X.w) X.A (call f us) (EP X π σ Q) X.xe s
def TruR (X:Cx) (r:V->Hp->(Bool->Hp->Prop)->Prop):Prop:=
 ∀ (π:zP) (s:Shared) (σ:St) (H:Hp) (x:V) (v:Value) (Q:Bool->Hp->Prop),Inv X π σ H s->RelV x v->r x H Q ->
  wpAny (model X.prog X.w) X.A (truthy v) (TP X π σ Q) X.xe s
def tOp (r:R2) (ta tb:TE):TE:=λ σ H Q=>ta σ H λ x H1=>tb σ H1 λ y H2=>r x y H2 Q
def tUn (r:V->Hp->VK->Prop) (ta:TE):TE:=λ σ H Q=>ta σ H λ x H1=>r x H1 Q
def rI (C:Int->Int->Prop) (g:Int->Int->V):R2:=λ x y H Q=>∃ i j,x=.int i/\y=.int j/\C i j/\Q (g i j) H
def rI0 (g:Int->Int->V):R2:=λ x y H Q=>∃ i j,x=.int i/\y=.int j/\Q (g i j) H
def rU (g:Int->V):V->Hp->VK->Prop:=λ x H Q=>∃ i,x=.int i/\Q (g i) H
section
variable {X:Cx}{a b c:Expr}{ta tb tc:TE}
theorem binT (ha:PE X a ta) (hb:PE X b tb) {π:zP}{s:Shared}{σ:St}{H:Hp}{R:V->V->Hp->Prop}(I:Inv X π σ H s)
  (h:ta σ H λ x H1=>tb σ H1 λ y H2=>R x y H2) {Q:zQ}{f:Value->Value->Sem Value}
  (hf:∀ v u s2 x y H2,Inv X π σ H2 s2->RelV x v->RelV y u->R x y H2->wpAny (model X.prog X.w) X.A (f v u) Q X.xe s2) :
  wpAny (model X.prog X.w) X.A (eval a X.env) (λ v s₁=>wpAny (model X.prog X.w) X.A (eval b X.env) (λ u s₂=>wpAny (model X.prog X.w) X.A (f v u) Q X.xe s₂) X.xe s₁) X.xe s:=by
 refine thn (ha π s σ H _ I h) λ v s1 ⟨x,H1,I1,r1,q1⟩=>?_;refine thn (hb π s1 σ H1 _ I1 q1) λ u s2 ⟨y,H2,I2,r2,q2⟩=>?_;exact hf v u s2 x y H2 I2 r1 r2 q2
theorem nO {op:Operator}{r:R2}(ho:OpR X (binaryOp op) r) (ha:PE X a ta) (hb:PE X b tb):PE X (.BinOp a op b pos) (tOp r ta tb):=by
 intro π s σ H Q I h;exact wpAny_BinOp (binT ha hb I h λ v u s2 x y H2 I2 rx ry q=>ho π s2 σ H2 x y v u Q I2 rx ry q)
theorem nP {op:UnaryOp}{r:V->Hp->VK->Prop}(ho:UnR X (unaryOp op) r) (ha:PE X a ta):PE X (.UnaryOp op a pos) (tUn r ta):=by
 intro π s σ H Q I h;exact UnaryOp_ (thn (ha π s σ H _ I h) λ v s1 ⟨x,H1,I1,r1,q1⟩=>ho π s1 σ H1 x v Q I1 r1 q1)
theorem opI {f:Value->Value->Sem Value}{C:Int->Int->Prop}{g:Int->Int->Int}(rule:∀ (i j:Int) (t u:Tok) (s:Shared) (Q:zQ) (E:zQ),C i j->Q (.int (g i j) s.toks) { s with toks:=s.toks+1 }->wpAny (model X.prog X.w) X.A (f (.int i t) (.int j u)) Q E s) :
  OpR X f (rI C λ i j=>.int (g i j)):=by
 intro π s σ H x y v u Q I rx ry h;obtain⟨i,j,rfl,rfl,hc,q⟩:=h;obtain⟨t,rfl⟩:=rx;obtain⟨t',rfl⟩:=ry;exact rule i j t t' s _ _ hc ⟨.int (g i j),H,I.tok _,⟨_,rfl⟩,q⟩
theorem opI0 {f:Value->Value->Sem Value}{g:Int->Int->Int}(rule:∀ (i j:Int) (t u:Tok) (s:Shared) (Q:zQ) (E:zQ),Q (.int (g i j) s.toks) { s with toks:=s.toks+1 }->wpAny (model X.prog X.w) X.A (f (.int i t) (.int j u)) Q E s) :
  OpR X f (rI0 λ i j=>.int (g i j)):=by
 intro π s σ H x y v u Q I rx ry h;obtain⟨i,j,rfl,rfl,q⟩:=h;obtain⟨t,rfl⟩:=rx;obtain⟨t',rfl⟩:=ry;exact rule i j t t' s _ _ ⟨.int (g i j),H,I.tok _,⟨_,rfl⟩,q⟩
theorem opB0 {f:Value->Value->Sem Value}{g:Int->Int->Bool}(rule:∀ (i j:Int) (t u:Tok) (s:Shared) (Q:zQ) (E:zQ),Q (.bool (g i j)) s->wpAny (model X.prog X.w) X.A (f (.int i t) (.int j u)) Q E s) :
  OpR X f (rI0 λ i j=>.bl (g i j)):=by
 intro π s σ H x y v u Q I rx ry h;obtain⟨i,j,rfl,rfl,q⟩:=h;obtain⟨t,rfl⟩:=rx;obtain⟨t',rfl⟩:=ry;exact rule i j t t' s _ _ ⟨.bl (g i j),H,I,rfl,q⟩
def CDiv (i j:Int):Prop:=0<j/\j<1073741824
def CPow (i j:Int):Prop:=0<=j/\j<=1000000/\i.natAbs<2^64
def CMul (i j:Int):Prop:=(-(2^64)<i/\i<2^64)∨(-(2^64)<j/\j<2^64)
theorem CMul.ok {i j:Int}(h:CMul i j):IntMulOk i j:=by
 rcases h with ⟨h1,h2⟩ | ⟨h1,h2⟩
 ·exact .of_left (intBits_le_64 h1 h2)
 ·exact .of_right (intBits_le_64 h1 h2)
theorem jd:OpR X (binaryOp .Add) (rI0 λ i j=>.int (i+j)):=opI0 λ _ _ _ _ _ _ _ q=>add_int q
theorem je:OpR X (binaryOp .Sub) (rI0 λ i j=>.int (i-j)):=opI0 λ _ _ _ _ _ _ _ q=>sub_int q
theorem cD:OpR X (binaryOp .FloorDiv) (rI CDiv λ i j=>.int (i/j)):=opI λ i j _ _ _ _ _ hc q=>by
 have h1:(0:Int)<j:=hc.1;have h2:j<1073741824:=hc.2;exact floordiv_int (by omega) (by rw[Int.fdiv_eq_ediv_of_nonneg i (by omega)];exact q) (.inl (PyProof.noPylong_small (by omega)))
theorem jf:OpR X (binaryOp .Mod) (rI (λ _ j=>0<j) λ i j=>.int (i%j)):=opI λ i j _ _ _ _ _ hc q=>by
 have h1:(0:Int)<j:=hc;exact mod_int' (by omega) (by rw[Int.fmod_eq_emod_of_nonneg i (by omega)];exact q)
theorem UV:OpR X (binaryOp .Pow) (rI CPow λ i j=>.int (i^j.toNat)):=opI λ _ _ _ _ _ _ _ hc q=>pow_int_small hc.1 hc.2.1 hc.2.2 q
theorem unI {f:Value->Sem Value}{g:Int->Int}(rule:∀ (i:Int) (t:Tok) (s:Shared) (Q:zQ) (E:zQ),Q (.int (g i) s.toks) { s with toks:=s.toks+1 }->wpAny (model X.prog X.w) X.A (f (.int i t)) Q E s) :
  UnR X f (rU λ i=>.int (g i)):=by
 intro π s σ H x v Q I rx h;obtain⟨i,rfl,q⟩:=h;obtain⟨t,rfl⟩:=rx;exact rule i t s _ _ ⟨.int (g i),H,I.tok _,⟨_,rfl⟩,q⟩
theorem jg:UnR X (unaryOp .USub) (rU λ i=>.int (-i)):=unI λ _ _ _ _ _ q=>neg_int q
end
def scal:V->V->Bool
 | .non,.non=>true | .non,.int _=>true | .int _,.non=>true | .non,.bl _=>true | .bl _,.non=>true | .non,.str _=>true | .str _,.non=>true
 | .int _,.int _=>true | .bl _,.bl _=>true | .str _,.str _=>true | .byt _,.byt _=>true
 | .int _,.str _=>true | .str _,.int _=>true | .bl _,.str _=>true | .str _,.bl _=>true
 | _,_=>false
def rEq:R2:=λ x y H Q=>scal x y=true/\Q (.bl (decide (x=y))) H
def rNe:R2:=λ x y H Q=>scal x y=true/\Q (.bl (!decide (x=y))) H
theorem VR {i j:Int}:decide (V.int i=V.int j)=(i==j):=by
 rw[z0S];simp
theorem Yd {i j:Bool}:decide (V.bl i=V.bl j)=(i==j):=by
 rw[z0S];simp
theorem VV {i j:Str}:decide (V.str i=V.str j)=(i==j):=by
 rw[z0S];simp
theorem Va {i j:Array UInt8}:decide (V.byt i=V.byt j)=(i.toList==j.toList):=by
 rw[z0S];cases i;cases j;simp
section
variable {X:Cx}{a b c:Expr}{ta tb tc:TE}
theorem BP {σ:St}{H:Hp}{Q:VK}{k k':Bool}(I:Inv X π σ H s) (q:Q (.bl k) H) (e:k=k'):EP X π σ Q (.bool k') s:=by
 subst e;exact⟨.bl k,H,I,rfl,q⟩
theorem nQ:OpR X (compareOp .Eq) rEq:=by
 intro π s σ H x y v u Q I rx ry h;obtain⟨hs,q⟩:=h;cases x with
 | non=>
  cases rx;cases y with
  | non=>cases ry;exact PySem.EqNone.eq_none_none (BP I q (by simp))
  | bl j=>cases ry;exact PySem.EqNone.eq_none_bool (BP I q (by simp))
  | int j=>obtain⟨t',rfl⟩:=ry;exact PySem.EqNone.eq_none_int (BP I q (by simp))
  | str j=>obtain⟨t',rfl⟩:=ry;exact PySem.EqNone.eq_none_str (BP I q (by simp))
  | _=>exact absurd (show false=true from hs) z0m
 | bl i=>
  cases rx;cases y with
  | non=>cases ry;exact PySem.EqNone.eq_bool_none (BP I q (by simp))
  | bl j=>cases ry;exact eq_bool (BP I q Yd)
  | str j=>obtain⟨t',rfl⟩:=ry;exact PySem.EqMixed.eq_bool_str (BP I q (by simp))
  | _=>exact absurd (show false=true from hs) z0m
 | int i=>
  obtain⟨t,rfl⟩:=rx;cases y with
  | non=>cases ry;exact PySem.EqNone.eq_int_none (BP I q (by simp))
  | int j=>obtain⟨t',rfl⟩:=ry;exact eq_int (BP I q VR)
  | str j=>obtain⟨t',rfl⟩:=ry;exact PySem.EqMixed.eq_int_str (BP I q (by simp))
  | _=>exact absurd (show false=true from hs) z0m
 | str i=>
  obtain⟨t,rfl⟩:=rx;cases y with
  | non=>cases ry;exact PySem.EqNone.eq_str_none (BP I q (by simp))
  | bl j=>cases ry;exact PySem.EqMixed.eq_str_bool (BP I q (by simp))
  | int j=>obtain⟨t',rfl⟩:=ry;exact PySem.EqMixed.eq_str_int (BP I q (by simp))
  | str j=>obtain⟨t',rfl⟩:=ry;exact eq_str (BP I q VV)
  | _=>exact absurd (show false=true from hs) z0m
 | byt i=>
  obtain⟨t,rfl⟩:=rx;cases y with
  | byt j=>obtain⟨t',rfl⟩:=ry;exact PySem.W.eq_bytes (BP I q Va)
  | _=>exact absurd (show false=true from hs) z0m
 | _=>cases y<;>exact absurd (show false=true from hs) z0m
theorem nR:OpR X (compareOp .NotEq) rNe:=by
 intro π s σ H x y v u Q I rx ry h;obtain⟨hs,q⟩:=h;cases x with
 | non=>
  cases rx;cases y with
  | non=>cases ry;exact PySem.EqNone.ne_none_none (BP I q (by simp))
  | bl j=>cases ry;exact PySem.EqNone.ne_none_bool (BP I q (by simp))
  | int j=>obtain⟨t',rfl⟩:=ry;exact PySem.EqNone.ne_none_int (BP I q (by simp))
  | str j=>obtain⟨t',rfl⟩:=ry;exact PySem.EqNone.ne_none_str (BP I q (by simp))
  | _=>exact absurd (show false=true from hs) z0m
 | bl i=>
  cases rx;cases y with
  | non=>cases ry;exact PySem.EqNone.ne_bool_none (BP I q (by simp))
  | bl j=>cases ry;exact ne_bool (BP I q (congrArg not Yd))
  | str j=>obtain⟨t',rfl⟩:=ry;exact PySem.EqMixed.ne_bool_str (BP I q (by simp))
  | _=>exact absurd (show false=true from hs) z0m
 | int i=>
  obtain⟨t,rfl⟩:=rx;cases y with
  | non=>cases ry;exact PySem.EqNone.ne_int_none (BP I q (by simp))
  | int j=>obtain⟨t',rfl⟩:=ry;exact ne_int (BP I q (congrArg not VR))
  | str j=>obtain⟨t',rfl⟩:=ry;exact PySem.EqMixed.ne_int_str (BP I q (by simp))
  | _=>exact absurd (show false=true from hs) z0m
 | str i=>
  obtain⟨t,rfl⟩:=rx;cases y with
  | non=>cases ry;exact PySem.EqNone.ne_str_none (BP I q (by simp))
  | bl j=>cases ry;exact PySem.EqMixed.ne_str_bool (BP I q (by simp))
  | int j=>obtain⟨t',rfl⟩:=ry;exact PySem.EqMixed.ne_str_int (BP I q (by simp))
  | str j=>obtain⟨t',rfl⟩:=ry;exact ne_str (BP I q (congrArg not VV))
  | _=>exact absurd (show false=true from hs) z0m
 | byt i=>
  obtain⟨t,rfl⟩:=rx;cases y with
  | byt j=>obtain⟨t',rfl⟩:=ry;exact PySem.W.ne_bytes (BP I q (congrArg not Va))
  | _=>exact absurd (show false=true from hs) z0m
 | _=>cases y<;>exact absurd (show false=true from hs) z0m
theorem nU:OpR X (compareOp .Lt) (rI0 λ i j=>.bl (decide (i<j))):=opB0 λ _ _ _ _ _ _ _ q=>lt_int q
theorem nW:OpR X (compareOp .Gt) (rI0 λ i j=>.bl (decide (j<i))):=opB0 λ _ _ _ _ _ _ _ q=>gt_int q
theorem nY:OpR X (compareOp .GtE) (rI0 λ i j=>.bl (decide (j<=i))):=opB0 λ _ _ _ _ _ _ _ q=>ge_int q
theorem Xj:OpR X (compareOp .In) (λ x y H Q=>∃ i j,x=.str i/\y=.str j/\Q (.bl (!(Builtin.Str.occurrences j i 0 j.length 1).isEmpty)) H):=by
 intro π s σ H x y v u Q I rx ry h;obtain⟨i,j,rfl,rfl,q⟩:=h;obtain⟨t,rfl⟩:=rx;obtain⟨t',rfl⟩:=ry;exact in_str (BP I q rfl)
theorem QQ:OpR X (compareOp .NotIn) (λ x y H Q=>∃ i j,x=.str i/\y=.str j/\Q (.bl (!(!(Builtin.Str.occurrences j i 0 j.length 1).isEmpty))) H):=by
 intro π s σ H x y v u Q I rx ry h;obtain⟨i,j,rfl,rfl,q⟩:=h;obtain⟨t,rfl⟩:=rx;obtain⟨t',rfl⟩:=ry;exact notIn_str (BP I q rfl)
theorem OpR.or {f:Value->Value->Sem Value}{r r':R2}(h:OpR X f r) (h':OpR X f r'):OpR X f (λ x y H Q=>r x y H Q∨r' x y H Q):=by
 intro π s σ H x y v u Q I rx ry q
 rcases q with q | q
 ·exact h π s σ H x y v u Q I rx ry q
 ·exact h' π s σ H x y v u Q I rx ry q
theorem HY (b:Expr) {op:CmpOp}(h:op≠.In:=by decide) (h2:op≠.NotIn:=by decide):behindInMarks op b=false:=by
 have e1:(op==CmpOp.In)=false:=by cases op<;>first | rfl | exact absurd rfl h
 have e2:(op==CmpOp.NotIn)=false:=by cases op<;>first | rfl | exact absurd rfl h2
 cases b<;>simp[behindInMarks,e1,e2]
theorem Vb {op:CmpOp}{r:R2}(ho:OpR X (compareOp op) r) (ha:PE X a ta) (hb:PE X b tb) (hm:behindInMarks op b=false):PE X (.Compare a [op] [b] pos) (tOp r ta tb):=by
 intro π s σ H Q I h;exact wpAny_Compare1 (binT ha hb I h λ v u s2 x y H2 I2 rx ry q=>ho π s2 σ H2 x y v u Q I2 rx ry q) hm
def nZ (t:TE):TT:=λ σ H Q=>t σ H λ x H'=>∃ k,x=.bl k/\Q k H'
theorem Vc {op:CmpOp}{r:R2}(ho:OpR X (compareOp op) r) (ha:PE X a ta) (hb:PE X b tb) (hm:behindInMarks op b=false):PT X (.Compare a [op] [b] pos) (nZ (tOp r ta tb)):=by
 intro π s σ H Q I h;refine wpAny_isTrue_Compare1 (thn (ha π s σ H _ I h) λ v s1 ⟨x,H1,I1,r1,q1⟩=>thn (hb π s1 σ H1 _ I1 q1) λ u s2 ⟨y,H2,I2,r2,q2⟩=>
  thn (ho π s2 σ H2 x y v u _ I2 r1 r2 q2) λ c s3 ⟨z,H3,I3,r3,k,e,q3⟩=>?_) hm
 subst e;cases r3;exact wpAny_truthy_bool ⟨H3,I3,q3⟩
def TruV (K:zFr) (x:V) (H:Hp) (k:Bool):Prop:=
 match x with
 | .non=>k=false
 | .bl b=>k=b
 | .int i=>k=(i != 0)
 | .str y=>y.length<=sizeLine/\k=((y.length:Int) != 0)
 | .byt y=>y.size<=sizeLine/\k=((y.size:Int) != 0)
 | .ref p=>(∃ xs,SqL K H p xs/\k=!xs.isEmpty)∨(∃ xs,SqT K H p xs/\k=!xs.isEmpty)∨∃ kvs,H p=some (.dK kvs)/\k=!kvs.isEmpty
 | _=>False
theorem UW {κ:Type}{kvs:List (κ×V)}{vs:List (κ×Value)}(r:KV kvs vs):(!vs.isEmpty)=!kvs.isEmpty:=by
 cases r<;>rfl
theorem M_ {xs:List V}(r:Vals xs its):(!its.toArray.isEmpty)=!xs.isEmpty:=by
 cases r<;>simp
theorem NB:(sizeLine:Nat)<2^63:=by rw[sizeLine_eq];decide
theorem jh:TruR X (λ x H Q=>∃ k,TruV X.K x H k/\Q k H):=by
 intro π s σ H x v Q I rx h;obtain⟨k,e,q⟩:=h;have hl:=NB;have hs:sizeLine=16777216:=sizeLine_eq;cases x with
 | non=>
  cases rx;have e':k=false:=e;subst e';exact truthy_none ⟨H,I,q⟩
 | bl b=>
  cases rx;have e':k=b:=e;subst e';exact wpAny_truthy_bool ⟨H,I,q⟩
 | int i=>
  obtain⟨t,rfl⟩:=rx;have e':k=(i != 0):=e;subst e';exact PySem.P.truthy_int ⟨H,I,q⟩
 | str y=>
  obtain⟨t,rfl⟩:=rx;obtain⟨hy,e'⟩:y.length<=sizeLine/\k=((y.length:Int) != 0):=e;subst e';exact PySem.P.truthy_str (by omega) ⟨H,I.tok _,q⟩
 | byt y=>
  obtain⟨t,rfl⟩:=rx;obtain⟨hy,e'⟩:y.size<=sizeLine/\k=((y.size:Int) != 0):=e;subst e';exact PySem.W.truthy_bytes (by omega) ⟨H,I.tok _,q⟩
 | ref p=>
  cases rx;have e':(∃ xs,SqL X.K H p xs/\k=!xs.isEmpty)∨(∃ xs,SqT X.K H p xs/\k=!xs.isEmpty)∨∃ kvs,H p=some (.dK kvs)/\k=!kvs.isEmpty:=e
  rcases e' with ⟨xs,hx,e'⟩ | ⟨xs,hx,e'⟩ | ⟨kvs,hx,e'⟩
  ·subst e';obtain⟨its,r,pl,hz⟩:=I.list hx;have hlen:=r.length;exact wpAny_truthy_list pl.isList (by simp only[z0g];omega) ⟨H,I.tok _,by rw[M_ r];exact q⟩
  ·subst e';obtain⟨its,r,pl,hz⟩:=I.tuple hx;have hlen:=r.length;exact truthy_tuple pl (by simp only[z0g];omega) ⟨H,I.tok _,by rw[M_ r];exact q⟩
  ·subst e';obtain⟨hz,hS,vs,r,m⟩:kvs.length<=sizeLine/\(p==sysModules)=false/\∃ vs,KV kvs vs/\s.heap.DictOf (BK X.prog X.w) p vs:=I.hok p _ hx;have hlen:kvs.length=vs.length:=Paired.length r;exact wpAny_truthy_dict hS m (by omega) ⟨H,I.tok _,by rw[UW r];exact q⟩
 | _=>exact (show False from e).elim
theorem Ye (ha:PE X a ta) (he:∀ whole,isTrue a X.env whole=(do let v <-whole;standAt a.pos;holding [v] (truthy v))) :
  PT X a (λ σ H Q=>ta σ H λ x H'=>∃ k,TruV X.K x H' k/\Q k H'):=by
 intro π s σ H Q I h;exact isTrue_plain (thn (ha π s σ H _ I h) λ v s1 ⟨x,H1,I1,r1,q1⟩=>jh π s1 σ H1 x v Q I1 r1 q1) (he _)
theorem Ua:OpR X (binaryOp .Add) (λ x y H Q=>∃ i j,x=.str i/\y=.str j/\i.length+j.length<=sizeLine/\Q (.str (i++j)) H):=by
 intro π s σ H x y v u Q I rx ry h;obtain⟨i,j,rfl,rfl,hz,q⟩:=h;obtain⟨t,rfl⟩:=rx;obtain⟨t',rfl⟩:=ry;exact add_str (λ t' tk=>⟨.str (i++j),H,I.tok _,⟨_,rfl⟩,q⟩) hz
theorem vals1 {x:V}(r:Vals [x] us):∃ u,us=[u]/\RelV x u:=by
 cases r with
 | cons r1 r2=>cases r2;exact⟨_,rfl,r1⟩
theorem vals2 {x y:V}(r:Vals [x,y] us):∃ u w',us=[u,w']/\RelV x u/\RelV y w':=by
 cases r with
 | cons r1 r2=>
  cases r2 with
  | cons r3 r4=>cases r4;exact⟨_,_,rfl,r1,r3⟩
theorem Xk (hc:X.calm=true):Dn X (.builtin "max") (λ xs H Q=>∃ i j,xs=[.int i,.int j]/\Q (.int (if j > i then j else i)) H):=by
 intro π s σ H xs us Q I r h;obtain⟨i,j,rfl,q⟩:=h;obtain⟨u,w',rfl,⟨t,rfl⟩,⟨t',rfl⟩⟩:=vals2 r;refine max_two_ints (I.ok.hd hc) λ h' tk k=>⟨_,H,I.kept k,?_,q⟩
 by_cases hj:j > i
 ·rw[if_pos hj,if_pos hj];exact⟨_,rfl⟩
 ·rw[if_neg hj,if_neg hj];exact⟨_,rfl⟩
theorem O4:Dn X (.type "int") (λ xs H Q=>(∃ i,xs=[.int i]/\Q (.int i) H)∨∃ k,xs=[.bl k]/\Q (.int (if k then 1 else 0)) H):=by
 intro π s σ H xs us Q I r h
 rcases h with ⟨i,rfl,q⟩ | ⟨k,rfl,q⟩
 ·obtain⟨u,rfl,t,rfl⟩:=vals1 r;exact call_int_int ⟨.int i,H,I,⟨_,rfl⟩,q⟩
 ·obtain⟨u,rfl,r1⟩:=vals1 r;cases r1;exact call_int_bool ⟨.int (if k then 1 else 0),H,I.tok _,⟨_,rfl⟩,q⟩
def LenV (K:zFr) (x:V) (H:Hp) (n:Nat):Prop:=
 match x with
 | .str y=>y.length<=sizeLine/\n=y.length
 | .byt y=>y.size<=sizeLine/\n=y.size
 | .ref p=>(∃ xs,SqL K H p xs/\n=xs.length)∨∃ xs,SqT K H p xs/\n=xs.length
 | _=>False
theorem Yg:Dn X (.builtin "len") (λ xs H Q=>∃ x n,xs=[x]/\LenV X.K x H n/\Q (.int n) H):=by
 intro π s σ H xs us Q I r h;obtain⟨x,n,rfl,e,q⟩:=h;obtain⟨u,rfl,rx⟩:=vals1 r;have hl:=NB;have hs:sizeLine=16777216:=sizeLine_eq;cases x with
 | str y=>
  obtain⟨t,rfl⟩:=rx;obtain⟨hy,e'⟩:y.length<=sizeLine/\n=y.length:=e;subst e';exact len_str (by omega) ⟨.int _,H,I.tok _,⟨_,rfl⟩,q⟩
 | byt y=>
  obtain⟨t,rfl⟩:=rx;obtain⟨hy,e'⟩:y.size<=sizeLine/\n=y.size:=e;subst e';exact PySem.W.len_bytes (by omega) ⟨.int _,H,I.tok _,⟨_,rfl⟩,q⟩
 | ref p=>
  cases rx;have e':(∃ xs,SqL X.K H p xs/\n=xs.length)∨∃ xs,SqT X.K H p xs/\n=xs.length:=e
  rcases e' with ⟨xs,hx,e'⟩ | ⟨xs,hx,e'⟩
  ·subst e';obtain⟨its,r',pl,hz⟩:=I.list hx;have hlen:=r'.length;exact Calls.call_len_list pl.isList (by simp only[z0g];omega) ⟨.int xs.length,H,I.tok _,⟨_,by simp only[z0g];rw[hlen]⟩,q⟩
  ·subst e';obtain⟨its,r',pl,hz⟩:=I.tuple hx;have hlen:=r'.length;exact len_tuple pl (by simp only[z0g];omega) ⟨.int xs.length,H,I.tok _,⟨_,by simp only[z0g];rw[hlen]⟩,q⟩
 | _=>exact (show False from e).elim
end
structure ObjM (h:Heap) (x dx C:Addr) (mA:Str->Option Value):Prop where
 obj:h.get? x=some (PySem.W.instObj C dx)
 ns:h.Ns1 dx mA
 ne:dx≠x
theorem Ig {dx:Addr}{mA:Str->Option Value}(n:h.Ns1 dx mA):∃ od,h.get? dx=some od/\∀ name,PySem.W.lookIn name od=some (mA name):=by
 obtain⟨o,es,ep,ho,hd,hk,_,hm⟩:=n;refine⟨o,ho,λ name=>?_⟩;have e:=hm name;unfold nsFind findBy at e;rw[<-Array.find?_toList] at e;unfold PySem.W.lookIn;rw[hd];dsimp only;split
 ·rename_i y q;rw[q] at e;exact congrArg some e
 ·rename_i q;rw[q] at e;have a:es.toList.any (·.refKey)=false:=by
   rw[List.any_eq_false];intro y hy;obtain⟨z,t,hkey⟩:=hk y (Array.mem_toList_iff.mp hy);simp[DictEntry.refKey,hkey]
  have a':¬ es.toList.any (·.refKey)=true:=by rw[a];exact z0m
  rw[if_neg a'];exact congrArg some e
theorem ObjM.look {x dx:Addr}{mA:Str->Option Value}(I:ObjM h x dx C mA):∃ od,PySem.W.InstAt h x (PySem.W.instObj C dx) C (some od)/\∀ name,PySem.W.lookIn name od=some (mA name):=
 let ⟨od,ho,hl⟩:=Ig I.ns
 ⟨od,⟨I.obj,rfl,rfl,ho⟩,hl⟩
section
variable {A:Around}{K:zFr}{x dx f:Addr}{mA:Str->Option Value}{name:Str}{v:Value}
theorem cF {expr:Bool}{Q:zQ}(X:K.In s.heap) (I:ObjM s.heap x dx C mA) (hg:PySem.W.plainGet K C name=true) (hh:PySem.W.hasDictIn K C=true)
  (ha:PySem.W.findIn K (.ref C) name=some none) (hv:mA name=some v) (hv':PySem.W.handedIn v=true) (h:Q v { s with toks:=s.toks+1 }) :
  wpAny (model prog w) A (getAttr (.ref x) name expr) Q E s:=by
 obtain⟨od,J,hl⟩:=I.look;exact PySem.W.get_value X J (PySem.W.plainGet_of hg).1 (PySem.W.findObj_own hh ha rfl (by rw[hl,hv])) hv' h
theorem Yh {pl:Sem Bool}{Q:Value×List Value->Shared->Prop}(X:K.In s.heap) (I:ObjM s.heap x dx C mA) (hg:PySem.W.plainGet K C name=true)
  (hf:PySem.W.findIn K (.ref C) name=some (some (.ref f))) (ht:PySem.W.isFn K (.ref f)=true) (hv:mA name=none) (h:Q (.ref f,[.ref x]) s) :
  wpAny (model prog w) A (getMethod (.ref x) name pl) Q E s:=by
 obtain⟨od,J,hl⟩:=I.look;exact PySem.W.method_fn X J (PySem.W.plainGet_of hg).1 (PySem.W.plainGet_of hg).2 hf (z0u.mp ht) (by show (PySem.W.lookIn name od).map (·.isSome)=some false;rw[hl,hv];rfl) h
theorem cG {Q:Unit->Shared->Prop}(X:K.In s.heap) (I:ObjM s.heap x dx C mA)
  (hs:PySem.W.findIn K (.ref C) "__setattr__"=some (some (.builtin "object.__setattr__"))) (hp:PySem.W.plainOver K C=true) (ht:PySem.W.takerIn K C name=some none) (hh:PySem.W.hasDictIn K C=true)
  (hw:PySem.Within mA ns) (hsz:ns.length<=sizeLine)
  (h:∀ h',ObjM h' x dx C (λ y=>if y=name then some v else mA y)->Heap.SameBut dx s.heap h'->Q () { s with heap:=h',toks:=s.toks+2 }) :
  wpAny (model prog w) A (setAttr (.ref x) name v) Q E s:=by
 obtain⟨od,J,hl⟩:=I.look;refine PySem.W.set_plain X J hs (PySem.W.osa_open (s:={ s with toks:=s.toks+1 }) (r:=none) X J hp ht λ b=>?_);obtain⟨cd,hc,hd'⟩:=PySem.W.any_some hh;have hx:s.heap.get? x=some ⟨.ref C,some dx,.plain,#[]⟩:=I.obj;refine z00 (z02 (z00 (z00 (wpAny_loadPart hx (z00 (PySem.W.Looks.here (s:={ s with toks:=s.toks+1 }) (PySem.W.looks_clsIn X hc) ?_))))));rw[hd'];refine z02 (a:=some dx) (z00 (z02 (z00 ?_)));refine wpAny_nsSet1 (s:={ s with toks:=s.toks+1 }) I.ns λ h' hn2 hs2=>?_;obtain⟨oD,esD,epD,hoD,hdD,hcD⟩:=hn2.count (PySem.Within.cons name v hw);refine z00 (wpAny_lookBehind hoD (by rw[hdD];exact pastItsLine_dict (z0j hcD (by rw[z0o];omega))) ?_);exact z02 (h _ ⟨(hs2.2 _ (Ne.symm I.ne)).trans I.obj,hn2,I.ne⟩ hs2)
theorem Yi {R:Result->Shared->Prop}{vs:List Value}(X:K.In s.heap) (hm:PySem.W.makesIn K C=true)
  (hi:PySem.W.findIn K (.ref C) "__init__"=some (some (.ref f))) (hf:PySem.W.typeIn K (.ref f)=some (.type "function"))
  (h:codeAny (model prog w) (A.under (.builtin "type.__call__" ⟨.ref C::vs,kw⟩)) (.call (.ref f) ⟨.ref (s.heap.objs.size+1)::vs,kw⟩) (PySem.W.InitBack (s.heap.objs.size+1) R)
   { s with heap:=(s.heap.push PySem.W.emptyDict).push (PySem.W.instObj C s.heap.objs.size) }) :
  codeAny (model prog w) A (.call (.ref C) ⟨vs,kw⟩) R s:=by
 obtain⟨hh,g,d,t,os⟩:=s;exact PySem.W.make_core (PySem.W.makes_of X hm) (PySem.W.looks_findIn X hi) (λ self=>PySem.W.bind_fn X self hf) (.inl rfl) h
end
def putF (f:Str) (v:V):List (Str×V)->List (Str×V)
 | []=>[(f,v)]
 | (g,x)::r=>if g=f then (g,v)::r else (g,x)::putF f v r
theorem Kp (f g:Str) (v:V):∀ fs:List (Str×V),(putF f v fs).lookup g=if g=f then some v else fs.lookup g
 | []=>by
  show List.lookup g [(f,v)]=_
  by_cases h:g=f
  ·have hb:(g==f)=true:=z0u.mpr h;simp only[List.lookup,hb,if_pos h]
  ·have hb:(g==f)=false:=z0p.mpr h;simp only[List.lookup,hb,if_neg h]
 | (k,x)::r=>by
  have ih:=Kp f g v r;rw[show putF f v ((k,x)::r)=(if k=f then (k,v)::r else (k,x)::putF f v r) from rfl]
  by_cases hk:k=f
  ·rw[if_pos hk]
   by_cases h:g=k
   ·have hb:(g==k)=true:=z0u.mpr h;simp only[List.lookup,hb,if_pos (h.trans hk)]
   ·have hb:(g==k)=false:=z0p.mpr h;simp only[List.lookup,hb,if_neg (λ e:g=f=>h (e.trans hk.symm))]
  ·rw[if_neg hk]
   by_cases h:g=k
   ·have hb:(g==k)=true:=z0u.mpr h;simp only[List.lookup,hb,if_neg (λ e:g=f=>hk (h.symm.trans e))]
   ·have hb:(g==k)=false:=z0p.mpr h;simp only[List.lookup,hb];exact ih
theorem J_ (f:Str) (v:V):∀ fs:List (Str×V),f∈(putF f v fs).map (·.1)/\∀ g,g∈fs.map (·.1)->g∈(putF f v fs).map (·.1)
 | []=>⟨by simp[putF],λ g h=>by simp at h⟩
 | (k,x)::r=>by
  obtain⟨i1,i2⟩:=J_ f v r;rw[show putF f v ((k,x)::r)=(if k=f then (k,v)::r else (k,x)::putF f v r) from rfl]
  by_cases hk:k=f
  ·rw[if_pos hk];subst hk;exact⟨by simp,λ g h=>by simpa using h⟩
  ·rw[if_neg hk];refine⟨?_,λ g h=>?_⟩
   ·rw[z04];exact z07 _ i1
   ·rw[z04] at h ⊢
    rcases z06.mp h with e | e
    ·exact z06.mpr (.inl e)
    ·exact z07 _ (i2 g e)
theorem Kq (f:Str) (v:V):∀ fs:List (Str×V),(putF f v fs).length<=fs.length+1
 | []=>by simp[putF]
 | (k,x)::r=>by
  have ih:=Kq f v r;rw[show putF f v ((k,x)::r)=(if k=f then (k,v)::r else (k,x)::putF f v r) from rfl]
  by_cases hk:k=f
  ·rw[if_pos hk,z0o,z0o];omega
  ·rw[if_neg hk,z0o,z0o];omega
theorem RelO.some_of {v:V}{o:Option Value}(r:RelO (some v) o):∃ u,o=some u/\RelV v u:=by
 cases o with
 | none=>exact (show False from r).elim
 | some u=>exact⟨u,rfl,r⟩
theorem RelO.none_of {o:Option Value}(r:RelO none o):o=none:=by
 cases o with
 | none=>rfl
 | some u=>exact (show False from r).elim
theorem O5 {v:V}(r:RelV v u):PySem.W.handedIn u=true:=by
 cases v with
 | non=>cases (show u=Value.none from r);rfl
 | bl b=>cases (show u=Value.bool b from r);rfl
 | int i=>obtain⟨t,e⟩:=(show ∃ t,u=Value.int i t from r);cases e;rfl
 | str x=>obtain⟨t,e⟩:=(show ∃ t,u=Value.str x t from r);cases e;rfl
 | byt b=>obtain⟨t,e⟩:=(show ∃ t,u=Value.bytes b t from r);cases e;rfl
 | flt b=>obtain⟨t,e⟩:=(show ∃ t,u=Value.float b t from r);cases e;rfl
 | ref a=>cases (show u=Value.ref a from r);rfl
 | ty n=>cases (show u=Value.type n from r);rfl
section
variable {H H':Hp}{dx:Addr}{fs fs':List (Str×V)}
theorem Ln (hok:HOk P w H h) (e:H a=some (.ins C dx fs)):∃ mA,ObjM h a dx C mA/\(∀ f,RelO (fs.lookup f) (mA f))/\PySem.Within mA (fs.map (·.1))/\fs.length<=1000/\H dx=some (.own a):=by
 obtain⟨d,z,ne,ob,mA,n,r,q⟩:=(show Bg P w H h a (.ins C dx fs) from hok a _ e);exact⟨mA,⟨ob,n,ne⟩,r,q,z,d⟩
end
structure Cls (K:zFr) (C:Addr):Prop where
 pg:PySem.W.plainGet K C Str.empty=true
 hd:PySem.W.hasDictIn K C=true
 po:PySem.W.plainOver K C=true
 sa:PySem.W.findIn K (.ref C) "__setattr__"=some (some (.builtin "object.__setattr__"))
theorem Cls.get {K:zFr}(c:Cls K C) (f:Str):PySem.W.plainGet K C f=true:=c.pg
def Av (K:zFr) (C:Addr) (f:Str):Prop:=PySem.W.findIn K (.ref C) f=some none
theorem Av.taker {K:zFr}(n:Av K C f):PySem.W.takerIn K C f=some none:=by
 unfold PySem.W.takerIn;rw[show PySem.W.findIn K (.ref C) f=some none from n];rfl
structure Meth (K:zFr) (C:Addr) (m:Str) (f:Addr):Prop where
 at_:PySem.W.findIn K (.ref C) m=some (some (.ref f))
 fn:PySem.W.isFn K (.ref f)=true
 kp:PySem.W.keepIn K (.ref f)=true
section
variable {X:Cx}{σ:St}{H:Hp}{dx:Addr}{fs:List (Str×V)}{v:V}{A:Around}
theorem Ub {b:Bool}{Q:zQ}(I:Inv X π σ H s) (e:H a=some (.ins C dx fs)) (c:Cls X.K C) (n:Av X.K C f) (l:fs.lookup f=some v)
  (h:∀ u s',Inv X π σ H s'->RelV v u->Q u s'):wpAny (model X.prog X.w) A (getAttr (.ref a) f b) Q E s:=by
 obtain⟨mA,O,r,_,_,_⟩:=Ln I.hok e;obtain⟨u,hu,ru⟩:=RelO.some_of (v:=v) (o:=mA f) (by rw[<-l];exact r f);exact cF I.kIn O (c.get f) c.hd n hu (O5 ru) (h u _ (I.tok _) ru)
theorem Uc {g:Addr}{pl:Sem Bool}{Q:Value×List Value->Shared->Prop}(I:Inv X π σ H s) (e:H a=some (.ins C dx fs)) (c:Cls X.K C) (k:Meth X.K C m g) (l:fs.lookup m=none)
  (h:Q (.ref g,[.ref a]) s):wpAny (model X.prog X.w) A (getMethod (.ref a) m pl) Q E s:=by
 obtain⟨mA,O,r,_,_,_⟩:=Ln I.hok e;have hn:mA m=none:=RelO.none_of (by rw[<-l];exact r m);exact Yh I.kIn O (c.get m) k.at_ k.fn hn h
theorem Ud {y:V}{Q:Unit->Shared->Prop}(I:Inv X π σ H s) (e:H a=some (.ins C dx fs)) (c:Cls X.K C) (n:Av X.K C f) (hl:fs.length<1000) (ry:RelV y u)
  (h:∀ s',Inv X π σ (upd H a (.ins C dx (putF f y fs))) s'->Q () s'):wpAny (model X.prog X.w) A (setAttr (.ref a) f u) Q E s:=by
 obtain⟨mA,O,r,wi,_,ho⟩:=Ln I.hok e;have hz:(fs.map (·.1)).length<=sizeLine:=by rw[z01,sizeLine_eq];omega
 refine cG I.kIn O c.sa c.po n.taker c.hd wi hz λ h' O' sb=>h _ ?_;have hd:∃ o,h'.get? dx=some o:=let ⟨o,_,_,e',_⟩:=O'.ns;⟨o,e'⟩;refine I.write (x:=a) (e:=dx) (by rw[e];exact True.intro) (.inr ho) (λ b q hb z=>(sb.2 b hb).trans z) hd ?_;refine⟨by rw[Ad O.ne];exact ho,?_,O.ne,O'.obj,_,O'.ns,λ g=>?_,λ g hg=>?_⟩
 ·have:=Kq f y fs;omega
 ·show RelO ((putF f y fs).lookup g) (if g=f then some u else mA g);rw[Kp]
  by_cases q:g=f
  ·rw[if_pos q,if_pos q];exact ry
  ·rw[if_neg q,if_neg q];exact r g
 ·by_cases q:g=f
  ·rw[q];exact (J_ f y fs).1
  ·refine (J_ f y fs).2 g (wi g λ z=>hg ?_);show (if g=f then some u else mA g)=none;rw[if_neg q];exact z
theorem Inv.made (I:Inv X π σ H s):Inv X π σ (upd (upd H s.heap.objs.size (.own (s.heap.objs.size+1))) (s.heap.objs.size+1) (.ins C s.heap.objs.size []))
  { s with heap:=(s.heap.push PySem.W.emptyDict).push (PySem.W.instObj C s.heap.objs.size) }:=by
 have e1:(s.heap.push PySem.W.emptyDict).get? s.heap.objs.size=some PySem.W.emptyDict:=z0l s.heap rfl;have e2:((s.heap.push PySem.W.emptyDict).push (PySem.W.instObj C s.heap.objs.size)).get? (s.heap.objs.size+1)=some (PySem.W.instObj C s.heap.objs.size):=by
  have:=z0l (s.heap.push PySem.W.emptyDict) (o:=PySem.W.instObj C s.heap.objs.size) rfl
  rwa [Heap.size_push] at this
 have e3:(s.heap.push PySem.W.emptyDict).Ns s.heap.objs.size (λ _=>none):=⟨PySem.W.emptyDict,#[],_,e1,rfl,(λ e he=>absurd he (by simp)),λ _=>rfl⟩;have I1:=I.laid (a:=s.heap.objs.size) (o:=.own (s.heap.objs.size+1)) (h':=s.heap.push PySem.W.emptyDict) (t':=s.toks) (λ b u q=>z08 _ q) (z03 _) ⟨_,e1⟩;refine I1.laid (a:=s.heap.objs.size+1) (o:=.ins C s.heap.objs.size []) (t':=s.toks) (λ b u q=>z08 _ q) (Nat.le_of_eq (Heap.size_push _ _)) ?_;have ne:s.heap.objs.size≠s.heap.objs.size+1:=z0e (Nat.lt_succ_self _);refine⟨by rw[Ad ne,Ae],z0M _,ne,e2,λ _=>none,(Heap.Ns1.of_empty e3).at λ o q=>z08 _ q,λ _=>True.intro,λ y hy=>absurd rfl hy⟩
theorem Vd {Q:zQ}(hb:attributeBase e f env (eval e env)=eval e env)
  (h:wpAny (model prog w) A (eval e env) (λ o s₁=>wpAny (model prog w) A (getAttr o f true) Q E s₁) E s):wpAny (model prog w) A (eval (.Attribute e f pos) env) Q E s:=
 Attribute_any_ h (by rw[arm_eval_Attribute,hb])
end
def tFld (K:zFr) (ta:TE) (f:Str):TE:=λ σ H Q=>ta σ H λ x H1=>∃ a C dx fs v,x=.ref a/\H1 a=some (.ins C dx fs)/\Cls K C/\Av K C f/\fs.lookup f=some v/\Q v H1
def sFld (K:zFr) (ta tv:TE) (f:Str):TS:=λ D σ H=>tv σ H λ y H1=>ta σ H1 λ x H2=>∃ a C dx fs,x=.ref a/\H2 a=some (.ins C dx fs)/\Cls K C/\Av K C f/\fs.length<1000 ∧
 D.nx σ (upd H2 a (.ins C dx (putF f y fs)))
section
variable {X:Cx}{o value:Expr}{tpos:Pos}{ta tv:TE}
theorem Ue (he:PE X e ta) (hb:attributeBase e f X.env (eval e X.env)=eval e X.env):PE X (.Attribute e f pos) (tFld X.K ta f):=by
 intro π s σ H Q I h;refine Vd hb (thn (he π s σ H _ I h) λ u s1 ⟨x,H1,I1,rx,a,C,dx,fs,v,ex,ea,c,n,l,q⟩=>?_);subst ex;obtain rfl:u=Value.ref a:=rx;exact Ub I1 ea c n l λ u' s2 I2 ru=>⟨v,H1,I2,ru,q⟩
theorem Yj (ha:PE X o ta) (hv:PE X value tv) (hs:swapsWith value (some (.Attribute o f pos')) pos.line X.env=pure false):PS X (.Assign [.Attribute o f pos'] value pos) (sFld X.K ta tv f):=by
 intro π s σ H D I h;refine plainObj_wpAny_Assign_Attribute (thn (hv π s σ H _ I h) λ u s1 ⟨y,H1,I1,ry,q⟩=>thn (ha π s1 σ H1 _ I1 q) λ ov s2 ⟨x,H2,I2,rx,a,C,dx,fs,ex,ea,c,n,l,q2⟩=>?_) hs;subst ex;obtain rfl:ov=Value.ref a:=rx;exact Ud I2 ea c n l ry λ s3 I3=>⟨σ,_,I3,q2⟩
def rAdd:V->V->Hp->VK->Prop:=λ x y H Q=>∃ i j,x=.int i/\y=.int j/\Q (.int (i+j)) H
end
section
variable {X:Cx}{σ:St}{H:Hp}{A:Around}{Q:zQ}{c:Value}{b:Bool}
end
structure Room (k:Nat) (A:Around):Prop where
 hd:A.handled=none
 dp:A.depth+3*k+5<recursionLimit
 un:A.units+16*k+200<cLine
theorem Room.mono {k:Nat}{A:Around}(r:Room k A) (h:j<=k):Room j A:=⟨r.hd,by have:=r.dp;omega,by have:=r.un;omega⟩
theorem Room.deeper {k:Nat}{A:Around}(r:Room (k+1) A) (env:Env):Room k (A.deeper env):=
 ⟨r.hd,by have:=r.dp;show A.depth+1+3*k+5<_;omega,by have:=r.un;show A.units+3+16*k+200<_;omega⟩
theorem Room.in1 {k:Nat}{A:Around}(r:Room (k+1) A):Room k A.in1:=
 ⟨r.hd,by have:=r.dp;show A.depth+3*k+5<_;omega,by have:=r.un;show A.units+1+16*k+200<_;omega⟩
theorem Ug {A:Around}:(A.under (.builtin "type.__call__" ⟨.ref C::us,kw⟩)).depth=A.depth+1:=by
 first | rfl | simp[Around.under,Code.weight,Code.isCreation,Code.isGuard,Code.isCaller,Code.frames,Code.isFrame,guardIds]
theorem Uh {A:Around}:(A.under (.builtin "type.__call__" ⟨.ref C::us,kw⟩)).units=A.units+1:=by
 first | rfl | simp[Around.under,Code.cUnits,Code.frames,Code.isFrame]
theorem Room.make {k:Nat}{A:Around}(r:Room (k+1) A) (C:Addr) (us:List Value) (kw:List (Str×Value)):Room k (A.under (.builtin "type.__call__" ⟨.ref C::us,kw⟩)):=
 ⟨r.hd,by have:=r.dp;rw[Ug];omega,by have:=r.un;rw[Uh];omega⟩
theorem Room.depth {k:Nat}{A:Around}(r:Room k A):A.depth<recursionLimit:=by have:=r.dp;omega
theorem Room.units {k:Nat}{A:Around}(r:Room k A):A.units+64<cLine:=by have:=r.un;omega
def tNil:TA:=λ _ H Q=>Q [] H
def Kr (ta:TE) (tr:TA):TA:=λ σ H Q=>ta σ H λ x H1=>tr σ H1 λ xs H2=>Q (x::xs) H2
section
variable {X:Cx}{te:TE}{t:TA}
theorem Dt:PA X [] tNil:=λ _ _ _ _ H Q I h=>Calls.spliced_nil ⟨[],H,I,.nil,h⟩
theorem Bh (ha:PE X e te) (hr:PA X es t) (hs:starEach (e::es) X.env=(false,eval e X.env)::starEach es X.env:=by rfl):PA X (e::es) (Kr te t):=by
 intro pos π s σ H Q I h;rw[hs];show wpAny _ _ (spliced ((false,eval e X.env)::backTo pos (starEach es X.env))) _ _ s;refine Calls.spliced_cons (thn (ha π s σ H _ I h) λ u s1 ⟨x,H1,I1,r1,q1⟩=>?_);exact thn (hr pos π s1 σ H1 _ I1 q1) λ us s2 ⟨xs,H2,I2,r2,q2⟩=>⟨x::xs,H2,I2,.cons r1 r2,q2⟩
def tTup (t:TA):TE:=λ σ H Q=>t σ H λ xs H1=>xs.length<=sizeLine/\∀ p,H1 p=none->Q (.ref p) (upd H1 p (.tup xs))
def tLst (t:TA):TE:=λ σ H Q=>t σ H λ xs H1=>xs.length<=sizeLine/\∀ p,H1 p=none->Q (.ref p) (upd H1 p (.lst xs))
theorem QR {x1} (h:PA X es t):PE X (.Tuple es x1 pos) (tTup t):=by
 intro π s σ H Q I hq;refine wpAny_Tuple_spliced (thn (h pos π s σ H _ I hq) λ us s1 ⟨xs,H1,I1,r,z,q⟩=>⟨by rw[<-r.length];exact z,?_⟩);have hf:H1 s1.heap.objs.size=none:=I1.hok.fresh (z03 _);refine⟨.ref s1.heap.objs.size,upd H1 s1.heap.objs.size (.tup xs),I1.laid (t':=s1.toks) (λ b u e=>z08 _ e) (z03 _) ?_,rfl,q _ hf⟩;exact⟨z,us,r,⟨_,z0l _ rfl,rfl,_,rfl⟩⟩
theorem Yk (h:PA X es t):PE X (.List es pos) (tLst t):=by
 intro π s σ H Q I hq;refine wpAny_List_spliced (thn (h pos π s σ H _ I hq) λ us s1 ⟨xs,H1,I1,r,z,q⟩=>⟨by rw[<-r.length];exact z,?_⟩);have hf:H1 s1.heap.objs.size=none:=I1.hok.fresh (z03 _);refine⟨.ref s1.heap.objs.size,upd H1 s1.heap.objs.size (.lst xs),I1.laid (t':=s1.toks) (λ b u e=>z08 _ e) (z03 _) ?_,rfl,q _ hf⟩;exact⟨z,us,0,r,z0l _ rfl⟩
end
abbrev Sp:=List V->Hp->VK->XK->Prop
abbrev CXT:=List Env->Hp->Shared->XK->Value->Shared->Prop
structure Env0 (P:Program) (w:World) (K:zFr) (mg:Str->Option Value) (base:Heap) (A:Around) (outer:List Env) (s:Shared) (H:Hp):Prop where
 frames:A.frames=some outer
 mod:Mod K mg base
 bs:∀ b o,base.get? b=some o->s.heap.get? b=some o/\H b=none
 bsz:base.objs.size<=s.heap.objs.size
 funs:s.heap.FunFrames base outer
 frf:∀ b∈frs outer,H b=none
 hok:HOk P w H s.heap
 bare:AllBare s.gens
def CE (outer:List Env) (P:Program) (w:World) (H:Hp) (s:Shared) (Q:VK) (u:Value) (s':Shared):Prop:=
 ∃ v H',s'.os=s.os/\AllBare s'.gens/\Un (frs outer) [] H H' s.heap s'.heap/\HOk P w H' s'.heap/\RelV v u/\Q v H'
def CR (CX:CXT) (outer:List Env) (P:Program) (w:World) (H:Hp) (s:Shared) (Q:VK) (E:XK) (r:Result) (s':Shared):Prop:=
 match r with
 | .ok (.ret u)=>CE outer P w H s Q u s'
 | .ok _=>False
 | .error e=>CX outer H s E e s'
structure FnOk (P:Program) (w:World) (K:zFr) (mg:Str->Option Value) (base:Heap) (CX:CXT) (k:Nat) (f:Addr) (fd:FuncData) (ps:List Str) (sp:Sp):Prop where
 len:∀ vs H Q E,sp vs H Q E->vs.length=ps.length
 run:∀ (A:Around) (outer:List Env) (s:Shared) (H:Hp) (args:Args) (us:List Value) (vs:List V) (Q:VK) (E:XK),Room k A->Env0 P w K mg base A outer s H->BindsTo s fd args (ps.zip us)->Vals vs us->sp vs H Q E ->
  codeAny (model P w) A (.call (.ref f) args) (CR CX outer P w H s Q E) s
theorem FnOk.mono {P:Program}{w:World}{K:zFr}{mg:Str->Option Value}{base:Heap}{CX:CXT}{j k:Nat}{f:Addr}{fd:FuncData}{ps:List Str}{sp:Sp}(F:FnOk P w K mg base CX j f fd ps sp) (h:j<=k) :
  FnOk P w K mg base CX k f fd ps sp:=⟨F.len,λ A outer s H args us vs Q E hr=>F.run A outer s H args us vs Q E (hr.mono h)⟩
theorem FnOk.imp {K:zFr}{base:Heap}{CX:CXT}{k:Nat}{f:Addr}{sp sp':Sp}(F:FnOk P w K mg base CX k f fd ps sp)
  (h:∀ vs H Q E,sp' vs H Q E->sp vs H Q E):FnOk P w K mg base CX k f fd ps sp':=
 ⟨λ vs H Q E q=>F.len vs H Q E (h _ _ _ _ q),λ A outer s H args us vs Q E hr he hb hv hs=>F.run A outer s H args us vs Q E hr he hb hv (h _ _ _ _ hs)⟩
theorem Env0.make {K:zFr}{base:Heap}{A:Around}{H:Hp}(e:Env0 P w K mg base A outer s H) (C:Addr) (us:List Value) (kw:List (Str×Value)) :
  Env0 P w K mg base (A.under (.builtin "type.__call__" ⟨.ref C::us,kw⟩)) outer s H:=⟨by first | exact e.frames | (simpa [Around.under,Code.envs,Code.isFrame,pushEnvs] using e.frames),e.mod,e.bs,e.bsz,e.funs,e.frf,e.hok,e.bare⟩
theorem Env0.in1 {K:zFr}{base:Heap}{A:Around}{H:Hp}(e:Env0 P w K mg base A outer s H) :
  Env0 P w K mg base A.in1 outer s H:=⟨e.frames,e.mod,e.bs,e.bsz,e.funs,e.frf,e.hok,e.bare⟩
section
variable {X:Cx}{σ:St}{H:Hp}
theorem Inv.env0 (I:Inv X π σ H s):Env0 X.prog X.w X.K X.mg X.base X.A X.stack s H:=
 ⟨I.ok.frames,I.ok.mod,I.bs,z0j I.ok.bsz I.sz,I.stack,I.stkFree,I.hok,I.bare⟩
theorem Inv.after {Q:VK}(I:Inv X π σ H s) (h:CE X.stack X.prog X.w H s Q u s'):EP X π σ Q u s':=by
 obtain⟨v,H',os,bare,un,hok,r,q⟩:=h;obtain⟨hh,g,d,t,os'⟩:=s';obtain rfl:os'=s.os:=os;exact⟨v,H',I.call (h':=hh) (g':=g) (d':=d) (t':=t) (ch:=[]) un hok bare (λ b z=>absurd z (by simp)),r,q⟩
end
def ni (sp:Sp) (dvs:List V) (E:XK) (t:TA):TE:=λ σ H Q=>t σ H λ vs H1=>sp (vs++dvs) H1 Q E
def nj (C:Addr) (m:Str) (sp:Sp) (dvs:List V) (E:XK) (ta:TE) (t:TA):TE:=λ σ H Q=>ta σ H λ x H1=>∃ a dx fs,x=.ref a/\H1 a=some (.ins C dx fs)/\fs.lookup m=none ∧
 t σ H1 λ vs H2=>sp (x::(vs++dvs)) H2 Q E
def Binds (K:zFr) (fd:FuncData) (ps:List Str) (ds:List Value):Prop:=
 ∀ (s:Shared) (us:List Value),K.In s.heap->(us++ds).length=ps.length->BindsTo s fd ⟨us,[]⟩ (ps.zip (us++ds))
theorem Binds.all {K:zFr}(h:∀ us:List Value,us.length=ps.length->bindArgs fd ⟨us,[]⟩=pure (ps.zip us)):Binds K fd ps []:=λ s us _ hl=>by
 rw[z0v] at hl ⊢;exact .of_eq (h us hl)
def QS (CX:CXT) (X:Cx) (E:XK):Prop:=∀ (π:zP) (σ:St) (H:Hp) (s:Shared) (e:Value) (s':Shared),Inv X π σ H s->CX X.stack H s E e s'->X.xe e s'
section
variable {X:Cx}{CX:CXT}{k:Nat}{f:Addr}{sp:Sp}{dvs:List V}{ds:List Value}{E:XK}{x:Str}{p:Pos}{o:Expr}{ta:TE}{t:TA}
theorem Yl {σ:St}{H:Hp}{Q:VK}{vs:List V}(F:FnOk X.prog X.w X.K X.mg X.base CX k f fd ps sp) (hr:Room k X.A) (hb:Binds X.K fd ps ds) (hd:Vals dvs ds) (hx:QS CX X E)
  (I:Inv X π σ H s) (r:Vals vs us) (h:sp (vs++dvs) H Q E):wpAny (model X.prog X.w) X.A (call (.ref f) us) (EP X π σ Q) X.xe s:=by
 have r2:Vals (vs++dvs) (us++ds):=r.append hd;have hl:(us++ds).length=ps.length:=by rw[<-r2.length];exact F.len _ _ _ _ h
 refine wpAny_call (z0N (F.run X.A X.stack s H ⟨us,[]⟩ (us++ds) (vs++dvs) Q E hr I.env0 (hb s us I.kIn hl) r2 h) λ r s' hq=>?_);cases r with
 | error e=>exact hx π σ H s e s' I hq
 | ok fl=>
  cases fl with
  | ret u=>exact I.after hq
  | next=>exact False.elim hq
  | brk=>exact False.elim hq
  | cont=>exact False.elim hq
theorem Ve (F:FnOk X.prog X.w X.K X.mg X.base CX k f fd ps sp) (hr:Room k X.A) (hg:Gl X x) (hm:X.mg x=some (.ref f)) (hk:PySem.W.keepIn X.K (.ref f)=true) (hb:Binds X.K fd ps ds) (hd:Vals dvs ds) (hx:QS CX X E)
  (ha:PA X (e::es) t) (hdb:(x==("__debug__":Str))=false:=by decide) (he:starEach (e::es) X.env=(false,eval e X.env)::starEach es X.env:=by rfl) (hpl:(backTo pos (starEach es X.env)).any (·.1)=false:=by rfl) :
  PE X (.Call (.Name x p) (e::es) [] pos) (ni sp dvs E t):=by
 intro π s σ H Q I h;refine z16 (GF I hg hm ?_ hdb);refine z1d (h₀:=X.base) I.ok.mod.kin hk (thn (ha pos π s σ H _ I h) λ us s1 ⟨vs,H1,I1,r,q⟩=>⟨I1.kIn,?_⟩) he hpl;exact Yl F hr hb hd hx I1 r q
theorem cH {pl:Sem Bool}(he:PE X o ta) (c:Cls X.K C) (hm:Meth X.K C m f) (F:FnOk X.prog X.w X.K X.mg X.base CX k f fd ps sp) (hr:Room k X.A) (hb:Binds X.K fd ps ds) (hd:Vals dvs ds) (hx:QS CX X E) (ha:PA X (e::es) t)
  (hst:starEach (e::es) X.env=(false,eval e X.env)::starEach es X.env:=by rfl) (hpl:(backTo pos (starEach es X.env)).any (·.1)=false:=by rfl)
  (ht:eval (.Call (.Attribute o m apos) (e::es) [] pos) X.env=(do
   let ov <-eval o X.env
   standAt apos.atName
   let (f,first) <-holding [ov] (getMethod ov m pl)
   callWith pos f first (backTo pos (starEach (e::es) X.env)) (backToKw pos (keywordEach [] X.env))):=by rfl) :
  PE X (.Call (.Attribute o m apos) (e::es) [] pos) (nj C m sp dvs E ta t):=by
 intro π s σ H Q I h;refine PySem.W.methodCall_KW (pl:=pl) (thn (he π s σ H _ I h) λ u s1 ⟨x,H1,I1,rx,a,dx,fs,ex,ea,l,q⟩=>?_) ht;subst ex;obtain rfl:u=Value.ref a:=rx;refine Uc I1 ea c hm l ?_;refine z1d (first:=[.ref a]) (h₀:=X.base) I.ok.mod.kin hm.kp (thn (ha pos π s1 σ H1 _ I1 q) λ us s2 ⟨vs,H2,I2,r,q2⟩=>⟨I2.kIn,?_⟩) hst hpl;exact Yl (us:=.ref a::us) (vs:=.ref a::vs) F hr hb hd hx I2 (.cons rfl r) q2
structure Mk (K:zFr) (C f:Addr):Prop where
 makes:PySem.W.makesIn K C=true
 init:PySem.W.findIn K (.ref C) "__init__"=some (some (.ref f))
 fn:PySem.W.isFn K (.ref f)=true
 kp:PySem.W.keepIn K (.ref C)=true
end
section
variable {X:Cx}{CX:CXT}{k:Nat}{f:Addr}{sp:Sp}{E:XK}{x:Str}{p kpos:Pos}{o:Expr}{kws:List Keyword}{te ta:TE}{t tk:TA}{nm:Option Str}
variable {g:List Value->List Value->List Value}{gV:List V->List V->List V}
end
structure FnScope (N P:List Str) (sc:Scope):Prop where
 kind:sc.kind=.function
 co:sc.isCoroutine=false
 gen:sc.isGenerator=false
 nd:N.Nodup
 pre:N.take P.length=P
 par:∀ x∈P,sc.names.lookup x=some .local ∨sc.names.lookup x=some .cell
 nofree:∀ y∈sc.names,y.2≠.free
theorem O6 {kindOf:Str->Option NameKind}{x:Str}:∀ {binds:List (Str×Value)}{m:Str->Option Value},(∀ v,(x,v)∉binds)->bindL kindOf binds m x=m x
 | [],_,_=>rfl
 | (n,v)::r,m,h=>by
  unfold bindL;rw[O6 λ w hw=>h w (z07 _ hw)];split
  ·have:x≠n:=by rintro rfl;exact h v z0k
   simp[this]
  ·rfl
theorem O7 {kindOf:Str->Option NameKind}{x:Str}:∀ {binds:List (Str×Value)}{m:Str->Option Value},(∀ v,(x,v)∉binds)->bindC kindOf binds m x=m x
 | [],_,_=>rfl
 | (n,v)::r,m,h=>by
  unfold bindC;rw[O7 λ w hw=>h w (z07 _ hw)];split
  ·rfl
  ·have:x≠n:=by rintro rfl;exact h v z0k
   simp[this]
theorem O8 {kindOf:Str->Option NameKind}{x:Str}{v:Value}:∀ {P:List Str}{vs:List Value}{i:Nat}{m:Str->Option Value},P.Nodup->P[i]?=some x->vs[i]?=some v->kindOf x=some .local ->
  bindL kindOf (P.zip vs) m x=some v
 | [],_,_,_,_,h,_,_=>by simp at h
 | _::_,[],_,_,_,_,h,_=>by simp at h
 | p::P,w::vs,0,m,nd,h1,h2,hk=>by
  simp at h1 h2;subst h1;subst h2;show bindL kindOf ((p,w)::P.zip vs) m p=_;unfold bindL;rw[O6 λ v hv=>(z0O.mp nd).1 (List.of_mem_zip hv).1,if_pos hk];simp
 | p::P,w::vs,i+1,m,nd,h1,h2,hk=>by
  show bindL kindOf ((p,w)::P.zip vs) m x=_;unfold bindL;exact O8 (i:=i) (z0O.mp nd).2 (by simpa using h1) (by simpa using h2) hk
theorem O9 {kindOf:Str->Option NameKind}{x:Str}{v:Value}:∀ {P:List Str}{vs:List Value}{i:Nat}{m:Str->Option Value},P.Nodup->P[i]?=some x->vs[i]?=some v->kindOf x≠some .local ->
  bindC kindOf (P.zip vs) m x=some v
 | [],_,_,_,_,h,_,_=>by simp at h
 | _::_,[],_,_,_,_,h,_=>by simp at h
 | p::P,w::vs,0,m,nd,h1,h2,hk=>by
  simp at h1 h2;subst h1;subst h2;show bindC kindOf ((p,w)::P.zip vs) m p=_;unfold bindC;rw[O7 λ v hv=>(z0O.mp nd).1 (List.of_mem_zip hv).1,if_neg hk];simp
 | p::P,w::vs,i+1,m,nd,h1,h2,hk=>by
  show bindC kindOf ((p,w)::P.zip vs) m x=_;unfold bindC;exact O9 (i:=i) (z0O.mp nd).2 (by simpa using h1) (by simpa using h2) hk
def start (N:List Str) (vs:List V):St:=vs.map some++List.replicate (N.length-vs.length) none
def cxOf (CX:CXT) (P:Program) (w:World) (K:zFr) (mg:Str->Option Value) (base:Heap) (N:List Str) (qual:Str) (scope:Scope) (f:Addr) (cd:Value) (A:Around) (outer:List Env) (s:Shared) (H:Hp) (E:XK):Cx where
 prog:=P
 w:=w
 K:=K
 mg:=mg
 base:=base
 A:=A.deeper (envOfC qual scope s.heap.objs.size f cd)
 N:=N
 s₀:=s
 H₀:=H
 env:=envOfC qual scope s.heap.objs.size f cd
 outer:=outer
 stack:=envOfC qual scope s.heap.objs.size f cd::outer
 ex:=[]
 calm:=true
 fn:=λ _=>true
 pn:=[]
 xe:=λ e s'=>wpAny (model P w) (A.deeper (envOfC qual scope s.heap.objs.size f cd)) (leaving (envOfC qual scope s.heap.objs.size f cd) e) (λ _ s''=>CX outer H s E e s'') (λ e' s''=>CX outer H s E e' s'') s'
theorem SN {n:Nat}{x:Str}(h:sc.names.lookup x=some .cell):∃ c,(cellsFrom n sc.names []).lookup x=some c:=by
 have q:=PySem.W.cellsFrom_some sc.names n [] (.inl h);exact Option.isSome_iff_exists.mp q
theorem Xl {CX:CXT}{K:zFr}{base:Heap}{f:Addr}{A:Around}{s1:Shared}{H:Hp}{E:XK}{vs:List V}(S:FnScope N ps scope) (hd:A.handled=none) (e0:Env0 P w K mg base A outer s H) (hl:vs.length=ps.length) (r:Vals vs us)
  (x:InCallC s s.heap.objs.size (bindL (envOfC qual scope s.heap.objs.size f cd).kindOf (ps.zip us) λ _=>none) (cellsFrom (s.heap.objs.size+1) scope.names []) (bindC (envOfC qual scope s.heap.objs.size f cd).kindOf (ps.zip us) λ _=>none) s1) :
  Inv (cxOf CX P w K mg base N qual scope f cd A outer s H E) [] (start N vs) H s1:=by
 have hpl:ps.length<=N.length:=by have:=congrArg List.length S.pre;rw[z0T] at this;omega
 obtain⟨h1,tk,rfl,hk⟩:=x.done;have noA:∀ b:Addr,b∉(cxOf CX P w K mg base N qual scope f cd A outer s H E).ex:=λ b z=>absurd (show b∈([]:List Addr) from z) (by simp);refine⟨⟨e0.mod,S.kind,rfl,rfl,z03 _,λ y z c h1 h2=>?_,λ y hy=>?_,λ y c _ h=>?_,λ _=>hd,Around.frames_deeper e0.frames,.inr ⟨rfl,rfl⟩,λ b z=>absurd z (noA b),e0.bs,e0.bsz,λ b _ _=>noA b,λ b z=>absurd z (noA b),e0.funs,e0.frf⟩,
  rfl,e0.bare,Un.kept hk,⟨_,x.toInCall.ns,λ i y v h1 h2 h3=>?_⟩,λ y c h=>⟨_,x.cell y c h⟩,e0.hok.fresh (z03 _),λ y c h=>?_,λ p hp=>absurd (show p∈([]:zP) from hp) (by simp),e0.hok.kept hk,?_⟩
 ·exact name_of_addr x.apart (z1m h1) (z1m h2)
 ·have hy:scope.names.lookup y=some .cell ∨scope.names.lookup y=some .free :=hy
  rcases hy with hy | hy
  ·exact SN hy
  ·exact absurd rfl (S.nofree _ (z1m hy))
 ·exact Nat.le_of_lt (x.above y c (z1m h))
 ·have hi:i<vs.length:=by
   unfold start at h2
   by_cases hi:i<vs.length
   ·exact hi
   ·rw[z0U (by simpa using hi)] at h2;rw[List.getElem?_replicate] at h2;split at h2<;>cases h2
  have ha:vs[i]?=some v:=by
   unfold start at h2;rw[z0P (by simpa using hi),z0c] at h2;cases e:vs[i]? with
   | none=>rw[e] at h2;cases h2
   | some a=>rw[e] at h2;cases h2;rfl
  obtain⟨u,hu,rv⟩:=r.get ha;have hp:ps[i]?=some y:=by
   rw[<-S.pre,List.getElem?_take_of_lt (by omega)];exact h1
  have ndP:ps.Nodup:=by rw[<-S.pre];exact S.nd.sublist (List.take_sublist _ _)
  refine⟨u,rv,?_⟩
  rcases S.par y (List.mem_of_getElem? hp) with k | k
  ·exact .inl ⟨k,O8 ndP hp hu k⟩
  ·obtain⟨c,e⟩:=SN (n:=s.heap.objs.size+1) k;refine .inr ⟨.inl k,c,e,?_⟩;have q:=x.cell y c e;rw[O9 ndP hp hu (by show scope.names.lookup y≠_;rw[k];decide)] at q;exact q
 ·exact e0.hok.fresh (Nat.le_of_lt (x.above y c (z1m h)))
 ·unfold start;show _=N.length;rw[z0A,z01,List.length_replicate];omega
theorem O_ {CX:CXT}{K:zFr}{base:Heap}{k:Nat}{f:Addr}{name:Str}{params:Arguments}{dV kV:Value}{sp:Sp}(lk:K.lookup f=some ⟨oc,od,.func (PySem.W.fnOf name qual params body scope dV kV doc pm an cdv ct),osl⟩) (hcd:PySem.W.codeIn K cdv qual=true) (S:FnScope N ps scope)
  (len:∀ vs H Q E,sp vs H Q E->vs.length=ps.length)
  (hbody:∀ (A:Around) (outer:List Env) (s:Shared) (H:Hp) (vs:List V) (Q:VK) (E:XK),Room k (A.deeper (envOfC qual scope s.heap.objs.size f cdv))->sp vs H Q E ->
   ∃ t,PSs (cxOf CX P w K mg base N qual scope f cdv A outer s H E) body t/\t { nx:=λ _ H'=>Q .non H',rt:=Q } (start N vs) H) :
  FnOk P w K mg base CX (k+1) f (PySem.W.fnOf name qual params body scope dV kV doc pm an cdv ct) ps sp:=by
 refine⟨len,λ A outer s H args us vs Q E hr e0 hb r hsp=>?_⟩;have hl:=len _ _ _ _ hsp;have KX:K.In s.heap:=e0.mod.kin.keeps λ b o e=>(e0.bs b o e).1;have lim:s.heap.NoLimit:=e0.mod.nolimit.keeps λ b o e=>(e0.bs b o e).1;have hkind:∀ y∈ps.zip us,scope.names.lookup y.1=some .local ∨(scope.names.lookup y.1=some .cell /\((cellsFrom (s.heap.objs.size+1) scope.names []).lookup y.1).isSome=true):=λ ⟨n,v⟩ hy=>by
  rcases S.par n (List.of_mem_zip hy).1 with q | q
  ·exact .inl q
  ·exact .inr ⟨q,PySem.W.cellsFrom_some _ _ _ (.inl q)⟩
 refine codeAny_call_function hr.depth (KX _ _ lk) rfl S.co S.gen rfl (PySem.W.codeRec_of KX hcd) (hb _ _ _ _ ?_);refine wpAny_newFunctionEnv_cells S.kind hkind λ env he s1 x=>?_;subst he;refine⟨lim.keeps x.toInCall.keep,codeAny_func ?_⟩;obtain⟨t,ht,hq⟩:=hbody A outer s H vs Q E (hr.deeper _) hsp;have I:Inv (cxOf CX P w K mg base N qual scope f cdv A outer s H E) [] (start N vs) H s1:=Xl S hr.hd e0 hl r x;refine z0B (ht [] s1 (start N vs) H _ I hq) (λ fl s' hs=>?_) λ e s' hs=>hs;have fin:∀ {σ':St}{H':Hp}{v:V}{u:Value},Inv (cxOf CX P w K mg base N qual scope f cdv A outer s H E) [] σ' H' s'->RelV v u->Q v H'->CE outer P w H s Q u s':=
  λ {σ' H' v u} J rv q=>⟨v,H',J.os,J.bare,J.base,J.hok,rv,q⟩
 cases fl with
 | ret u=>
  obtain⟨v,σ',H',J,rv,q⟩:=hs;exact fin J rv q
 | next=>
  obtain⟨σ',H',J,q⟩:=hs;exact fin (v:=V.non) (u:=Value.none) J rfl q
 | brk=>
  obtain⟨_,_,_,q⟩:=hs;exact False.elim q
 | cont=>
  obtain⟨_,_,_,q⟩:=hs;exact False.elim q
end L2
variable {xs vs ys:List L2.V}{H H' H1 F2 F1 He Hf:L2.Hp}{o:L2.HO}{v y:L2.V}{X:L2.Cx}{σ:L2.St}{CX:L2.CXT}{sp:L2.Sp}{r:List L2.V->L2.Hp->L2.VK->Prop}{kvs:List (List L2.Key×L2.V)}
namespace L2
open PySem PySem.Spec PyProof.Rows
section
variable {x:Str}{p:Pos}{t:TA}{id T:String}
def tCB (r:List V->Hp->VK->Prop) (t:TA):TE:=λ σ H Q=>t σ H λ vs H1=>r vs H1 Q
theorem JW (hc:Dn X (.builtin id) r) (hg:Gl X x) (hm:X.mg x=none) (hv:bootBuiltins x=some (.builtin id)) (ha:PA X (e::es) t) (hn:x≠"__name__":=by decide) (hdb:(x==("__debug__":Str))=false:=by decide)
  (he:starEach (e::es) X.env=(false,eval e X.env)::starEach es X.env:=by rfl) (hpl:(backTo pos (starEach es X.env)).any (·.1)=false:=by rfl):PE X (.Call (.Name x p) (e::es) [] pos) (tCB r t):=by
 intro π s σ H Q I h;refine z16 (QK I hg hm hv ?_ hn hdb);exact PyProof.Rows.callWith_builtin1 (thn (ha pos π s σ H _ I h) λ us s1 ⟨vs,H1,I1,r1,q1⟩=>hc π s1 σ H1 vs us Q I1 r1 q1) he hpl
theorem PB (hc:Dn X (.type T) r) (hg:Gl X x) (hm:X.mg x=none) (hv:bootBuiltins x=some (.type T)) (ha:PA X (e::es) t) (hn:x≠"__name__":=by decide) (hdb:(x==("__debug__":Str))=false:=by decide)
  (he:starEach (e::es) X.env=(false,eval e X.env)::starEach es X.env:=by rfl) (hpl:(backTo pos (starEach es X.env)).any (·.1)=false:=by rfl):PE X (.Call (.Name x p) (e::es) [] pos) (tCB r t):=by
 intro π s σ H Q I h;refine z16 (QK I hg hm hv ?_ hn hdb);exact PyProof.Rows.callWith_type1 (thn (ha pos π s σ H _ I h) λ us s1 ⟨vs,H1,I1,r1,q1⟩=>hc π s1 σ H1 vs us Q I1 r1 q1) he hpl
end
end L2
namespace HT
open PySem PyProof.Rows
section
open PySem.SeqAt
open PySem.AutoSeq1 (wpAny_loadPart')
open PySem.MeetsSeq PySem.MeetsSeq2 PySem.MeetsSeq3
end
section
variable {A:Around}
def sIx (n d:Nat):Option Int->Nat
 | none=>d
 | some v=>if v<0 then (v+(n:Int)).toNat else min v.toNat n
theorem ji (n d:Nat) (hd:d<=n) (o:Option Int):sIx n d o<=n:=by
 cases o with
 | none=>exact hd
 | some v=>
  show (if v<0 then (v+(n:Int)).toNat else min v.toNat n)<=n
  by_cases hv:v<0
  ·rw[if_pos hv];omega
  ·rw[if_neg hv];exact Nat.min_le_right _ _
theorem Vf (v:Int) (n d:Nat):(if v<0 then max (v+(n:Int)) 0 else min v (n:Int))=((sIx n d (some v):Nat):Int):=by
 show (if v<0 then max (v+(n:Int)) 0 else min v (n:Int))=(((if v<0 then (v+(n:Int)).toNat else min v.toNat n):Nat):Int)
 by_cases hv:v<0
 ·simp only[if_pos hv];omega
 ·simp only[if_neg hv];omega
theorem Ui (lo hi:Option Int) (n:Nat):Builtin.Slice.sliceAdjust lo hi 1 (n:Int)=(((sIx n 0 lo:Nat):Int),((sIx n n hi:Nat):Int)):=by
 have h1:¬ ((1:Int)<0):=by omega
 unfold Builtin.Slice.sliceAdjust;simp only[h1,if_false];refine Prod.ext ?_ ?_
 ·cases lo with
  | none=>rfl
  | some v=>exact Vf v n 0
 ·cases hi with
  | none=>rfl
  | some v=>exact Vf v n n
theorem Uj (i j:Nat):Builtin.Slice.slicePlaces (i:Int) (j:Int) 1=j-i:=by
 unfold Builtin.Slice.slicePlaces;have h1:(1:Int) > 0:=by omega
 simp only[h1,if_true,Int.ediv_one];split<;>omega
theorem NK {v:Value}{o:Option Int}{Q:Option Int->Shared->Prop}(p:IsPart v o) (h:Q o s):wpAny (model prog w) A (Builtin.Slice.slicePartIndex v) Q E s:=by
 cases p with
 | none=>exact slicePart_none h
 | int i t=>exact slicePart_int h
theorem KC {sl:Addr}{vl vu:Value}{lo hi:Option Int}{n:Nat}{Q:Int×Int×Nat->Shared->Prop}(hs:s.heap.IsSliceOf sl vl vu .none) (pl:IsPart vl lo) (pu:IsPart vu hi)
  (h:Q (((sIx n 0 lo:Nat):Int),1,sIx n n hi-sIx n 0 lo) s):wpAny (model prog w) A (Builtin.Slice.sliceApplied (.ref sl) (pure (n:Int))) Q E s:=by
 obtain⟨os,hos,hcs,hds⟩:=id hs;unfold Builtin.Slice.sliceApplied Builtin.Slice.sliceFields;refine z00 (z00 (z0V hos hds (x:=vl) rfl (z00 (z0V hos hds (x:=vu) rfl (z00 (z0V hos hds (x:=.none) rfl (z02 ?_)))))));refine z00 (slicePart_none ?_);show wpAny _ _ (if ((1:Int)==0)=true then _ else _) _ _ s;rw[if_neg (by decide)];refine z00 (NK pl (z00 (NK pu (z00 (z02 ?_)))));show wpAny _ _ (match Builtin.Slice.sliceAdjust lo hi 1 (n:Int) with | (lo,hi)=>pure (lo,(1:Int),Builtin.Slice.slicePlaces lo hi 1)) _ _ s;rw[Ui lo hi n];show wpAny _ _ (pure (((sIx n 0 lo:Nat):Int),(1:Int),Builtin.Slice.slicePlaces ((sIx n 0 lo:Nat):Int) ((sIx n n hi:Nat):Int) 1)) _ _ s;rw[Uj];exact z02 h
theorem Ym (xs:Array Value) (i k:Nat):((List.range k).filterMap λ (m:Nat)=>xs[((i:Int)+(m:Int)*1).toNat]?).toArray=((xs.toList.drop i).take k).toArray:=by
 have e:(λ (m:Nat)=>xs[((i:Int)+(m:Int)*1).toNat]?)=λ m=>xs[i+m]?:=by
  funext m;have:((i:Int)+(m:Int)*1).toNat=i+m:=by omega
  rw[this]
 rw[e];have:=pick_run xs i k;rw[List.filterMap_map] at this;have e2:((λ x=>xs[x]?) ∘ λ x=>i+x)=λ m=>xs[i+m]?:=rfl;rw[e2] at this;rw[this]
theorem JX {t sl:Addr}{items:Array Value}{vl vu:Value}{lo hi:Option Int}{Q:zQ}(ht:IsTup s.heap t items) (hs:s.heap.IsSliceOf sl vl vu .none) (pl:IsPart vl lo) (pu:IsPart vu hi)
  (hw:¬ (sIx items.size 0 lo=0/\sIx items.size items.size hi=items.size))
  (h:Q (.ref s.heap.objs.size) { s with heap:=s.heap.push { cls:=.type "tuple",data:=.seq ((items.toList.drop (sIx items.size 0 lo)).take (sIx items.size items.size hi-sIx items.size 0 lo)).toArray } })
  (hsz:items.size<=sizeLine):wpAny (model prog w) A (getItem (.ref t) (.ref sl)) Q E s:=by
 have htake:sizeOk (.seq ((items.toList.drop (sIx items.size 0 lo)).take (sIx items.size items.size hi-sIx items.size 0 lo)).toArray):=by
  show ((items.toList.drop (sIx items.size 0 lo)).take (sIx items.size items.size hi-sIx items.size 0 lo)).toArray.size<=sizeLine;rw[z0g,z0T,z0W,z1l];omega
 have hj:sIx items.size items.size hi<=items.size:=ji _ _ (z03 _) hi;obtain⟨os,hos,hcs,hds⟩:=id hs;have hTs:s.TypeIs (.ref sl) "slice":=⟨os,hos,hcs⟩;unfold getItem
 try with_reducible refine z0X ?_
 first | refine z00 (z02 ?_) | skip
 refine z00 (wpAny_sequenceKey ht.typeIs (by decide) ?_);refine z00 (wpAny_callSpecial?_slot (name:=Str.ofString "__getitem__") ht.typeIs PyProof.Rows.slot_tuple_getitem
  (wpAny_call_entry PyProof.Rows.slot_tuple_getitem ht.typeIs entry_tuple_getitem ?_ (args_tuple_getitem _ _)))
 show wpAny _ _ (Builtin.Tuple.tupleItemsOf (.ref t) >>= _) _ _ s;refine z00 (tupleItemsOf_ ht ?_);refine z00 (wpAny_typeOf hTs ?_);rw[if_pos (by decide)];refine z00 (KC hs pl pu ?_);have hno:¬ ((((sIx items.size 0 lo:Nat):Int)==0&&(1:Int)==1&&(sIx items.size items.size hi-sIx items.size 0 lo)==items.size)=true):=by
  intro q;rw[z0q,z0q] at q;have q1:((sIx items.size 0 lo:Nat):Int)=0:=eq_of_beq q.1.1;have q2:sIx items.size items.size hi-sIx items.size 0 lo=items.size:=eq_of_beq q.2;exact hw ⟨by omega,by omega⟩
 show wpAny _ _ (if (((sIx items.size 0 lo:Nat):Int)==0&&(1:Int)==1&&(sIx items.size items.size hi-sIx items.size 0 lo)==items.size)=true then _ else _) _ _ s;rw[if_neg hno,Ym]
 first
  | exact z00 (m:=Builtin.Tuple.tupleExact _) (z17 (z02 ⟨_,rfl,z02 h⟩) htake)
  | exact z00 (m:=Builtin.Tuple.tupleExact _) (z17 (z00 (z02 (z02 ⟨_,rfl,z02 h⟩))) htake)
  | exact z00 (z00 (m:=Builtin.Tuple.tupleExact _) (z17 (z02 (z02 ⟨_,rfl,z02 h⟩)) htake))
  | exact z00 (z00 (m:=Builtin.Tuple.tupleExact _) (z17 (z02 ⟨_,rfl,z02 h⟩) htake))
end
end HT
namespace L2
open PySem PySem.Spec PyProof.Rows
abbrev TO:=St->Hp->(Option Int->Hp->Prop)->Prop
def PO (X:Cx) (e:Option Expr) (t:TO):Prop:=
 ∀ (π:zP) (s:Shared) (σ:St) (H:Hp) (Q:Option Int->Hp->Prop),Inv X π σ H s->t σ H Q ->
  wpAny (model X.prog X.w) X.A (evalPart e X.env) (λ u s'=>∃ o H',Inv X π σ H' s'/\IsPart u o/\Q o H') X.xe s
def n6 (t:TE):TO:=λ σ H Q=>t σ H λ x H1=>∃ i,x=.int i/\Q (some i) H1
section
variable {te:TE}{lo hi:Option Expr}{tl th:TO}{p2:Pos}
theorem cI (h:PE X e te):PO X (some e) (n6 te):=by
 intro π s σ H Q I hw;rw[evalPart_some];refine thn (h π s σ H _ I hw) λ u s1 ⟨x,H1,I1,r1,q1⟩=>?_;obtain⟨i,rfl,q⟩:=q1;obtain⟨t,rfl⟩:=r1;exact⟨some i,H1,I1,.int i t,q⟩
def SlR (X:Cx) (r:V->Option Int->Option Int->Hp->VK->Prop):Prop:=
 ∀ (π:zP) (s:Shared) (σ:St) (H:Hp) (x:V) (v vl vu:Value) (lo hi:Option Int) (sl:Addr) (Q:VK),Inv X π σ H s->RelV x v->s.heap.IsSliceOf sl vl vu .none->IsPart vl lo->IsPart vu hi->r x lo hi H Q ->
  ∃ T id,typeLookup (.type T) "__getitem__"=pure (some (.builtin id))/\s.TypeIs v T/\wpAny (model X.prog X.w) X.A (getItem v (.ref sl)) (EP X π σ Q) X.xe s
theorem SlR.or {r r':V->Option Int->Option Int->Hp->VK->Prop}(h:SlR X r) (h':SlR X r'):SlR X (λ x lo hi H Q=>r x lo hi H Q∨r' x lo hi H Q):=by
 intro π s σ H x v vl vu lo hi sl Q I rx hs pl pu q
 rcases q with q | q
 ·exact h π s σ H x v vl vu lo hi sl Q I rx hs pl pu q
 ·exact h' π s σ H x v vl vu lo hi sl Q I rx hs pl pu q
def tSl (r:V->Option Int->Option Int->Hp->VK->Prop) (te:TE) (tl th:TO):TE:=λ σ H Q=>te σ H λ x H1=>tl σ H1 λ l H2=>th σ H2 λ u H3=>r x l u H3 Q
theorem Yn {r:V->Option Int->Option Int->Hp->VK->Prop}(hr:SlR X r) (he:PE X e te) (hl:PO X lo tl) (hu:PO X hi th):PE X (.Subscript e (.Slice lo hi none p2) pos) (tSl r te tl th):=by
 intro π s σ H Q I h;refine Subscript_ (thn (he π s σ H _ I h) λ v s1 ⟨x,H1,I1,r1,q1⟩=>?_);refine wpAny_Slice (thn (hl π s1 σ H1 _ I1 q1) λ vl s2 ⟨l,H2,I2,pl,q2⟩=>thn (hu π s2 σ H2 _ I2 q2) λ vu s3 ⟨u,H3,I3,pu,q3⟩=>?_);rw[evalPart_none];refine z02 ?_;have I4:Inv X π σ H3 { s3 with heap:=s3.heap.push { cls:=.type "slice",data:=.fields #[vl,vu,.none] } }:=I3.kept (t':=s3.toks) λ b ob q=>z08 _ q;obtain⟨T,id,hT,ht,hg⟩:=hr π { s3 with heap:=s3.heap.push { cls:=.type "slice",data:=.fields #[vl,vu,.none] } } σ H3 x v vl vu l u s3.heap.objs.size Q I4 r1 (Heap.IsSliceOf.new ..) pl pu q3;show wpAny (model X.prog X.w) X.A (subscriptTail e (.Slice lo hi none p2) v (.ref s3.heap.objs.size)) (EP X π σ Q) X.xe { s3 with heap:=s3.heap.push { cls:=.type "slice",data:=.fields #[vl,vu,.none] } };exact tail_any (ops:=[.ref s3.heap.objs.size,v]) ht hT hg (by with_unfolding_all rfl)
def cutV (xs:List V) (lo hi:Option Int):List V:=(xs.drop (HT.sIx xs.length 0 lo)).take (HT.sIx xs.length xs.length hi-HT.sIx xs.length 0 lo)
theorem Ks (xs:List V) (lo hi:Option Int):(cutV xs lo hi).length<=xs.length:=by
 unfold cutV;rw[z0T,z0W];omega
def rSlT (K:zFr):V->Option Int->Option Int->Hp->VK->Prop:=λ x lo hi H Q=>∃ a xs,x=.ref a/\SqT K H a xs ∧
 ¬ (HT.sIx xs.length 0 lo=0/\HT.sIx xs.length xs.length hi=xs.length)/\∀ p,H p=none->Q (.ref p) (upd H p (.tup (cutV xs lo hi)))
theorem jj:SlR X (rSlT X.K):=by
 intro π s σ H x v vl vu lo hi sl Q I rx hs pl pu h;obtain⟨a,xs,rfl,hx,hw,q⟩:=h;cases rx;obtain⟨its,r,ht,hz⟩:=I.tuple hx;have hlen:its.toArray.size=xs.length:=by rw[z0g];exact r.length.symm
 refine⟨"tuple",_,PyProof.Rows.slot_tuple_getitem.lookup,ht.typeIs,?_⟩;refine HT.JX ht hs pl pu (by rw[hlen];exact hw) ?_ (by rw[hlen];exact hz);rw[hlen];refine⟨.ref s.heap.objs.size,_,I.laid (t':=s.toks) (o:=.tup (cutV xs lo hi)) (λ b ob q=>z08 _ q) (z03 _) ?_,rfl,q _ (I.hok.fresh (z03 _))⟩;exact⟨z0j (Ks xs lo hi) hz,_,(r.drop (HT.sIx xs.length 0 lo)).take (HT.sIx xs.length xs.length hi-HT.sIx xs.length 0 lo),IsTup.new _ _⟩
end
def ixN (n:Nat) (i:Int):Option Nat:=if 0<=i then (if i<n then some i.toNat else none) else if -(n:Int)<=i then some (i+n).toNat else none
def atI {α:Type}(xs:List α) (i:Int):Option α:=(ixN xs.length i).bind λ j=>xs[j]?
theorem cJ {n:Nat}{i:Int}(h:ixN n i=some j):seqIndex? i n=some j/\j<n/\-(n:Int)<=i/\i<n:=by
 unfold ixN at h
 by_cases h0:0<=i
 ·rw[if_pos h0] at h
  by_cases h1:i<n
  ·rw[if_pos h1] at h;have e:i.toNat=j:=z0f h;exact⟨by rw[seqIndex_of h0 h1,e],by omega,by omega,h1⟩
  ·rw[if_neg h1] at h;cases h
 ·rw[if_neg h0] at h
  by_cases h1 : -(n:Int)<=i
  ·rw[if_pos h1] at h;have e:(i+n).toNat=j:=z0f h;exact⟨by rw[seqIndex_neg (by omega) h1,e],by omega,h1,by omega⟩
  ·rw[if_neg h1] at h;cases h
theorem QT {α:Type}{xs:List α}{i:Int}{v:α}(h:atI xs i=some v):∃ j,seqIndex? i xs.length=some j/\xs[j]?=some v/\j<xs.length/\-(xs.length:Int)<=i/\i<xs.length:=by
 unfold atI at h;cases e:ixN xs.length i with
 | none=>rw[e] at h;cases h
 | some j=>
  rw[e] at h;obtain⟨h1,h2,h3,h4⟩:=cJ e;exact⟨j,h1,h,h2,h3,h4⟩
def JZ (b:Expr):Prop:=∀ o i,subscripted b false o i=operate [o,i] (getItem o i)
def IxR (X:Cx) (r:R2):Prop:=
 ∀ (value slice:Expr) (π:zP) (s:Shared) (σ:St) (H:Hp) (x y:V) (v u:Value) (Q:VK),Inv X π σ H s->RelV x v->RelV y u->r x y H Q ->
  subscripted slice false v u=operate [v,u] (getItem v u)->wpAny (model X.prog X.w) X.A (subscriptTail value slice v u) (EP X π σ Q) X.xe s
def MtR (X:Cx) (id:String) (r:V->List V->Hp->VK->Prop):Prop:=
 ∀ (π:zP) (s:Shared) (σ:St) (H:Hp) (x:V) (xs:List V) (v:Value) (us:List Value) (Q:VK),Inv X π σ H s->RelV x v->Vals xs us->r x xs H Q ->
  wpAny (model X.prog X.w) X.A (call (.builtin id) (v::us)) (EP X π σ Q) X.xe s
section
variable {a b:Expr}{ta tb:TE}
theorem IxR.or {r r':R2}(h:IxR X r) (h':IxR X r'):IxR X (λ x y H Q=>r x y H Q∨r' x y H Q):=by
 intro value slice π s σ H x y v u Q I rx ry q hs
 rcases q with q | q
 ·exact h value slice π s σ H x y v u Q I rx ry q hs
 ·exact h' value slice π s σ H x y v u Q I rx ry q hs
theorem MtR.or {id:String}{r r':V->List V->Hp->VK->Prop}(h:MtR X id r) (h':MtR X id r'):MtR X id (λ x xs H Q=>r x xs H Q∨r' x xs H Q):=by
 intro π s σ H x xs v us Q I rx rs q
 rcases q with q | q
 ·exact h π s σ H x xs v us Q I rx rs q
 ·exact h' π s σ H x xs v us Q I rx rs q
theorem gf {r:R2}(hr:IxR X r) (ha:PE X a ta) (hb:PE X b tb) (hs:JZ b):PE X (.Subscript a b pos) (tOp r ta tb):=by
 intro π s σ H Q I h;exact Subscript_ (binT ha hb I h λ v u s2 x y H2 I2 rx ry q=>hr a b π s2 σ H2 x y v u Q I2 rx ry q (hs _ _))
def rIxL (K:zFr):R2:=λ x y H Q=>∃ p xs i v,x=.ref p/\y=.int i/\SqL K H p xs/\atI xs i=some v/\Q v H
def rIxT (K:zFr):R2:=λ x y H Q=>∃ p xs i v,x=.ref p/\y=.int i/\SqT K H p xs/\atI xs i=some v/\Q v H
def rIxS:R2:=λ x y H Q=>∃ z i c,x=.str z/\y=.int i/\z.length<=sizeLine/\atI z.cps.toList i=some c/\Q (.str ⟨#[c]⟩) H
theorem cL:IxR X (rIxL X.K):=by
 intro value slice π s σ H x y v u Q I rx ry h hs;obtain⟨p,xs,i,z,rfl,rfl,hq,he,q⟩:=h;cases rx;obtain⟨t,rfl⟩:=ry;obtain⟨its,r,pl,hz⟩:=I.list hq;obtain⟨j,h1,h2,h3,h4,h5⟩:=QT he;obtain⟨w,ew,rw'⟩:=r.get h2;have hl:=r.length;have hn:=NB;have fin:EP X π σ Q w s:=⟨z,H,I,rw',q⟩
 by_cases h0:0<=i
 ·have hj:i.toNat=j:=by
   rw[seqIndex_of h0 h5] at h1;exact z0f h1
  exact item_listR pl.isList h0 (by omega) (by rw[hj];simpa using ew) fin hs
 ·have hj:(i+(its.toArray.size:Int)).toNat=j:=by
   rw[seqIndex_neg (by omega) h4] at h1;rw[z0g,<-hl];exact z0f h1
  exact subscriptTail_builtinR (x:=w) pl.isList.typeIs slot_list_getitem.lookup
   (wpAny_getItem_list_neg (Q:=λ r s'=>r=w/\EP X π σ Q r s') pl.isList (by omega) (by rw[z0g]<;>omega) (by omega) (by rw[hj];simpa using ew) ⟨rfl,fin⟩) hs
theorem jk:IxR X (rIxT X.K):=by
 intro value slice π s σ H x y v u Q I rx ry h hs;obtain⟨p,xs,i,z,rfl,rfl,hq,he,q⟩:=h;cases rx;obtain⟨t,rfl⟩:=ry;obtain⟨its,r,pl,hz⟩:=I.tuple hq;obtain⟨j,h1,h2,h3,h4,h5⟩:=QT he;obtain⟨w,ew,rw'⟩:=r.get h2;have hl:=r.length;have hn:=NB;have fin:EP X π σ Q w s:=⟨z,H,I,rw',q⟩;exact subscriptTail_builtinR (x:=w) pl.typeIs slot_tuple_getitem.lookup
  (getItem_tuple (j:=j) (Q:=λ r s'=>r=w/\EP X π σ Q r s') pl (by omega) (by omega) (by rw[z0g,<-hl];exact h1) (by simpa using ew) ⟨rfl,fin⟩) hs
theorem QV:IxR X rIxS:=by
 intro value slice π s σ H x y v u Q I rx ry h hs;obtain⟨z,i,c,rfl,rfl,hz,he,q⟩:=h;obtain⟨t,rfl⟩:=rx;obtain⟨t',rfl⟩:=ry;obtain⟨j,h1,h2,h3,h4,h5⟩:=QT he;have hl:z.cps.toList.length=z.length:=by simp[Str.length]
 rw[hl] at h1 h4 h5;have hn:=NB;exact tail_any (typeIs_str s z t) slot_str_getitem.lookup (getItem_str (c:=c) (by
  have e1:decide (i < -(2^63:Int))=false:=z0d (by omega);have e2:decide (i≥2^63)=false:=z0d (by omega);rw[e1,e2,Bool.or_false]) (by rw[h1];simpa using h2) ⟨.str ⟨#[c]⟩,H,I.tok _,⟨_,rfl⟩,q⟩) hs
def rIx (K:zFr):R2:=λ x y H Q=>rIxL K x y H Q∨rIxT K x y H Q∨rIxS x y H Q
theorem Yo:IxR X (rIx X.K):=cL.or (jk.or QV)
theorem Inv.lst {π:zP}{σ:St}{H:Hp}{s:Shared}{p:Addr}{xs:List V}(I:Inv X π σ H s) (h:H p=some (.lst xs)) :
  ∃ (its:List Value) (n:Nat),Vals xs its/\s.heap.get? p=some { cls:=.type "list",data:=.seq its.toArray n }/\xs.length<=sizeLine:=by
 obtain⟨z,its,n,r,e⟩:=I.hok p _ h;exact⟨its,n,r,e,z⟩
theorem QW (lo hi:Option Int) (n:Nat):(sliceBounds lo hi none n).1=((HT.sIx n 0 lo:Nat):Int)/\(sliceBounds lo hi none n).2.1=((HT.sIx n n hi:Nat):Int)/\(sliceBounds lo hi none n).2.2=1:=by
 refine⟨?_,?_,rfl⟩
 ·cases lo with
  | none=>simp[sliceBounds,HT.sIx]
  | some i=>
   simp only[sliceBounds,HT.sIx,Option.getD_none,show (1:Int) > 0 by decide,if_true]
   by_cases h:i<0
   ·simp only[h,if_true]<;>omega
   ·simp only[h,if_false]<;>omega
 ·cases hi with
  | none=>simp[sliceBounds,HT.sIx]
  | some i=>
   simp only[sliceBounds,HT.sIx,Option.getD_none,show (1:Int) > 0 by decide,if_true]
   by_cases h:i<0
   ·simp only[h,if_true]<;>omega
   ·simp only[h,if_false]<;>omega
theorem Oq (its:List Value) (lo hi:Option Int):slicePick its.toArray lo hi none=((its.drop (HT.sIx its.length 0 lo)).take (HT.sIx its.length its.length hi-HT.sIx its.length 0 lo)).toArray:=by
 obtain⟨h1,h2,h3⟩:=QW lo hi its.toArray.size;unfold slicePick;rw[h1,h2,h3];simp only[sliceRange_one,pick_run,z0g]<;>rfl
def rSlL (K:zFr):V->Option Int->Option Int->Hp->VK->Prop:=λ x lo hi H Q=>∃ a xs,x=.ref a/\SqL K H a xs/\∀ p,H p=none->Q (.ref p) (upd H p (.lst (cutV xs lo hi)))
theorem cP:SlR X (rSlL X.K):=by
 intro π s σ H x v vl vu lo hi sl Q I rx hs pl pu h;obtain⟨a,xs,rfl,hx,q⟩:=h;cases rx;obtain⟨its,r,ht,hz⟩:=I.list hx;have hlen:=r.length;refine⟨"list",_,slot_list_getitem.lookup,ht.isList.typeIs,?_⟩;refine wpAny_getItem_list_slice ht.isList hs pl pu .none (by simp) ?_ (by rw[z0g]<;>omega);rw[Oq,<-hlen];refine⟨.ref s.heap.objs.size,_,I.laid (t':=s.toks) (o:=.lst (cutV xs lo hi)) (λ b ob q=>z08 _ q) (z03 _) ?_,rfl,q _ (I.hok.fresh (z03 _))⟩;exact⟨z0j (Ks xs lo hi) hz,_,0,(r.drop (HT.sIx xs.length 0 lo)).take (HT.sIx xs.length xs.length hi-HT.sIx xs.length 0 lo),z0l _ rfl⟩
def HN:V->Bool
 | .non=>true
 | .bl _=>true
 | .int _=>true
 | .str _=>true
 | _=>false
def eqV:V->V->Bool
 | .non,.non=>true
 | .bl a,.bl b=>a==b
 | .bl a,.int b=>(if a then 1 else 0)==b
 | .int a,.bl b=>a==(if b then 1 else 0)
 | .int a,.int b=>a==b
 | .str a,.str b=>a==b
 | _,_=>false
theorem Yp {A:Around}{x:V}{v:Value}(ry:RelV y u) (rx:RelV x v) (fy:HN y=true) (fx:HN x=true):SeqAt.EqAt A s u v (eqV y x):=by
 cases y with
 | non=>
  cases ry;cases x with
  | non=>cases rx;exact SeqAt.EqAt.same _
  | bl b=>cases rx;exact SeqAt.EqAt.none_bool b
  | int b=>obtain⟨t,rfl⟩:=rx;exact SeqAt.EqAt.none_int b t
  | str b=>obtain⟨t,rfl⟩:=rx;exact SeqAt.EqAt.none_str b t
  | _=>exact absurd (show false=true from fx) z0m
 | bl a=>
  cases ry;cases x with
  | non=>cases rx;exact SeqAt.EqAt.bool_none a
  | bl b=>cases rx;exact SeqAt.EqAt.bool_bool a b
  | int b=>obtain⟨t,rfl⟩:=rx;exact SeqAt.EqAt.bool_int a b t
  | str b=>obtain⟨t,rfl⟩:=rx;exact SeqAt.EqAt.bool_str a b t
  | _=>exact absurd (show false=true from fx) z0m
 | int a=>
  obtain⟨t',rfl⟩:=ry;cases x with
  | non=>cases rx;exact SeqAt.EqAt.int_none a t'
  | bl b=>cases rx;exact SeqAt.EqAt.int_bool a t' b
  | int b=>obtain⟨t,rfl⟩:=rx;exact SeqAt.EqAt.int_int a t' b t
  | str b=>obtain⟨t,rfl⟩:=rx;exact SeqAt.EqAt.int_str a t' b t
  | _=>exact absurd (show false=true from fx) z0m
 | str a=>
  obtain⟨t',rfl⟩:=ry;cases x with
  | non=>cases rx;exact SeqAt.EqAt.str_none a t'
  | bl b=>cases rx;exact SeqAt.EqAt.str_bool a t' b
  | int b=>obtain⟨t,rfl⟩:=rx;exact SeqAt.EqAt.str_int a t' b t
  | str b=>obtain⟨t,rfl⟩:=rx;exact SeqAt.EqAt.str_str a t' b t
  | _=>exact absurd (show false=true from fx) z0m
 | _=>exact absurd (show false=true from fy) z0m
def eqU (x:V) (u:Value):Bool:=match u with
 | .none=>eqV .non x
 | .bool b=>eqV (.bl b) x
 | .int i _=>eqV (.int i) x
 | .str z _=>eqV (.str z) x
 | _=>false
theorem Yq {x:V}(r:RelV y u) (f:HN y=true):eqU x u=eqV y x:=by
 cases y with
 | non=>cases r;rfl
 | bl b=>cases r;rfl
 | int i=>obtain⟨t,rfl⟩:=r;rfl
 | str z=>obtain⟨t,rfl⟩:=r;rfl
 | _=>exact absurd (show false=true from f) z0m
theorem Ja {x:V}:∀ {xs:List V}{us:List Value},Vals xs us->xs.all HN=true->us.any (eqU x)=xs.any λ y=>eqV y x
 | _,_,.nil,_=>rfl
 | y::xs,u::us,.cons r t,f=>by
  rw[List.all_cons,z0q] at f;rw[List.any_cons,List.any_cons,Yq r f.1,Ja t f.2]
theorem Ha {A:Around}{s:Shared}{x:V}{v:Value}(rx:RelV x v) (fx:HN x=true):∀ {xs:List V}{us:List Value},Vals xs us->xs.all HN=true->∀ u∈us,SeqAt.EqAt A s u v (eqU x u)
 | _,_,.nil,_=>λ u hu=>by cases hu
 | y::xs,u::us,.cons r t,f=>λ u' hu=>by
  rw[List.all_cons,z0q] at f
  rcases z06.mp hu with rfl | hu
  ·rw[Yq r f.1];exact Yp r rx f.1 fx
  ·exact Ha rx fx t f.2 u' hu
def inV (x:V) (xs:List V):Bool:=xs.any λ y=>eqV y x
def rIn (K:zFr) (neg:Bool):R2:=λ x y H Q=>∃ p xs,y=.ref p/\(SqL K H p xs∨SqT K H p xs)/\HN x=true/\xs.all HN=true/\Q (.bl (if neg then !inV x xs else inV x xs)) H
theorem Xm:OpR X (compareOp .In) (rIn X.K false):=by
 intro π s σ H x y v u Q I rx ry h;obtain⟨p,xs,rfl,hq,fx,fs,q⟩:=h;cases ry
 rcases hq with hq | hq
 ·obtain⟨its,r,pl,hz⟩:=I.list hq;refine SeqAt.in_listAt (eqU x) pl.isList (λ w hw=>Ha rx fx r fs w (by simpa using hw)) ⟨.bl _,H,I,rfl,?_⟩;rw[show its.toArray.any (eqU x)=its.any (eqU x) by simp,Ja r fs];exact q
 ·obtain⟨its,r,pl,hz⟩:=I.tuple hq;refine SeqAt.in_tupleAt (eqU x) pl (λ w hw=>Ha rx fx r fs w (by simpa using hw)) ⟨.bl _,H,I,rfl,?_⟩;rw[show its.toArray.any (eqU x)=its.any (eqU x) by simp,Ja r fs];exact q
theorem QX:OpR X (compareOp .NotIn) (rIn X.K true):=by
 intro π s σ H x y v u Q I rx ry h;obtain⟨p,xs,rfl,hq,fx,fs,q⟩:=h;cases ry
 rcases hq with hq | hq
 ·obtain⟨its,r,pl,hz⟩:=I.list hq;refine SeqAt.notIn_listAt (eqU x) pl.isList (λ w hw=>Ha rx fx r fs w (by simpa using hw)) ⟨.bl _,H,I,rfl,?_⟩;rw[show its.toArray.any (eqU x)=its.any (eqU x) by simp,Ja r fs];exact q
 ·obtain⟨its,r,pl,hz⟩:=I.tuple hq;refine SeqAt.notIn_tupleAt (eqU x) pl (λ w hw=>Ha rx fx r fs w (by simpa using hw)) ⟨.bl _,H,I,rfl,?_⟩;rw[show its.toArray.any (eqU x)=its.any (eqU x) by simp,Ja r fs];exact q
theorem Dn.or {f:Value}{r':List V->Hp->VK->Prop}(h:Dn X f r) (h':Dn X f r'):Dn X f (λ xs H Q=>r xs H Q∨r' xs H Q):=by
 intro π s σ H xs us Q I rs q
 rcases q with q | q
 ·exact h π s σ H xs us Q I rs q
 ·exact h' π s σ H xs us Q I rs q
theorem Gz:Dn X (.type "list") (λ xs H Q=>∃ p ys,xs=[.ref p]/\(SqL X.K H p ys∨SqT X.K H p ys)/\∀ l,H l=none->Q (.ref l) (upd H l (.lst ys))):=by
  intro π s σ H xs us Q I r h;obtain⟨p,ys,rfl,hq,q⟩:=h;obtain⟨u,rfl,rx⟩:=vals1 r;cases rx;have fin:∀ (its:List Value),Vals ys its->ys.length<=sizeLine->∀ (h':Heap) (c':Nat),(∀ b o',s.heap.get? b=some o'->h'.get? b=some o') ->
      h'.get? s.heap.objs.size=some { cls:=.type "list",dict:=none,data:=.seq its.toArray c',slots:=#[] }->EP X π σ Q (.ref s.heap.objs.size) { s with heap:=h' }:=λ its r' hz h' c' kp e=>
    ⟨.ref s.heap.objs.size,_,I.laid (t':=s.toks) kp (z03 _) (show Bg X.prog X.w _ h' _ (.lst ys) from⟨hz,its,c',r',e⟩),rfl,q _ (I.hok.fresh (z03 _))⟩
  rcases hq with hq | hq
  · obtain⟨its,r',pl,hz⟩:=I.list hq
    have hlen:=r'.length;obtain⟨o,ho,hc,n,hd⟩:=pl.isList;exact call_list_seq p (.inl rfl) ho hc hd (λ h' c' kp e=>fin its r' hz h' c' kp e) (by simp only[z0g]<;>omega)
  · obtain⟨its,r',pl,hz⟩:=I.tuple hq
    have hlen:=r'.length;obtain⟨o,ho,hc,n,hd⟩:=pl;exact call_list_seq p (.inr rfl) ho hc hd (λ h' c' kp e=>fin its r' hz h' c' kp e) (by simp only[z0g]<;>omega)
def tyV (K:zFr) (T:String) (x:V) (H:Hp):Prop:=match x with
  | .str _=>T="str"
  | .int _=>T="int"
  | .ref p=>(T="list"/\∃ xs,SqL K H p xs)∨(T="tuple"/\∃ o,K.lookup p=some o/\o.cls=.type "tuple"/\o.dict=none) ∨
      (T="dict"/\((∃ kvs,H p=some (.dK kvs))∨∃ kvs,H p=some (.dT kvs)))∨(T="set"/\∃ S n,H p=some (.set S n))
  | _=>False
theorem jl {T:String}{x:V}{v:Value}(I:Inv X π σ H s) (r:RelV x v) (ty:tyV X.K T x H) :
  s.TypeIs v T/\∀ a,v=.ref a->∃ ob,s.heap.get? a=some ob/\ob.dict=none:=by
 cases x with
 | str z=>
  obtain⟨t,rfl⟩:=r;cases (show T="str" from ty);exact⟨typeIs_str s z t,λ _ e=>nomatch e⟩
 | int i=>
  obtain⟨t,rfl⟩:=r;cases (show T="int" from ty);exact⟨typeIs_int s i t,λ _ e=>nomatch e⟩
 | ref p=>
  cases r
  rcases ty with ⟨rfl,xs,hq⟩ | ⟨rfl,o,hk,hc,hd⟩ | ⟨rfl,hk⟩ | ⟨rfl,S,n,hk⟩
  ·obtain⟨its,_,pl,_⟩:=I.list hq;refine⟨pl.isList.typeIs,λ a e=>?_⟩;cases e;obtain⟨o,n,e,c,hd,_⟩:=pl;exact⟨o,e,hd⟩
  ·refine⟨⟨o,I.kIn p o hk,hc⟩,λ a e=>?_⟩;cases e;exact⟨o,I.kIn _ o hk,hd⟩
  ·have z:∃ o,s.heap.get? p=some o/\o.ExactDict:=by
    rcases hk with ⟨kvs,hk⟩ | ⟨kvs,hk⟩
    ·obtain⟨_,_,_,_,o,_,_,e,ex,_⟩:=I.hok p _ hk;exact⟨o,e,ex⟩
    ·obtain⟨_,_,_,_,o,_,_,e,ex,_⟩:=I.hok p _ hk;exact⟨o,e,ex⟩
   obtain⟨o,e,ex⟩:=z;refine⟨⟨o,e,ex.1⟩,λ a e2=>?_⟩;cases e2;exact⟨o,e,ex.2.1⟩
  ·obtain⟨o,_,_,_,e,ex,_⟩:=I.hok p _ hk;refine⟨⟨o,e,ex.1⟩,λ a e2=>?_⟩;cases e2;exact⟨o,e,ex.2.1⟩
 | _=>exact False.elim ty
def tBM (K:zFr) (T:String) (r:V->List V->Hp->VK->Prop) (to:TE) (t:TA):TE:=λ σ H Q=>to σ H λ x H1=>tyV K T x H1/\t σ H1 λ xs H2=>r x xs H2 Q
variable {o:Expr}{to:TE}{t:TA}{name:Str}{cpos:Pos}{T id:String}{r:V->List V->Hp->VK->Prop}
theorem gj (pa:PlainAttrs T) (slot:Slot T name id) (hty:typeOf (.builtin id)=pure (.type "method_descriptor")) (hm:MtR X id r) (ho:PE X o to) (ha:PA X (e::es) t)
  (hbase:attributeBase o name X.env (eval o X.env)=eval o X.env:=by rfl)
  (hfew:((backTo cpos (starEach (e::es) X.env)).all (λ x=>!x.1)&&(backToKw cpos (keywordEach [] X.env)).all (λ x=>x.1.isSome)
   && decide ((e::es).length+([]:List Keyword).length+(if ([]:List Keyword).isEmpty then 0 else 1)<30))=true:=by rfl)
  (hline:(apos.endLine==cpos.line)=true:=by rfl) (hs:starEach (e::es) X.env=(false,eval e X.env)::starEach es X.env:=by rfl) (hplain:(backTo cpos (starEach es X.env)).any (·.1)=false:=by rfl) :
  PE X (.Call (.Attribute o name apos) (e::es) [] cpos) (tBM X.K T r to t):=by
 intro π s σ H Q I h;refine wpAny_Call_method_late hbase hfew hline rfl (thn (ho π s σ H _ I h) λ v s1 ⟨x,H1,I1,r1,ty,q1⟩=>?_);obtain⟨h1,h2⟩:=jl I1 r1 ty;refine⟨T,id,pa,slot,hty,h1,h2,?_⟩;have hA:=ha cpos π s1 σ H1 _ I1 q1;rw[hs] at hA ⊢;refine Calls.callWith_builtin (by show (false||(backTo cpos (starEach es X.env)).any (·.1))=false;rw[hplain]<;>rfl) (Calls.evalArgs_plain ?_);exact thn hA λ us s2 ⟨vs,H2,I2,r2,q2⟩=>hm π s2 σ H2 x vs v us Q I2 r1 r2 q2
end
def MtM (X:Cx) (id:String) (r:V->List V->Hp->VK->Prop):Prop:=
 ∀ (π:zP) (s:Shared) (σ:St) (H:Hp) (x:V) (xs:List V) (v:Value) (us:List Value) (Q:VK),Inv X π σ H s->RelV x v->Vals xs us->r x xs H Q ->
  wpAny (model X.prog X.w) X.A (call (.builtin id) (v::us)) (EP X π σ Q) X.xe s
theorem Vals.one:∀ {x:V}{us:List Value},Vals [x] us->∃ u,us=[u]/\RelV x u
 | _,_,.cons r .nil=>⟨_,rfl,r⟩
theorem Vals.two:∀ {x y:V}{us:List Value},Vals [x,y] us->∃ u v,us=[u,v]/\RelV x u/\RelV y v
 | _,_,_,.cons r (.cons q .nil)=>⟨_,_,rfl,r,q⟩
theorem Vals.zero:∀ {us:List Value},Vals [] us->us=[]
 | _,.nil=>rfl
section
variable {l:Addr}{zs:List V}
theorem Inv.lset {its':List Value}{n:Nat}{f:Array Value->Array Value}(I:Inv X π σ H s) (hH:H l=some (.lst xs))
  (e:s.heap.get? l=some { cls:=.type "list",data:=.seq its.toArray n }) (hf:f its.toArray=its'.toArray) (hv:Vals ys its') (hz:ys.length<=sizeLine) :
  Inv X π σ (upd H l (.lst ys)) { s with heap:=s.heap.update l (Obj.mapSeq f),toks:=t' }:=by
 have q:=PySem.IsL.update e f;rw[hf] at q;refine I.write (x:=l) (e:=l) (by rw[hH];exact trivial) (.inl rfl) (λ b' u hb hu=>(z1e s.heap (Obj.mapSeq f) (Ne.symm hb)).trans hu) ⟨_,q⟩ ?_;exact⟨hz,its',_,hv,q⟩
theorem Inv.lnew (I:Inv X π σ H s) (hv:Vals ys its) (hz:ys.length<=sizeLine) :
  Inv X π σ (upd H s.heap.objs.size (.lst ys)) { s with heap:=s.heap.push { cls:=.type "list",data:=.seq its.toArray },toks:=t' }:=
 I.laid (λ _ _ q=>z08 _ q) (z03 _) ⟨hz,its,0,hv,z0l _ rfl⟩
theorem Inv.fresh (I:Inv X π σ H s):H s.heap.objs.size=none:=I.hok.fresh (z03 _)
theorem Inv.lstM (I:Inv X π σ H s) (hH:H l=some (.lst xs)):xs.length<=sizeLine/\∃ (its:List Value) (n:Nat),Vals xs its/\xs.length=its.length/\s.heap.get? l=some { cls:=.type "list",data:=.seq its.toArray n }:=by
 obtain⟨z,its,n,r,e⟩:=I.hok l _ hH;exact⟨z,its,n,r,r.length,e⟩
end
section
def cQ:V->List V->Hp->VK->Prop:=λ x vs H Q=>∃ l xs y,x=.ref l/\vs=[y]/\H l=some (.lst xs)/\xs.length<sizeLine/\Q .non (upd H l (.lst (xs++[y])))
theorem PJ:MtM X "list.append" cQ:=by
 intro π s σ H x vs v us Q I rx rv h;obtain⟨l,xs,y,rfl,rfl,hH,hz,q⟩:=h;cases rx;obtain⟨u,rfl,ru⟩:=rv.one;obtain⟨z,its,n,r,hl,e⟩:=I.lstM hH;refine call_meets F.slot_list_append ⟨_,e,rfl⟩ F.entry_list_append (F.args_list_append_2 _ _) (PySem.list_append l its.toArray n u (by rw[z0g];omega)) ⟨e,?_⟩;refine⟨.non,_,I.lset (its':=its++[u]) hH e (by simp) (r.append (.cons ru .nil)) ?_,rfl,q⟩;rw[z0A,List.length_singleton];omega
end
section
variable {A:Around}
end
section
end
section
variable {κ:Type} [DecidableEq κ]
def valV (kvs:List (κ×V)) (k:κ):Option V:=(kvs.find? λ kv=>decide (kv.1=k)).map (·.2)
def putK (kvs:List (κ×V)) (k:κ) (v:V):List (κ×V):=
 if (kvs.any λ kv=>decide (kv.1=k))=true then kvs.map (λ kv=>if kv.1=k then (kv.1,v) else kv) else kvs++[(k,v)]
def gq (kvs:List (κ×V)) (k:κ):List (κ×V):=kvs.filter λ kv=>decide (kv.1≠k)
theorem Jb {p:κ×V}{r:List (κ×V)}{k:κ}(e:p.1=k):valV (p::r) k=some p.2:=by simp[valV,z1f,e]
theorem Jc {p:κ×V}{r:List (κ×V)}{k:κ}(e:¬ p.1=k):valV (p::r) k=valV r k:=by simp[valV,z1f,e]
theorem NP (k:κ):∀ kvs:List (κ×V),(kvs.any λ kv=>decide (kv.1=k))=(valV kvs k).isSome
 | []=>rfl
 | p::r=>by
  rw[List.any_cons]
  by_cases e:p.1=k
  ·simp only[Jb e,z0h e,Bool.true_or,Option.isSome_some]
  ·rw[Jc e,z0d e,Bool.false_or];exact NP k r
theorem Ku (kvs:List (κ×V)) (k:κ) (v:V):(putK kvs k v).length<=kvs.length+1:=by
 unfold putK;split
 ·rw[z01];omega
 ·rw[z0A,z0o,z1g];omega
theorem RelO.isSome_eq {o:Option V}{u:Option Value}(r:RelO o u):o.isSome=u.isSome:=by
 cases o with
 | none=>cases u with
  | none=>rfl
  | some _=>exact (show False from r).elim
 | some _=>cases u with
  | none=>exact (show False from r).elim
  | some _=>rfl
theorem RelO.getD {o:Option V}{u:Option Value}{d:V}{d':Value}(r:RelO o u) (rd:RelV d d'):RelV (o.getD d) (u.getD d'):=by
 cases o with
 | none=>cases u with
  | none=>exact rd
  | some _=>exact (show False from r).elim
 | some _=>cases u with
  | none=>exact (show False from r).elim
  | some _=>exact r
theorem KV.val {kvs:List (κ×V)}{vs:List (κ×Value)}(r:KV kvs vs) (k:κ):RelO (valV kvs k) (valueAt vs k):=by
 unfold KV at r
 induction r with
 | nil=>exact True.intro
 | @cons p q ps qs h t ih=>
  obtain⟨h1,h2⟩:=h
  by_cases e:p.1=k
  ·have e':q.1=k:=h1.symm.trans e;have b:valueAt (q::qs) k=some q.2:=by simp[valueAt,z1f,e']
   rw[Jb e,b];exact h2
  ·have e':¬ q.1=k:=λ z=>e (h1.trans z);have b:valueAt (q::qs) k=valueAt qs k:=by simp[valueAt,z1f,e']
   rw[Jc e,b];exact ih
theorem KV.any {kvs:List (κ×V)}{vs:List (κ×Value)}(r:KV kvs vs) (k:κ):(kvs.any λ kv=>decide (kv.1=k))=vs.any λ kv=>decide (kv.1=k):=by
 unfold KV at r
 induction r with
 | nil=>rfl
 | cons h t ih=>rw[List.any_cons,List.any_cons,ih,h.1]
theorem KV.repl {kvs:List (κ×V)}{vs:List (κ×Value)}(r:KV kvs vs) (k:κ) {y:V}{u:Value}(ry:RelV y u) :
  KV (kvs.map λ kv=>if kv.1=k then (kv.1,y) else kv) (vs.map λ kv=>if kv.1=k then (kv.1,u) else kv):=by
 unfold KV at r ⊢
 induction r with
 | nil=>exact .nil
 | @cons p q ps qs h t ih=>
  rw[z04,z04];refine .cons ?_ ih;obtain⟨h1,h2⟩:=h
  by_cases e:p.1=k
  ·rw[if_pos e,if_pos (h1.symm.trans e)];exact⟨h1,ry⟩
  ·rw[if_neg e,if_neg (λ z=>e (h1.trans z))];exact⟨h1,h2⟩
theorem KV.put {kvs:List (κ×V)}{vs:List (κ×Value)}(r:KV kvs vs) (k:κ) {y:V}{u:Value}(ry:RelV y u):KV (putK kvs k y) (stored vs k u):=by
 unfold putK stored;rw[r.any k]
 by_cases e:(vs.any λ kv=>decide (kv.1=k))=true
 ·rw[if_pos e,if_pos e];exact r.repl k ry
 ·rw[if_neg e,if_neg e];exact Paired.snoc r ⟨rfl,ry⟩
theorem KV.drop {kvs:List (κ×V)}{vs:List (κ×Value)}(r:KV kvs vs) (k:κ):KV (gq kvs k) (without vs k):=by
 unfold KV at r ⊢;unfold gq without
 induction r with
 | nil=>exact .nil
 | @cons p q ps qs h t ih=>
  obtain⟨h1,h2⟩:=h;rw[List.filter_cons,List.filter_cons]
  by_cases e:p.1=k
  ·have a:¬ decide (p.1≠k)=true:=by simp[e]
   have b:¬ decide (q.1≠k)=true:=by simp[h1.symm.trans e]
   rw[if_neg a,if_neg b];exact ih
  ·have e':¬ q.1=k:=λ z=>e (h1.trans z);have a:decide (p.1≠k)=true:=by simp[e]
   have b:decide (q.1≠k)=true:=by simp[e']
   rw[if_pos a,if_pos b];exact .cons ⟨h1,h2⟩ ih
theorem KV.length {kvs:List (κ×V)}{vs:List (κ×Value)}(r:KV kvs vs):kvs.length=vs.length:=Paired.length r
end
theorem SQ {k:Key}(r:RelV (kV k) u):(BK P w).is k u=true:=by
 cases k with
 | inl i=>obtain⟨t,e⟩:=(show ∃ t,u=Value.int i t from r);subst e;exact R_ P w i t
 | inr x=>obtain⟨t,e⟩:=(show ∃ t,u=Value.str x t from r);subst e;exact SJ P w x t
theorem PK {P:Program}{w:World}:∀ {ks:List Key}{us:List Value},Vals (ks.map kV) us->ItemsAre (BK P w) ks us
 | [],_,r=>by rw[List.map_nil] at r;cases r;exact .nil
 | k::ks,_,r=>by
  rw[z04] at r;cases r with
  | cons h t=>exact .cons (SQ h) (PK t)
abbrev KT (H:Hp):List (List Key×V)->List (List Key×Addr×Value)->Prop:=Paired λ p q=>p.1=q.1/\H q.2.1=some (.tup (p.1.map kV))/\RelV p.2 q.2.2
theorem KT.val {xs:List (List Key×Addr×Value)}(r:KT H kvs xs) (k:List Key):RelO (valV kvs k) ((atKey xs k).map (·.2)):=by
 induction r with
 | nil=>exact True.intro
 | @cons p q ps qs h t ih=>
  obtain⟨h1,_,h2⟩:=h
  by_cases e:p.1=k
  ·have e':q.1=k:=h1.symm.trans e;have b:atKey (q::qs) k=some q.2:=by simp[atKey,z1f,e']
   rw[Jb e,b];exact h2
  ·have e':¬ q.1=k:=λ z=>e (h1.trans z);have b:atKey (q::qs) k=atKey qs k:=by simp[atKey,z1f,e']
   rw[Jc e,b];exact ih
theorem KT.repl {xs:List (List Key×Addr×Value)}(r:KT H kvs xs) (k:List Key) {y:V}{u:Value}(ry:RelV y u) :
  KT H (kvs.map λ kv=>if kv.1=k then (kv.1,y) else kv) (xs.map (putAt k u)):=by
 induction r with
 | nil=>exact .nil
 | @cons p q ps qs h t ih=>
  rw[z04,z04];refine .cons ?_ ih;obtain⟨h1,h2,h3⟩:=h;unfold putAt
  by_cases e:p.1=k
  ·rw[if_pos e,if_pos (h1.symm.trans e)];exact⟨h1,h2,ry⟩
  ·rw[if_neg e,if_neg (λ z=>e (h1.trans z))];exact⟨h1,h2,h3⟩
theorem KT.put {xs:List (List Key×Addr×Value)}(r:KT H kvs xs) (k:List Key) {b:Addr}{y:V}{u:Value}(hb:H b=some (.tup (k.map kV))) (ry:RelV y u) :
  KT H (putK kvs k y) (storedH xs k b u):=by
 have e:(kvs.any λ kv=>decide (kv.1=k))=(atKey xs k).isSome:=by
  rw[NP,(r.val k).isSome_eq,Option.isSome_map]
 unfold putK storedH;rw[e]
 by_cases q:(atKey xs k).isSome=true
 ·rw[if_pos q,if_pos q];exact r.repl k ry
 ·rw[if_neg q,if_neg q];exact Paired.snoc r ⟨rfl,hb,ry⟩
theorem KT.keeps {xs:List (List Key×Addr×Value)}(r:KT H kvs xs) (ht:∀ b ys,H b=some (.tup ys)->H' b=some (.tup ys)):KT H' kvs xs:=
 Paired.mapP r λ _ _ z=>⟨z.1,ht _ _ z.2.1,z.2.2⟩
section
theorem Yr {u:HO}(ok:HOk P w H h) (e:Rd H a u):Bg P w H h a u:=e.ok ok
theorem Hh {kvs:List (Key×V)}(ok:HOk P w H h) (e:Rd H a (.dK kvs)):kvs.length<=sizeLine/\(a==sysModules)=false/\∃ vs,KV kvs vs/\h.DictOf (BK P w) a vs:=
 show Bg P w H h a (.dK kvs) from Yr ok e
theorem gr {kvs:List (Key×V)}(ok:HOk P w H h) (e:H a=some (.dK kvs)):kvs.length<=sizeLine/\(a==sysModules)=false/\∃ vs,KV kvs vs/\h.DictOf (BK P w) a vs:=Hh ok (.inl e)
theorem NQ {ks:List Key}(ok:HOk P w H h) (e:H a=some (.tup (ks.map kV))):(tupleKind (BK P w)).is h ks a:=by
 obtain⟨_,its,r,o,h1,h2,n,h3⟩:=(show Bg P w H h a (.tup (ks.map kV)) from ok a _ e);exact⟨o,its.toArray,n,h1,h2,h3,by simpa using PK r⟩
theorem SX (ok:HOk P w H h) (e:Rd H a (.dT kvs)):kvs.length<=sizeLine/\(a==sysModules)=false ∧
  ∃ xs,KT H kvs xs/\h.DictOfH (tupleKind (BK P w)) a xs:=by
 obtain⟨z,y,xs,r,o,es,ep,h1,h2,h3,h4,h5⟩:=(show Bg P w H h a (.dT kvs) from Yr ok e);refine⟨z,y,xs,r,o,es,ep,h1,h2,h3,h4,λ x hx=>?_,h5⟩;have all:∀ {l:List (List Key×V)}{m:List (List Key×Addr×Value)},KT H l m->∀ x∈m,(tupleKind (BK P w)).is h x.1 x.2.1:=by
  intro l m q
  induction q with
  | nil=>intro x hx;exact nomatch hx
  | @cons p q ps qs hq t ih=>
   intro x hx
   rcases z06.mp hx with e | hx
   ·subst e;exact NQ ok (by rw[<-hq.1];exact hq.2.1)
   ·exact ih x hx
 exact all r x hx
theorem n8 (ok:HOk P w H h) (e:H a=some (.dT kvs)):kvs.length<=sizeLine/\(a==sysModules)=false ∧
  ∃ xs,KT H kvs xs/\h.DictOfH (tupleKind (BK P w)) a xs:=SX ok (.inl e)
end
def DGet (H:Hp) (a:Addr) (y:V) (r:Option V):Prop:=
 (∃ kvs k,Rd H a (.dK kvs)/\y=kV k/\r=valV kvs k)∨∃ kvs k b,Rd H a (.dT kvs)/\y=.ref b/\H b=some (.tup (k.map kV))/\r=valV kvs k
def DPut (H:Hp) (a:Addr) (y v:V) (H':Hp):Prop:=
 (∃ kvs k,H a=some (.dK kvs)/\y=kV k/\kvs.length<sizeLine/\H'=upd H a (.dK (putK kvs k v))) ∨
 ∃ kvs k b,H a=some (.dT kvs)/\y=.ref b/\H b=some (.tup (k.map kV))/\kvs.length<sizeLine/\H'=upd H a (.dT (putK kvs k v))
theorem DGet.k {H:Hp}{a:Addr}{kvs:List (Key×V)}{k:Key}(e:H a=some (.dK kvs)):DGet H a (kV k) (valV kvs k):=.inl ⟨kvs,k,.inl e,rfl,rfl⟩
theorem DGet.t {k:List Key}(e:H a=some (.dT kvs)) (eb:H b=some (.tup (k.map kV))):DGet H a (.ref b) (valV kvs k):=.inr ⟨kvs,k,b,.inl e,rfl,eb,rfl⟩
theorem DPut.k {H:Hp}{a:Addr}{kvs:List (Key×V)}{k:Key}{v:V}(e:H a=some (.dK kvs)) (hl:kvs.length<sizeLine):DPut H a (kV k) v (upd H a (.dK (putK kvs k v))):=.inl ⟨kvs,k,e,rfl,hl,rfl⟩
theorem DPut.t {k:List Key}(e:H a=some (.dT kvs)) (eb:H b=some (.tup (k.map kV))) (hl:kvs.length<sizeLine) :
  DPut H a (.ref b) v (upd H a (.dT (putK kvs k v))):=.inr ⟨kvs,k,b,e,rfl,eb,hl,rfl⟩
section
variable {r:Value}{o:Option V}{A:Around}
theorem Inv.big (I:Inv X π σ H s):sysModules<s.heap.objs.size:=by
 have h:mainGlobals<s.heap.objs.size:=(I.mod.glob.keeps I.bk).lt;exact Nat.lt_trans (by decide) h
theorem Xn {Q:zQ}(hu:A.units+1<cLine) (I:Inv X π σ H s) (g:DGet H a y (some v)) (ry:RelV y u) (h:∀ w' s',Inv X π σ H s'->RelV v w'->Q w' s') :
  wpAny (model X.prog X.w) A (getItem (.ref a) u) Q E s:=by
 rcases g with ⟨kvs,k,e,ey,l⟩ | ⟨kvs,k,b,e,ey,eb,l⟩
 ·subst ey;obtain⟨z,hd,vs,rel,dd⟩:=Hh I.hok e;obtain⟨w',hw,rw'⟩:=RelO.some_of (v:=v) (o:=valueAt vs k) (by rw[l];exact rel.val k);exact wpAny_getItem_of (SQ ry) dd.mapOf hw (h w' _ (I.tok _) rw')
 ·subst ey;cases (show u=Value.ref b from ry);obtain⟨z,hd,xs,rel,dd⟩:=SX I.hok e;obtain⟨w',hw,rw'⟩:=RelO.some_of (v:=v) (o:=(atKey xs k).map (·.2)) (by rw[l];exact rel.val k);obtain⟨p,hp,hp2⟩:=Option.map_eq_some_iff.mp hw;refine wpAny_getItem_heap (tupleKind_room_in1 hu) (NQ I.hok eb) dd hp ?_;rw[hp2];exact h w' _ (I.tok _) rw'
theorem d_in {Q:zQ}(hu:A.units+1<cLine) (I:Inv X π σ H s) (g:DGet H a y o) (ry:RelV y u) (h:∀ s',Inv X π σ H s'->Q (.bool o.isSome) s') :
  wpAny (model X.prog X.w) A (compareOp .In u (.ref a)) Q E s:=by
 rcases g with ⟨kvs,k,e,ey,l⟩ | ⟨kvs,k,b,e,ey,eb,l⟩
 ·subst ey;obtain⟨z,hd,vs,rel,dd⟩:=Hh I.hok e;refine wpAny_in_of (SQ ry) hd dd.mapOf ?_;rw[<-(rel.val k).isSome_eq,<-l];exact h _ (I.tok _)
 ·subst ey;cases (show u=Value.ref b from ry);obtain⟨z,hd,xs,rel,dd⟩:=SX I.hok e;refine wpAny_in_heap (tupleKind_room_in1 hu) (NQ I.hok eb) hd dd ?_;have q:=(rel.val k).isSome_eq;rw[Option.isSome_map] at q;rw[<-q,<-l];exact h _ (I.tok _)
theorem cR {Q:zQ}(hu:A.units+1<cLine) (I:Inv X π σ H s) (g:DGet H a y o) (ry:RelV y u) (h:∀ s',Inv X π σ H s'->Q (.bool (!o.isSome)) s') :
  wpAny (model X.prog X.w) A (compareOp .NotIn u (.ref a)) Q E s:=by
 rcases g with ⟨kvs,k,e,ey,l⟩ | ⟨kvs,k,b,e,ey,eb,l⟩
 ·subst ey;obtain⟨z,hd,vs,rel,dd⟩:=Hh I.hok e;refine wpAny_notIn_of (SQ ry) hd dd.mapOf ?_;rw[<-(rel.val k).isSome_eq,<-l];exact h _ (I.tok _)
 ·subst ey;cases (show u=Value.ref b from ry);obtain⟨z,hd,xs,rel,dd⟩:=SX I.hok e;refine wpAny_notIn_heap (tupleKind_room_in1 hu) (NQ I.hok eb) hd dd ?_;have q:=(rel.val k).isSome_eq;rw[Option.isSome_map] at q;rw[<-q,<-l];exact h _ (I.tok _)
theorem Lq {ob:HO}(I:Inv X π σ H s) (mu:Mut (H a)) (hs:Heap.SameBut a s.heap h') (he:∃ q,h'.get? a=some q) (new:Bg X.prog X.w (upd H a ob) h' a ob) :
  Inv X π σ (upd H a ob) { s with heap:=h',toks:=t' }:=
 I.write (x:=a) (e:=a) mu (.inl rfl) (λ b q hb z=>(hs.2 b hb).trans z) he new
theorem jm {kvs:List (Key×V)}{vs:List (Key×Value)}(z:kvs.length<=sizeLine) (hd:(a==sysModules)=false) (rel:KV kvs vs) (dd:h'.DictOf (BK P w) a vs) :
  Bg P w H' h' a (.dK kvs):=⟨z,hd,vs,rel,dd⟩
theorem Xo {Q:Unit->Shared->Prop}(hu:A.units+1<cLine) (I:Inv X π σ H s) (g:DPut H a y v H') (ry:RelV y u) (rv:RelV v r) (h:∀ s',Inv X π σ H' s'->Q () s') :
  wpAny (model X.prog X.w) A (setItem (.ref a) u r) Q E s:=by
 rcases g with ⟨kvs,k,e,ey,l,eH⟩ | ⟨kvs,k,b,e,ey,eb,l,eH⟩
 ·subst ey eH;obtain⟨z,hd,vs,rel,dd⟩:=gr I.hok e;have hz:vs.length<=sizeLine:=by rw[<-rel.length];exact z
  have hl:(putK kvs k v).length<=sizeLine:=by have:=Ku kvs k v;omega
  refine wpAny_setItem_pairs (hsz:=hz) (SQ ry) dd λ h' dd' hs=>h _ ?_;have he:∃ q,h'.get? a=some q:=let ⟨q,_,_,hq,_⟩:=dd';⟨q,hq⟩;exact Lq I (by rw[e];exact True.intro) hs he (jm hl hd (rel.put k rv) dd')
 ·subst ey eH;cases (show u=Value.ref b from ry);obtain⟨z,hd,xs,rel,dd⟩:=n8 I.hok e;have hz:xs.length<=sizeLine:=by rw[<-Paired.length rel];exact z
  have hl:(putK kvs k v).length<=sizeLine:=by have:=Ku kvs k v;omega
  refine wpAny_setItem_heap (hsz:=hz) (tupleKind_room_in1 hu) (NQ I.hok eb) dd λ h' dd' hs=>h _ ?_;obtain⟨q,es,ep,hq,h2,h3,h4,_,h5⟩:=dd';refine Lq I (by rw[e];exact True.intro) hs ⟨q,hq⟩ ⟨hl,hd,_,(rel.put k eb rv).keeps λ c ys ec=>?_,q,es,ep,hq,h2,h3,h4,h5⟩;rw[Ad (gY ec e (λ z=>nomatch z))];exact ec
end
section
variable {kvs:List (Key×V)}{k:Key}{A:Around}
theorem n_ {Q:zQ}(I:Inv X π σ H s) (e:Rd H a (.dK kvs)) (h:∀ t s',Inv X π σ H s'->Q (.int kvs.length t) s'):wpAny (model X.prog X.w) A (call (.builtin "len") [.ref a]) Q E s:=by
 obtain⟨z,hd,vs,rel,dd⟩:=Hh I.hok e;refine call_len_dict hd dd (by rw[<-rel.length];rw[sizeLine_eq] at z;omega) ?_;rw[<-rel.length];exact h _ _ (I.tok _)
end
theorem Sd {o:Option V}(I:Inv X π σ H s) (g:DGet H a y o):s.TypeIs (.ref a) "dict":=by
 rcases g with ⟨kvs,k,e,_,_⟩ | ⟨kvs,k,b,e,_,_,_⟩
 ·obtain⟨_,_,vs,_,dd⟩:=Hh I.hok e;exact dd.typeIs
 ·obtain⟨_,_,xs,_,dd⟩:=SX I.hok e;exact dd.typeIs
def oA (td ty tv:TE):TS:=λ D σ H=>tv σ H λ v H1=>td σ H1 λ x H2=>ty σ H2 λ y H3=>∃ a H4,x=.ref a/\DPut H3 a y v H4/\D.nx σ H4
section
variable {o i value:Expr}{tpos:Pos}{td ty tv:TE}
theorem Ih (hu:X.A.units+1<cLine) (ho:PE X o td) (hi:PE X i ty) (hv:PE X value tv) (hs:swapsWith value (some (.Subscript o i pos')) pos.line X.env=pure false) :
  PS X (.Assign [.Subscript o i pos'] value pos) (oA td ty tv):=by
 intro π s σ H D I h;refine wpAny_Assign_Subscript (thn (hv π s σ H _ I h) λ r s1 ⟨v,H1,I1,rv,q1⟩=>thn (ho π s1 σ H1 _ I1 q1) λ u s2 ⟨x,H2,I2,rx,q2⟩=>thn (hi π s2 σ H2 _ I2 q2) λ iv s3 ⟨y,H3,I3,ry,a,H4,ex,g,q3⟩=>?_) hs;subst ex;obtain rfl:u=Value.ref a:=rx;exact Xo hu I3 g ry rv λ s4 I4=>⟨σ,H4,I4,q3⟩
end
theorem Ys (h:Heap) (hb:sysModules<h.objs.size):Bg P w H (h.push { cls:=.type "dict",data:=.dict #[] }) h.objs.size (.dK []):=
 ⟨z0M _,z0p.mpr (Ne.symm (z0e hb)),[],.nil,Heap.DictOf.new h⟩
theorem Yt (h:Heap) (hb:sysModules<h.objs.size):Bg P w H (h.push { cls:=.type "dict",data:=.dict #[] }) h.objs.size (.dT []):=
 ⟨z0M _,z0p.mpr (Ne.symm (z0e hb)),[],.nil,_,#[],0,z0l _ rfl,⟨rfl,rfl,rfl⟩,rfl,rfl,List.nodup_nil⟩
def jo:TE:=λ _ H Q=>∀ p,H p=none->Q (.ref p) (upd H p (.dK []))
def jq:TE:=λ _ H Q=>∀ p,H p=none->Q (.ref p) (upd H p (.dT []))
section
theorem Yu:PE X (.Dict [] [] pos) jo:=λ π s σ H Q I h=>
 wpAny_Dict_empty ⟨.ref s.heap.objs.size,_,I.laid (a:=s.heap.objs.size) (o:=.dK []) (t':=s.toks) (λ _ _ q=>z08 _ q) (z03 _) (Ys s.heap I.big),rfl,h _ (I.hok.fresh (z03 _))⟩
theorem Yv:PE X (.Dict [] [] pos) jq:=λ π s σ H Q I h=>
 wpAny_Dict_empty ⟨.ref s.heap.objs.size,_,I.laid (a:=s.heap.objs.size) (o:=.dT []) (t':=s.toks) (λ _ _ q=>z08 _ q) (z03 _) (Yt s.heap I.big),rfl,h _ (I.hok.fresh (z03 _))⟩
end
section
variable {d:V}{r:Value}{o:Option V}{A:Around}
end
section
variable {o f:Expr}{cpos:Pos}{td ty tx:TE}
end
section
variable {kvs:List (Key×V)}{A:Around}
end
section
variable {A:Around}
end
end L2
namespace Att
open PySem PySem.W PySem.Calls PyProof.Rows
theorem Li {P:Params}:∀ (ns:List Int) (vs:List Value),WellAll P h vs (ns.map WData.int)->IntsAre vs ns:=by
 intro ns
 induction ns with
 | nil=>
  intro vs w;rw[List.map_nil] at w;cases w;exact .nil
 | cons n ns ih=>
  intro vs w;rw[z04] at w;cases w with
  | cons a b=>
   cases a;exact .cons _ _ (ih _ b)
theorem Xp {l:OpenLaw}{n:Nat}(hn:l.most=some n) {P:Params}{h:Heap}{args:List WData}{vals:List Value}
  (hpre:l.row.toRowW.claim.pre args=true) (hwl:WellAll P h vals args) :
  ∃ a vs ns,vals=[Value.ref a]/\args=[WData.list (ns.map WData.int)]/\h.get? a=some { cls:=.type "list",data:=.seq vs.toArray }/\IntsAre vs ns/\ns.length<=n:=by
 have hsh:WShape.hasAll [] args [.list .int]=true:=(pre_splitW hpre).1;have hc:l.pre.holds [] { args:=args }=true:=(pre_splitW hpre).2;obtain⟨d,r,rfl,h1,h2⟩:=hasAllW_cons hsh;obtain rfl:=hasAllW_nil h2;obtain⟨xs,rfl,h3⟩:=hasW_list h1;obtain⟨ns,rfl⟩:=items_int h3;have hlen:ns.length<=n:=by
  unfold OpenLaw.pre at hc;have h4:(WTm.not (.lt (.lit (.int (n:Int))) (.len (.arg 0)))).holds [] { args:=[.list (ns.map .int)] }=true:=by
   have h4:=(holds_andW hc).1;rw[hn] at h4;exact h4
  have h5:=condW_of h4 (w_not (w_lt w_lit (w_len_list (w_arg rfl))));rw[z01] at h5;refine Nat.le_of_not_lt λ q=>?_;have q':(n:Int)<((ns.length:Nat):Int):=by omega
  first
   | (rw[z0h q'] at h5;exact absurd h5 (by decide))
   | (simp at h5;omega)
 cases hwl with
 | cons w1 w2=>
  cases w2;cases w1 with
  | list ho hall=>exact⟨_,_,ns,rfl,rfl,ho,Li ns _ hall,hlen⟩
theorem Xq (l:OpenLaw) (args:List WData):l.row.toRowW.claim.post args (.bool true) args=true:=
 postW_of (r:=l.row.toRowW) (X:=(true==true))
  (show WShape.has [] (.bool true) .bool=true by first | rfl | decide | simp[WShape.has,WShape.arms,WShape.armsAll])
  (show (WTm.eq .res (.lit (.bool true))).value [] { args:=args,res:=some (.bool true),after:=args }=some (.bool (true==true)) from w_eq_bool (w_res rfl) w_lit) rfl
section
variable {A:Around}{K:Frag}
end
end Att
namespace L2
open PySem PySem.Spec PyProof.Rows
theorem PL:∀ {vs:List Value}{ns:List Int},IntsAre vs ns->Vals (ns.map V.int) vs
 | _,_,.nil=>.nil
 | _,_,.cons n t h=>.cons ⟨t,rfl⟩ (PL h)
def Only (H:Hp):Prop:=∀ b,H b=none∨∃ o xs,H b=some (.frz o (.lst xs))
theorem Yw {K:zFr}{mb:Str->Option Value}{k:Nat}{fa:Addr}{x:Str}{s₁:Shared}{vs:List Value}{ns:List Int}(KX:K.In s₁.heap) (hns:s₁.heap.Ns mainGlobals mg) (hb:s₁.heap.Ns builtinsNs mb) (hbb:∀ x:Str,x≠"__name__"->mb x=bootBuiltins x) (hlim:s₁.heap.NoLimit) (hg:s₁.gens=#[])
    (ha:s₁.heap.get? a=some { cls:=.type "list",data:=.seq vs.toArray }) (hi:IntsAre vs ns) (hl:ns.length<=sizeLine) (hr:Room k callerA)
    (F:∀ base:Heap,K.In base->base.Ns mainGlobals mg->FnOk P w K mg base CX k fa fd [x] sp) (hbind:∀ (s:Shared) (u:Value),BindsTo s fd ⟨[u],[]⟩ [(x,u)])
    (hsp:∀ H:Hp,Only H->SqL K H a (ns.map V.int)->sp [.ref a] H (λ v _=>v=.bl true) λ _ _ _=>False)
    (hCX:∀ H e s',CX [] H s₁ (λ _ _ _=>False) e s'->False) :
    codeAny (model P w) callerA (.call (.ref fa) ⟨[.ref a],[]⟩) (λ r s'=>r=.ok (.ret (.bool true))/\OldK s₁.heap s'.heap/\s'.os=s₁.os/\AllBare s'.gens) s₁:=by
  have rv:=PL hi;have lenV:=hi.length;have core:∀ H:Hp,Only H->SqL K H a (ns.map V.int)->HOk P w H s₁.heap->(∀ b,H b≠none->b=a)->(H a≠none->K.lookup a=none) ->
      codeAny (model P w) callerA (.call (.ref fa) ⟨[.ref a],[]⟩) (λ r s'=>r=.ok (.ret (.bool true))/\OldK s₁.heap s'.heap/\s'.os=s₁.os/\AllBare s'.gens) s₁:=by
    intro H hO hS hok hA hK;have base_of:∀ {b:Addr}{o:Obj},s₁.heap.get? b=some o->H b=none->(hidT s₁.heap H).get? b=some o:=λ e n=>YT e n;have noA:∀ {b:Addr}{o:Obj}{es:Array DictEntry}{ep:Nat},s₁.heap.get? b=some o->o.data=.dict es ep->H b=none:=λ {b o es ep} e d=>by
      cases q:H b with
      | none=>rfl
      | some u=>
        have e':b=a:=hA b (by rw[q];simp);subst e';rw[ha] at e;cases e;have d':Data.seq vs.toArray _=Data.dict es ep:=d;cases d'
    have nsK:∀ {b:Addr}{m:Str->Option Value},s₁.heap.Ns b m->(hidT s₁.heap H).Ns b m:=λ {b m} ⟨o,es,ep,e,d,r⟩=>⟨o,es,ep,base_of e (noA e d),d,r⟩;have hKb:K.In (hidT s₁.heap H):=λ b o e=>base_of (KX b o e) (by
      cases q:H b with
      | none=>rfl
      | some u=>
        have e':b=a:=hA b (by rw[q];simp);subst e';rw[hK (by rw[q];simp)] at e;cases e)
    have hM:Mod K mg (hidT s₁.heap H):=⟨hKb,nsK hns,⟨mb,nsK hb,hbb⟩,let ⟨mc,h1,h2⟩:=hlim;⟨mc,nsK h1,h2⟩⟩;have e0:Env0 P w K mg (hidT s₁.heap H) callerA [] s₁ H:=⟨rfl,hM,λ b o e=>bw e,Nat.le_of_eq (Xe _ _),trivial,λ b hb=>absurd (show b∈([]:List Addr) from hb) (by simp),hok,.of_eq hg⟩;refine z0N ((F _ hKb (nsK hns)).run callerA [] s₁ H ⟨[.ref a],[]⟩ [.ref a] [.ref a] _ _ hr e0 (hbind s₁ (.ref a)) (.cons rfl .nil) (hsp H hO hS)) λ r s' h=>?_;cases r with
    | error e=>exact (hCX H e s' h).elim
    | ok fl=>
      cases fl with
      | next=>exact False.elim h
      | brk=>exact False.elim h
      | cont=>exact False.elim h
      | ret u=>
        obtain⟨v,H',os,bare,un,hok',r',q⟩:=h;have q':v=.bl true:=q;subst q';obtain rfl:u=Value.bool true:=r';refine⟨rfl,OldK.of_keep λ b o e=>?_,os,bare⟩;cases q:H b with
        | none=>exact un.keep b o e q (by intro z;exact absurd (show b∈([]:List Addr) from z) (by simp)) (by simp)
        | some u=>
          rcases hO b with z | ⟨ob,xs,z⟩
          · rw[q] at z;cases z
          · have z2:=un.frzs b ob _ z
            obtain⟨e1,_⟩:=hok b _ z;obtain⟨e2,_⟩:=hok' b _ z2;rw[e] at e1;cases e1;exact e2
  cases hk:K.lookup a with
  | some o=>
    have e:=KX a o hk;rw[ha] at e;cases e;refine core (λ _=>none) (λ _=>.inl rfl) (.inr ⟨_,vs.toArray,_,hk,rfl,rfl,rfl,by rw[z0g,lenV];exact hl,by simpa using rv⟩) (λ b u z=>by have z':(none:Option HO)=some u:=z;cases z') (λ b z=>absurd rfl z) λ z=>absurd rfl z
  | none=>
    refine core (λ b=>if b=a then some (.frz { cls:=.type "list",data:=.seq vs.toArray } (.lst (ns.map V.int))) else none) (λ b=>?_) (.inl (.inr ⟨{ cls:=.type "list",data:=.seq vs.toArray },if_pos rfl⟩)) (λ b u z=>?_) (λ b z=>?_) λ _=>hk
    · by_cases hb:b=a
      · exact .inr ⟨_,_,if_pos hb⟩
      · exact .inl (if_neg hb)
    · by_cases hb:b=a
      · have z':=(if_pos hb).symm.trans z
        cases z';subst hb;exact⟨ha,by rw[z01];exact hl,vs,_,rv,ha⟩
      · have z':=(if_neg hb).symm.trans z
        cases z'
    · by_cases hb:b=a
      · exact hb
      · exact absurd (if_neg hb) z
abbrev KOf {K:zFr}{h:Heap}(_:K.In h):PySem.W.Frag:=K
def inClass (s:Stmt) (j:Nat):Stmt:=match s with
 | .ClassDef _ _ _ body _ _ _ _ _ _ _=>body.getD j (.Pass ⟨0,0,0,0⟩)
 | _=>.Pass ⟨0,0,0,0⟩
def Bv (s:Stmt):Arguments:=match s with
 | .FunctionDef _ a _ _ _ _ _ _ _ _=>a
 | _=>{ posonlyargs:=[],args:=[],vararg:=none,kwonlyargs:=[],kw_defaults:=[],kwarg:=none,defaults:=[] }
def Aw (s:Stmt):List Stmt:=match s with
 | .FunctionDef _ _ b _ _ _ _ _ _ _=>b
 | _=>[]
def Ab (s:Stmt):Scope:=match s with
 | .FunctionDef _ _ _ _ _ _ sc _ _ _=>sc
 | _=>{ kind:=.function,names:=[],isGenerator:=false,isCoroutine:=false }
abbrev CX0:CXT:=λ _ _ _ _ _ _=>False
abbrev E0:XK:=λ _ _ _=>False
theorem Yx:QS CX0 X E0:=λ _ _ _ _ _ _ _ h=>h.elim
structure Fun (K:zFr) (x qual:Str) (st:Stmt) (f:Addr) (fd:FuncData):Prop where
 ex:∃ (oc:Value) (od:Option Addr) (kV doc pm:Value) (an:Option Addr) (cdv ct:Value) (osl:Array (Option Value)),
  fd=PySem.W.fnOf x qual (Bv st) (Aw st) (Ab st) .none kV doc pm an cdv ct/\K.lookup f=some ⟨oc,od,.func fd,osl⟩/\PySem.W.codeIn K cdv qual=true
 kp:PySem.W.keepIn K (.ref f)=true
section
variable {K:zFr}{base:Heap}
theorem Fun.ok {x:Str}{f:Addr}{k:Nat}(F:Fun K x qual st f fd) (S:FnScope N ps (Ab st)) (len:∀ vs H Q E,sp vs H Q E->vs.length=ps.length)
  (hbody:∀ (cdv:Value) (A:Around) (outer:List Env) (s:Shared) (H:Hp) (vs:List V) (Q:VK) (E:XK),Room k (A.deeper (envOfC qual (Ab st) s.heap.objs.size f cdv))->sp vs H Q E ->
   ∃ t,PSs (cxOf CX0 P w K mg base N qual (Ab st) f cdv A outer s H E).nox (Aw st) t/\t { nx:=λ _ H'=>Q .non H',rt:=Q } (start N vs) H):FnOk P w K mg base CX0 (k+1) f fd ps sp:=by
 obtain⟨oc,od,kV,doc,pm,an,cdv,ct,osl,rfl,lk,hcd⟩:=F.ex;refine O_ lk hcd S len λ A outer s H vs Q E hr hsp=>?_;obtain⟨t,h,q⟩:=hbody cdv A outer s H vs Q E hr hsp;exact⟨t,h.nox,q⟩
theorem Fun.binds {x:Str}{f:Addr}(F:Fun K x qual st f fd)
  (h:∀ (kV doc pm:Value) (an:Option Addr) (cdv ct:Value) (us:List Value),us.length=ps.length->bindArgs (PySem.W.fnOf x qual (Bv st) (Aw st) (Ab st) .none kV doc pm an cdv ct) ⟨us,[]⟩=pure (ps.zip us)):Binds K fd ps []:=by
 obtain⟨oc,od,kV,doc,pm,an,cdv,ct,osl,rfl,lk,hcd⟩:=F.ex;exact .all (h kV doc pm an cdv ct)
theorem G3 {x:Str}{f:Addr}{kV:Value}(l:K.lookup f=some ⟨oc,od,.func (PySem.W.fnOf x qual (Bv st) (Aw st) (Ab st) .none kV doc pm an cdv ct),osl⟩)
  (c:PySem.W.codeIn K cdv qual=true) (k:PySem.W.keepIn K (.ref f)=true):Fun K x qual st f (PySem.W.fnOf x qual (Bv st) (Aw st) (Ab st) .none kV doc pm an cdv ct):=⟨⟨oc,od,kV,doc,pm,an,cdv,ct,osl,rfl,l,c⟩,k⟩
end
theorem Ek {A:Around}{k:Nat}(hr:Room k A):A.units+1<cLine:=z18 (Nat.add_le_add_left (by decide:1<=64) _) hr.units
section
theorem pv (i:Nat) {x:Str}{pos:Pos}(hN:X.N[i]?=some x:=by rfl) (hv:Vis X.env.scope x:=by first | exact Or.inl rfl | exact Or.inr (Or.inl rfl) | exact Or.inr (Or.inr rfl)) (hd:(x==("__debug__":Str))=false:=by decide)
  (hcd:(x==("__classdict__":Str))=false:=by decide):PE X (.Name x pos) (tVar i):=jT hN hv hd hcd
end
theorem iteF {A B:Prop}(h:B):if false=true then A else B:=by
 rw[if_neg z0m];exact h
theorem iteT {A B:Prop}(h:A):if true=true then A else B:=by
 rw[if_pos rfl];exact h
def Same (H H':Hp):Prop:=∀ b o,H b=some o->H' b=some o
theorem Same.refl (H:Hp):Same H H:=λ _ _ h=>h
theorem Same.trans {H2:Hp}(a:Same H H1) (b:Same H1 H2):Same H H2:=λ c o h=>b c o (a c o h)
theorem Same.free (e:Same H H') {l:Addr}(h:H' l=Option.none):H l=Option.none:=by
 cases q:H l with
 | none=>rfl
 | some o=>
  rw[e l o q] at h;cases h
theorem Same.seq {K:zFr}(e:Same H H') (h:SqL K H a xs):SqL K H' a xs:=by
 rcases h with (h | ⟨o,h⟩) | h
 ·exact .inl (.inl (e _ _ h))
 ·exact .inl (.inr ⟨o,e _ _ h⟩)
 ·exact .inr h
section
variable {κ:Type} [DecidableEq κ]
end
end L2
namespace EX
open PySem PySem.Spec L2
open PyProof.Rows hiding St
def tbV:Option Addr->Value
 | none=>.none
 | some T=>.ref T
def ExcP (a C:Addr) (od tb:Option Addr):Heap->Prop:=λ h=>∃ o vs,h.get? a=some o/\o.cls=.ref C/\o.dict=od/\o.data=.fields vs/\vs.size=6/\vs[1]?=some (tbV tb)
def TbP (T:Addr) (v:Value):Heap->Prop:=λ h=>∃ o ts,h.get? T=some o/\o.data=.fields ts/\ts[3]?=some v/\o.cls=.type "traceback"
abbrev excO (a C:Addr) (od tb:Option Addr):HO:=.ext (ExcP a C od tb)
abbrev tbO (T:Addr) (v:Value):HO:=.ext (TbP T v)
theorem ExcP.ok (x:ExcP a C od tb h):Bg P w H h a (excO a C od tb):=
 ⟨x,let ⟨o,_,e,_⟩:=x;⟨o,e⟩,λ h1 h2 ⟨o,vs,e,r⟩ k=>⟨o,vs,k o e,r⟩⟩
theorem TbP.ok {v:Value}(x:TbP a v h):Bg P w H h a (tbO a v):=
 ⟨x,let ⟨o,_,e,_⟩:=x;⟨o,e⟩,λ h1 h2 ⟨o,vs,e,r⟩ k=>⟨o,vs,k o e,r⟩⟩
theorem cU (f:Array Value->Array Value) (o:Obj):(Obj.mapFields f o).dict=o.dict:=by
 unfold Obj.mapFields;split<;>rfl
section
variable {e:Addr}
theorem Xr (I:Inv X π σ H s) (x:Heap.SlotsOnly (frs X.stack) s.heap h'):Inv X π σ H { s with heap:=h' }:=by
 have k:∀ b o,s.heap.get? b=some o->H b=none->b∉frs X.stack->h'.get? b=some o:=λ b o q _ hb=>(x.2.1 b hb).trans q;refine I.call (g':=s.gens) (d':=s.drawn) (t':=s.toks) (ch:=[]) ⟨λ b o q n hb _=>k b o q n hb,λ b o q _ _ _=>x.2.2 b o q,λ _ _ _ n _=>n,λ b o q _=>let ⟨_,z⟩:=x.2.2 b o q;⟨_,z⟩,λ _ _ q=>q,λ _ _ _ q=>q,λ _ ps q=>⟨#[],by rw[q];simp⟩⟩ (λ b u q=>?_) I.bare λ _ z=>nomatch z;have no:∀ c v,H c=some v->c∉frs X.stack:=λ c v q z=>by rw[I.stkFree c z] at q;cases q
 refine (I.hok b u q).stay (λ c v hc r=>(x.2.1 c ?_).trans r) (λ _ r=>r) λ _ _ r=>r
 rcases hc with z | z
 ·rw[z];exact no b u q
 ·exact no c _ z
theorem Jd {o:Obj}{vs:Array Value}{u u':HO}{v:Value}(I:Inv X π σ H s) (hH:H a=some u) (mu:Mut (some u)) (ho:s.heap.get? a=some o) (hd:o.data=.fields vs)
  (new:∀ h' o',h'.get? a=some o'->o'.cls=o.cls->o'.dict=o.dict->o'.data=.fields (vs.setIfInBounds i v)->Bg X.prog X.w (upd H a u') h' a u') :
  Inv X π σ (upd H a u') { s with heap:=s.heap.update a (Obj.mapFields (·.setIfInBounds i v)) }:=by
 have hd':=Obj.data_mapFields hd (·.setIfInBounds i v);have g:=z1n (Obj.mapFields (·.setIfInBounds i v)) ho (Obj.isFreed_of_fields hd');exact I.write (x:=a) (e:=a) (t':=s.toks) (by rw[hH];exact mu) (.inl rfl) (λ b q nb z=>(z1e _ _ (Ne.symm nb)).trans z) ⟨_,g⟩ (new _ _ g (Obj.cls_mapFields _ _) (cU _ _) hd')
structure Noted (X:Cx) (π:zP) (σ:St) (H:Hp) (e C:Addr) (od tb:Option Addr) (T:Addr) (H':Hp) (s':Shared):Prop where
 inv:Inv X π σ H' s'
 exc:H' e=some (excO e C od (some T))
 tbk:H' T=some (tbO T .none)
 new:H T=none
 rest:∀ b u,b≠e->tb≠some b->H b=some u->H' b=some u
theorem Sg {Q:Unit->Shared->Prop}{L:Addr}{head:Value}{hadNext:Bool}(hst:X.stack=X.env::X.outer) (hf:X.env.frame=some L) (I:Inv X π σ H s) (he:H e=some (excO e C od tb))
  (k:∀ T H' s',Noted X π σ H e C od none T H' s'->Q () s') :
  wpAny M X.A (do let a <-frameOf X.env;let pl <-entryPlaceOf L hadNext;let b <-EntryCells.newEntry head a .none (rawInt L) .none pl;setField (.ref e) 1 b) (λ _ s₂=>wpAny M X.A (setFlight (.ref e) none) Q E s₂) E s:=by
 refine z00 (wpAny_frameOf_fun (base:=X.base) (outer:=X.outer) (hst▸I.ok.frames) (hst▸I.stack) hf λ h1 x1=>?_);have I1:=Xr I (h':=h1) (hst▸x1);refine z00 (wpAny_entryPlaceOf λ pl hpl=>?_);unfold EntryCells.newEntry newFields;refine z00 (z17 ?_ (hpl.sizeOk5 _ _ _ _ _));have h3:([head,.ref L,.none,rawInt L,.none]++(if pl.isEmpty then List.replicate 6 Value.none else pl)).toArray[3]?=some (rawInt L):=by simp
 generalize ([head,.ref L,.none,rawInt L,.none]++(if pl.isEmpty then List.replicate 6 Value.none else pl)).toArray=ts at h3;have g2:(h1.push { cls:=.type "traceback",dict:=none,data:=.fields ts }).get? h1.objs.size=some { cls:=.type "traceback",dict:=none,data:=.fields ts }:=z0l h1 rfl;have I2:=I1.laid (a:=h1.objs.size) (o:=tbO h1.objs.size (rawInt L)) (h':=h1.push { cls:=.type "traceback",dict:=none,data:=.fields ts }) (t':=s.toks) (λ b u q=>z08 _ q) (z03 _) (TbP.ok ⟨_,ts,g2,rfl,h3,rfl⟩);have hT:H h1.objs.size=none:=I1.hok.fresh (z03 _);have neT:e≠h1.objs.size:=Ak he hT;have he2:(upd H h1.objs.size (tbO h1.objs.size (rawInt L))) e=some (excO e C od tb):=by rw[Ad neT];exact he
 obtain⟨⟨o,vs,q1,q2,q3,q4,q5,q6⟩,_⟩:=I2.hok e _ he2;refine z0Y q1 q4 (by omega) ?_;have I3:=Jd (u':=excO e C od (some h1.objs.size)) (i:=1) (v:=.ref h1.objs.size) I2 he2 trivial q1 q4 λ h' o' r1 r2 r3 r4=>ExcP.ok ⟨o',_,r1,r2.trans q2,r3.trans q3,r4,by simpa using q5,by simp[tbV,q5]⟩;have e3:=Ae (H:=upd H h1.objs.size (tbO h1.objs.size (rawInt L))) (a:=e) (o:=excO e C od (some h1.objs.size));have t3:upd (upd H h1.objs.size (tbO h1.objs.size (rawInt L))) e (excO e C od (some h1.objs.size)) h1.objs.size=some (tbO h1.objs.size (rawInt L)):=by rw[Ad (Ne.symm neT)];exact Ae
 obtain⟨⟨o5,vs5,p1,p2,p3,p4,p5,p6⟩,_⟩:=I3.hok e _ e3;unfold setFlight;refine z00 (z0V p1 p4 p6 ?_);rw[if_pos (show (tbV (some h1.objs.size) != Value.none)=true from by simp[tbV])];obtain⟨⟨o6,ts6,r1,r2,r3,r4⟩,_⟩:=I3.hok h1.objs.size _ t3;have z3:3<ts6.size:=(Array.getElem?_eq_some_iff.mp r3).1;refine z0Y r1 r2 z3 ?_;have I4:=Jd (u':=tbO h1.objs.size .none) (i:=3) (v:=(none:Option Addr).elim Value.none λ f=>rawInt f) I3 t3 trivial r1 r2 λ h' o' y1 y2 y3 y4=>TbP.ok ⟨o',_,y1,y4,by simp[z3],y2.trans r4⟩;refine k h1.objs.size _ _ ⟨I4,?_,Ae,hT,λ b u hb _ q=>?_⟩
 ·rw[Ad neT];exact e3
 ·have:=Ak q hT;rw[Ad this,Ad hb,Ad this];exact q
theorem cV {Q:Unit->Shared->Prop}{L:Addr}(hst:X.stack=X.env::X.outer) (hf:X.env.frame=some L) (I:Inv X π σ H s) (he:H e=some (excO e C od tb)) (ht:∀ T,tb=some T->H T=some (tbO T .none))
  (k:∀ T H' s',Noted X π σ H e C od tb T H' s'->Q () s') :
  wpAny M X.A (noteFrame (.ref e) X.env) (λ _ s₂=>wpAny M X.A (setFlight (.ref e) none) Q E s₂) E s:=by
 obtain⟨⟨o,vs,q1,q2,q3,q4,q5,q6⟩,_⟩:=I.hok e _ he;unfold noteFrame;simp only[hf];refine z00 (z0V q1 q4 q6 ?_);cases tb with
 | none=>
  rw[if_neg (by decide)];exact Sg hst hf I he λ T H' s' n=>k T H' s' n
 | some T0=>
  have hT0:=ht T0 rfl;obtain⟨⟨oT,ts,r1,r2,r3,r4⟩,_⟩:=I.hok T0 _ hT0;rw[if_pos (show (tbV (some T0) != Value.none)=true from by simp[tbV])];refine z00 (z0V r1 r2 r3 ?_);rw[if_neg (show ¬ ((Value.none==rawInt L)=true) from by simp[rawInt])];have z3:3<ts.size:=(Array.getElem?_eq_some_iff.mp r3).1;refine z00 (z0Y r1 r2 z3 ?_);have I1:=Jd (u':=tbO T0 .none) (i:=3) (v:=.none) I hT0 trivial r1 r2 λ h' o' y1 y2 y3 y4=>TbP.ok ⟨o',_,y1,y4,by simp[z3],y2.trans r4⟩;have ne:e≠T0:=λ z=>by
   subst z;rw[r1] at q1;cases q1;rw[r4] at q2;cases q2
  refine Sg hst hf I1 (tb:=some T0) (by rw[Ad ne];exact he) λ T H' s' n=>k T H' s' ⟨n.inv,n.exc,n.tbk,?_,λ b u hb hb' q=>n.rest b u hb (by simp) (by rw[Ad (λ z=>hb' (by rw[z]))];exact q)⟩;have:=n.new
  by_cases z:T=T0
  ·subst z;rw[Ae] at this;cases this
  ·rwa [Ad z] at this
end
end EX
namespace PV
open PySem L2
inductive D where
 | non | bl (b:Bool) | int (i:Int) | str (x:Str) | tup (ds:List D) | lst (ds:List D)
 | dk (kvs:List (Key×D)) | dt (kvs:List (List Key×D)) | ob (c:Str) (fs:List (Str×D)) | adr (a:Addr) | exc (c:Str) (fs:List (Str×D)) | err (c:Str) (fs:List (Str×D))
inductive Slot where
 | un | fz (d:D) | ow (d:D)
abbrev Rho:=List Slot
abbrev FE:=Rho->Option D
abbrev FA:=Rho->Option (List D)
abbrev FT:=Rho->Option Bool
abbrev FO:=Rho->Option (Option Int)
abbrev FI:=Rho->Option (List D)
def vF (i:Nat):FE:=λ ρ=>match ρ[i]? with | some (.fz d)=>some d | _=>none
def vU (i:Nat):FE:=λ ρ=>match ρ[i]? with | some (.fz d)=>some d | some (.ow d)=>some d | _=>none
def kF (d:D):FE:=λ _=>some d
def bF (g:D->D->Option D) (fa fb:FE):FE:=λ ρ=>(fa ρ).bind λ x=>(fb ρ).bind λ y=>g x y
def uF (g:D->Option D) (fa:FE):FE:=λ ρ=>(fa ρ).bind g
def blF (f:FE):FT:=λ ρ=>match f ρ with | some (.bl b)=>some b | _=>none
def iiD (g:Int->Int->Option D):D->D->Option D:=λ x y=>match x,y with | .int i,.int j=>g i j | _,_=>none
instance (i j:Int):Decidable (CMul i j):=by unfold CMul;infer_instance
instance (i j:Int):Decidable (CDiv i j):=by unfold CDiv;infer_instance
instance (i j:Int):Decidable (CPow i j):=by unfold CPow;infer_instance
def subD:=iiD λ i j=>some (.int (i-j))
def Je (i j:Int):Prop:=CMul i j∨(Builtin.Int.intBits i<=4194304/\Builtin.Int.intBits j<=4194304)
instance (i j:Int):Decidable (Je i j):=by unfold Je;infer_instance
def CShl (i j:Int):Prop:=0<=j/\j<=1000000/\Builtin.Int.intBits i<=4194304
instance (i j:Int):Decidable (CShl i j):=by unfold CShl;infer_instance
def mulD:=iiD λ i j=>if Je i j then some (.int (i*j)) else none
def Bp:=iiD λ i j=>if CDiv i j then some (.int (i/j)) else none
def modD:=iiD λ i j=>if 0<j then some (.int (i%j)) else none
def powD:=iiD λ i j=>if CPow i j then some (.int (i^j.toNat)) else none
def shlD:=iiD λ i j=>if CShl i j then some (.int (i*2^j.toNat)) else none
def ltD:=iiD λ i j=>some (.bl (decide (i<j)))
def leD:=iiD λ i j=>some (.bl (decide (i<=j)))
def gtD:=iiD λ i j=>some (.bl (decide (j<i)))
def geD:=iiD λ i j=>some (.bl (decide (j<=i)))
def addD:D->D->Option D:=λ x y=>match x,y with
 | .int i,.int j=>some (.int (i+j))
 | .str i,.str j=>if i.length+j.length<=sizeLine then some (.str (i++j)) else none
 | .lst i,.lst j=>if i.length+j.length<=sizeLine then some (.lst (i++j)) else none
 | _,_=>none
def andF (fa fb:FE):FE:=λ ρ=>match fa ρ with | some (.bl true)=>fb ρ | some (.bl false)=>some (.bl false) | _=>none
def orF (fa fb:FE):FE:=λ ρ=>match fa ρ with | some (.bl true)=>some (.bl true) | some (.bl false)=>fb ρ | _=>none
def notF (fa:FE):FE:=λ ρ=>match fa ρ with | some (.bl b)=>some (.bl (!b)) | _=>none
def andT (fa fb:FT):FT:=λ ρ=>match fa ρ with | some true=>fb ρ | some false=>some false | none=>none
def orT (fa fb:FT):FT:=λ ρ=>match fa ρ with | some true=>some true | some false=>fb ρ | none=>none
def notT (fa:FT):FT:=λ ρ=>(fa ρ).map (!·)
def truD:D->Option Bool
 | .non=>some false
 | .bl b=>some b
 | .int i=>some (i != 0)
 | .str y=>if y.length<=sizeLine then some ((y.length:Int) != 0) else none
 | .lst ds=>some (!ds.isEmpty)
 | .tup ds=>some (!ds.isEmpty)
 | _=>none
def trF (f:FE):FT:=λ ρ=>(f ρ).bind truD
def ifF (t:FT) (fa fb:FE):FE:=λ ρ=>match t ρ with | some true=>fa ρ | some false=>fb ρ | none=>none
def nilA:FA:=λ _=>some []
def Aa (fa:FE) (fs:FA):FA:=λ ρ=>(fa ρ).bind λ d=>(fs ρ).map (d::·)
def tupF (fs:FA):FE:=λ ρ=>(fs ρ).bind λ ds=>if ds.length<=sizeLine then some (.tup ds) else none
def lstF (fs:FA):FE:=λ ρ=>(fs ρ).bind λ ds=>if ds.length<=sizeLine then some (.lst ds) else none
def ixD:D->D->Option D:=λ x y=>match x,y with
 | .lst ds,.int i=>atI ds i
 | .tup ds,.int i=>atI ds i
 | .str z,.int i=>if z.length<=sizeLine then (atI z.cps.toList i).map λ c=>.str ⟨#[c]⟩ else none
 | _,_=>none
def noO:FO:=λ _=>some none
def someO (f:FE):FO:=λ ρ=>match f ρ with | some (.int i)=>some (some i) | _=>none
def cutD {α:Type}(ds:List α) (lo hi:Option Int):List α:=(ds.drop (HT.sIx ds.length 0 lo)).take (HT.sIx ds.length ds.length hi-HT.sIx ds.length 0 lo)
def cutS (z:Str) (lo hi:Option Int):Str:=⟨(cutD z.cps.toList lo hi).toArray⟩
def slD (x:D) (lo hi:Option Int):Option D:=match x with
 | .lst ds=>some (.lst (cutD ds lo hi))
 | .tup ds=>if HT.sIx ds.length 0 lo=0/\HT.sIx ds.length ds.length hi=ds.length then none else some (.tup (cutD ds lo hi))
 | .str z=>if z.length<=sizeLine then some (.str (cutS z lo hi)) else none
 | _=>none
def slF (f:FE) (l h:FO):FE:=λ ρ=>(f ρ).bind λ x=>(l ρ).bind λ lo=>(h ρ).bind λ hi=>slD x lo hi
def flV:D->Option V
 | .non=>some .non
 | .bl b=>some (.bl b)
 | .int i=>some (.int i)
 | .str x=>some (.str x)
 | _=>none
def flVs:List D->Option (List V)
 | []=>some []
 | d::r=>(flV d).bind λ v=>(flVs r).map (v::·)
def inD (neg:Bool):D->D->Option D:=λ x y=>match x,y with
 | .str i,.str j=>some (.bl (if neg then !(!(Builtin.Str.occurrences j i 0 j.length 1).isEmpty) else !(Builtin.Str.occurrences j i 0 j.length 1).isEmpty))
 | x,.lst ds=>(flV x).bind λ v=>(flVs ds).map λ vs=>.bl (if neg then !inV v vs else inV v vs)
 | x,.tup ds=>(flV x).bind λ v=>(flVs ds).map λ vs=>.bl (if neg then !inV v vs else inV v vs)
 | _,_=>none
def allO (f:D->D->Option Bool):List D->List D->Option Bool
 | [],[]=>some true
 | x::xs,y::ys=>match f x y,allO f xs ys with | some a,some b=>some (a&&b) | _,_=>none
 | _,_=>none
def flD (x y:D):Option Bool:=(flV x).bind λ u=>(flV y).map λ v=>eqV u v
def eqS (f:D->D->Option Bool):D->D->Option Bool
 | .lst xs,.lst ys=>if xs.length=ys.length then allO f xs ys else some false
 | .tup xs,.tup ys=>if xs.length=ys.length then allO f xs ys else none
 | x,y=>flD x y
def eqK:Nat->D->D->Option Bool
 | 0=>flD
 | n+1=>eqS (eqK n)
def eqvD (x y:D):Option Bool:=match x,y with
 | .int i,.int j=>some (decide (i=j))
 | .str i,.str j=>some (decide (i=j))
 | .bl i,.bl j=>some (decide (i=j))
 | .lst xs,.lst ys=>if xs.length=ys.length then allO (eqK 180) xs ys else some false
 | .tup xs,.tup ys=>if xs.length=ys.length then allO (eqK 180) xs ys else none
 | _,_=>none
def eqD (neg:Bool) (x y:D):Option D:=(eqvD x y).map λ b=>.bl (if neg then !b else b)
def lenD:D->Option D
 | .str y=>if y.length<=sizeLine then some (.int y.length) else none
 | .lst ds=>some (.int ds.length)
 | .tup ds=>some (.int ds.length)
 | _=>none
def maxD:=iiD λ i j=>some (.int (if j > i then j else i))
def Yy:D->Option D
 | .lst ds=>some (.lst ds)
 | .tup ds=>some (.lst ds)
 | _=>none
def intD:D->Option D
 | .int i=>some (.int i)
 | .bl k=>some (.int (if k then 1 else 0))
 | _=>none
def negD:D->Option D
 | .int i=>some (.int (-i))
 | _=>none
def seqI (f:FE):FI:=λ ρ=>match f ρ with | some (.lst ds)=>some ds | some (.tup ds)=>some ds | _=>none
def rngD (n:Nat):List D:=(List.range n).map λ (i:Nat)=>.int i
def rngI (f:FE):FI:=λ ρ=>match f ρ with | some (.int j)=>if -(2^62)<=j/\j<2^62 then some (rngD j.toNat) else none | _=>none
inductive Out where
 | nx (ρ:Rho) | rt (d:D) (ρ:Rho) | bk (ρ:Rho) | ct (ρ:Rho)
abbrev FS:=Rho->Option Out
def nxF:FS:=λ ρ=>some (.nx ρ)
def seqF (g gs:FS):FS:=λ ρ=>match g ρ with | some (.nx ρ')=>gs ρ' | o=>o
def ifS (t:FT) (g gs:FS):FS:=λ ρ=>match t ρ with | some true=>g ρ | some false=>gs ρ | none=>none
def setF (i:Nat) (f:FE):FS:=λ ρ=>(f ρ).map λ d=>.nx (ρ.set i (.fz d))
def retF (f:FE):FS:=λ ρ=>(f ρ).map λ d=>.rt d ρ
def retN:FS:=λ ρ=>some (.rt .non ρ)
def oE (f:FE):FS:=λ ρ=>(f ρ).map λ _=>.nx ρ
def forF (b:D->FS):List D->FS
 | [],ρ=>some (.nx ρ)
 | d::r,ρ=>match b d ρ with
  | some (.nx ρ')=>forF b r ρ'
  | some (.ct ρ')=>forF b r ρ'
  | some (.bk ρ')=>some (.nx ρ')
  | some (.rt e ρ')=>some (.rt e ρ')
  | none=>none
abbrev FG:=D->Rho->Option Rho
def BW (i:Nat):FG:=λ d ρ=>some (ρ.set i (.fz d))
def tgB (tg:FG) (b:FS):D->FS:=λ d ρ=>(tg d ρ).bind b
def forS (src:FI) (tg:FG) (b:FS):FS:=λ ρ=>(src ρ).bind λ ds=>forF (tgB tg b) ds ρ
def Am (g:List D->Option D) (fs:FA):FE:=λ ρ=>(fs ρ).bind g
def Bm (n:Nat) (ds:List D):Rho:=ds.map .fz++List.replicate (n-ds.length) .un
def runF (n np:Nat) (b:FS) (ds:List D):Option D:=if ds.length=np then (match b (Bm n ds) with | some (.rt d _)=>some d | some (.nx _)=>some .non | _=>none) else none
def GP (ρ:Rho) (ga:FT) (fe:FE):List D->Option (List D)
 | []=>some []
 | d::r=>match ga (ρ++[.fz d]) with
  | some true=>(fe (ρ++[.fz d])).bind λ y=>(GP ρ ga fe r).map (y::·)
  | some false=>GP ρ ga fe r
  | none=>none
def Gk (src:FI) (ga:FT) (fe:FE):FE:=λ ρ=>(src ρ).bind λ ds=>if ds.length<=sizeLine then (GP ρ ga fe ds).map .lst else none
def allT:FT:=λ _=>some true
def setW (i:Nat) (f:FE):FS:=λ ρ=>(f ρ).map λ d=>.nx (ρ.set i (.ow d))
def ownO (ρ:Rho) (i:Nat):Option D:=match ρ[i]? with | some (.ow d)=>some d | _=>none
def appL (x v:D):Option D:=match x with | .lst ds=>if ds.length<sizeLine then some (.lst (ds++[v])) else none | _=>none
def mutF (g:D->D->Option D) (i:Nat) (f:FE):FS:=λ ρ=>(f ρ).bind λ v=>(ownO ρ i).bind λ x=>(g x v).map λ y=>.nx (ρ.set i (.ow y))
def frz1 (ρ:Rho) (i:Nat):Rho:=match ρ[i]? with | some (.ow d)=>ρ.set i (.fz d) | _=>ρ
def fzS (is:List Nat) (g:FS):FS:=λ ρ=>g (is.foldl frz1 ρ)
theorem Yz {α:Type}{xs:List α}{i:Int}(h0:0<=i) (h1:i<xs.length):atI xs i=xs[i.toNat]?:=by
 unfold atI ixN;rw[if_pos h0,if_pos h1];rfl
theorem Gf (i j:Int) (h:0<j):modD (.int i) (.int j)=some (.int (i%j)):=by
 show (if 0<j then some (D.int (i%j)) else none)=_;rw[if_pos h]
theorem GQ (i j:Int) (h:0<j) (h2:j<1073741824):Bp (.int i) (.int j)=some (.int (i/j)):=by
 show (if CDiv i j then some (D.int (i/j)) else none)=_;rw[if_pos ⟨h,h2⟩]
theorem Lr (i j:Int) (h : -(2^64)<j/\j<2^64):mulD (.int i) (.int j)=some (.int (i*j)):=by
 show (if Je i j then some (D.int (i*j)) else none)=_;rw[if_pos (.inl (.inr h))]
theorem cW (i j:Int) (h : -(2^64)<i/\i<2^64):mulD (.int i) (.int j)=some (.int (i*j)):=by
 show (if Je i j then some (D.int (i*j)) else none)=_;rw[if_pos (.inl (.inl h))]
theorem Uk (i j:Int):addD (.int i) (.int j)=some (.int (i+j)):=zE_ _
theorem Ul (i j:Int):subD (.int i) (.int j)=some (.int (i-j)):=zE_ _
theorem Sh (i j:Int):ltD (.int i) (.int j)=some (.bl (decide (i<j))):=zE_ _
theorem Jf (i j:Int):gtD (.int i) (.int j)=some (.bl (decide (j<i))):=zE_ _
theorem Y0 (i j:Int):leD (.int i) (.int j)=some (.bl (decide (i<=j))):=zE_ _
theorem NT (i j:Int):geD (.int i) (.int j)=some (.bl (decide (j<=i))):=zE_ _
theorem Vg (i j:Int):eqD false (.int i) (.int j)=some (.bl (decide (i=j))):=zE_ _
theorem Y4 (i j:Int):eqD true (.int i) (.int j)=some (.bl (!decide (i=j))):=zE_ _
theorem Y5 (i:Int):negD (.int i)=some (.int (-i)):=zE_ _
theorem Bw {n:Nat}(h:n<=10000000):n<=sizeLine:=z0j h (by decide)
theorem jr {i j:List D}(h:i.length+j.length<=10000000):addD (.lst i) (.lst j)=some (.lst (i++j)):=by
 show (if _ then _ else _)=_;rw[if_pos (Bw h)]
theorem Y6 {i j:Str}(h:i.length+j.length<=10000000):addD (.str i) (.str j)=some (.str (i++j)):=by
 show (if _ then _ else _)=_;rw[if_pos (Bw h)]
theorem Hi {b:D->FS}{P:Nat->Rho->Prop}:∀ {ds:List D}{ρ:Rho}(k:Nat),P k ρ->(∀ (i:Nat) d ρ,ds[i]?=some d->P (k+i) ρ->∃ ρ',b d ρ=some (.nx ρ')/\P (k+i+1) ρ')->∃ ρ',forF b ds ρ=some (.nx ρ')/\P (k+ds.length) ρ'
 | [],ρ,k,h0,_=>⟨ρ,rfl,by simpa using h0⟩
 | d::r,ρ,k,h0,hs=>by
  obtain⟨ρ1,e1,p1⟩:=hs 0 d ρ rfl (by simpa using h0);obtain⟨ρ2,e2,p2⟩:=Hi (ds:=r) (ρ:=ρ1) (k+1) (by simpa using p1) λ i d' ρ' hd hp=>by
   have:=hs (i+1) d' ρ' (by simpa using hd) (by rw[show k+(i+1)=k+1+i by omega];exact hp);rw[show k+(i+1)+1=k+1+i+1 by omega] at this;exact this
  refine⟨ρ2,?_,by rw[z0o,show k+(r.length+1)=k+1+r.length by omega];exact p2⟩;unfold forF;rw[e1];exact e2
theorem Vh {src:FI}{ga:FT}{fe:FE}{ρ:Rho}{ds out:List D}(h:src ρ=some ds) (hz:ds.length<=10000000) (hc:GP ρ ga fe ds=some out):Gk src ga fe ρ=some (.lst out):=by
 unfold Gk;rw[h];show (if ds.length<=sizeLine then (GP ρ ga fe ds).map D.lst else none)=_;rw[if_pos (Bw hz),hc];rfl
def Sq (o:Option Out) (gs:FS):Option Out:=match o with | some (.nx ρ')=>gs ρ' | o=>o
theorem Vi (g gs:FS) (ρ:Rho):seqF g gs ρ=Sq (g ρ) gs:=zE_ _
theorem e_nx (gs:FS) (ρ:Rho):Sq (some (.nx ρ)) gs=gs ρ:=zE_ _
theorem e_rt (gs:FS) (d:D) (ρ:Rho):Sq (some (.rt d ρ)) gs=some (.rt d ρ):=zE_ _
theorem e_bk (gs:FS) (d:Rho):Sq (some (.bk d)) gs=some (.bk d):=zE_ _
theorem e_ct (gs:FS) (d:Rho):Sq (some (.ct d)) gs=some (.ct d):=zE_ _
theorem Vj (ρ:Rho):nxF ρ=some (.nx ρ):=zE_ _
def iteO (o:Option Bool) (g gs:FS) (ρ:Rho):Option Out:=match o with | some true=>g ρ | some false=>gs ρ | none=>none
theorem e_if (t:FT) (g gs:FS) (ρ:Rho):ifS t g gs ρ=iteO (t ρ) g gs ρ:=zE_ _
theorem Vk (g gs:FS) (ρ:Rho):iteO (some true) g gs ρ=g ρ:=zE_ _
theorem Vl (g gs:FS) (ρ:Rho):iteO (some false) g gs ρ=gs ρ:=zE_ _
def setO (i:Nat) (ρ:Rho) (o:Option D):Option Out:=o.map λ d=>.nx (ρ.set i (.fz d))
theorem Vm (i:Nat) (f:FE) (ρ:Rho):setF i f ρ=setO i ρ (f ρ):=zE_ _
theorem QZ (i:Nat) (ρ:Rho) (d:D):setO i ρ (some d)=some (.nx (ρ.set i (.fz d))):=zE_ _
def retO (ρ:Rho) (o:Option D):Option Out:=o.map λ d=>.rt d ρ
theorem Vn (f:FE) (ρ:Rho):retF f ρ=retO ρ (f ρ):=zE_ _
theorem Qa (d:D) (ρ:Rho):retO ρ (some d)=some (.rt d ρ):=zE_ _
theorem Qc (ρ:Rho):retN ρ=some (.rt .non ρ):=zE_ _
def g8 (ρ:Rho) (o:Option D):Option Out:=o.map λ _=>.nx ρ
theorem Qd (f:FE) (ρ:Rho):oE f ρ=g8 ρ (f ρ):=zE_ _
theorem Ls (ρ:Rho) (d:D):g8 ρ (some d)=some (.nx ρ):=zE_ _
def b2 (g:D->D->Option D) (x y:Option D):Option D:=x.bind λ x=>y.bind λ y=>g x y
theorem e_b (g:D->D->Option D) (fa fb:FE) (ρ:Rho):bF g fa fb ρ=b2 g (fa ρ) (fb ρ):=zE_ _
theorem e_bs (g:D->D->Option D) (x y:D):b2 g (some x) (some y)=g x y:=zE_ _
def b1 (g:D->Option D) (x:Option D):Option D:=x.bind g
theorem e_u (g:D->Option D) (fa:FE) (ρ:Rho):uF g fa ρ=b1 g (fa ρ):=zE_ _
theorem e_us (g:D->Option D) (x:D):b1 g (some x)=g x:=zE_ _
def cl1 (g:List D->Option D) (x:Option (List D)):Option D:=x.bind g
theorem Qe (g:List D->Option D) (fs:FA) (ρ:Rho):Am g fs ρ=cl1 g (fs ρ):=zE_ _
theorem Lw (g:List D->Option D) (ds:List D):cl1 g (some ds)=g ds:=zE_ _
def g_ (x:Option D) (y:Option (List D)):Option (List D):=x.bind λ d=>y.map (d::·)
theorem Qf (fa:FE) (fs:FA) (ρ:Rho):Aa fa fs ρ=g_ (fa ρ) (fs ρ):=zE_ _
theorem Lx (d:D) (ds:List D):g_ (some d) (some ds)=some (d::ds):=zE_ _
theorem Vo (ρ:Rho):nilA ρ=some []:=zE_ _
def tupO (o:Option (List D)):Option D:=o.bind λ ds=>if ds.length<=sizeLine then some (.tup ds) else none
def lstO (o:Option (List D)):Option D:=o.bind λ ds=>if ds.length<=sizeLine then some (.lst ds) else none
theorem Vp (fs:FA) (ρ:Rho):tupF fs ρ=tupO (fs ρ):=zE_ _
theorem Vq (fs:FA) (ρ:Rho):lstF fs ρ=lstO (fs ρ):=zE_ _
theorem Qg:tupO (some [])=some (.tup []):=zE_ _
theorem Qh (a:D):tupO (some [a])=some (.tup [a]):=zE_ _
theorem Qi (a b:D):tupO (some [a,b])=some (.tup [a,b]):=zE_ _
theorem Qj (a b c:D):tupO (some [a,b,c])=some (.tup [a,b,c]):=zE_ _
theorem Qk (a b c d:D):tupO (some [a,b,c,d])=some (.tup [a,b,c,d]):=zE_ _
theorem Ql (a b c d e:D):tupO (some [a,b,c,d,e])=some (.tup [a,b,c,d,e]):=zE_ _
theorem Qm:lstO (some [])=some (.lst []):=zE_ _
theorem Qn (a:D):lstO (some [a])=some (.lst [a]):=zE_ _
theorem Qo (a b:D):lstO (some [a,b])=some (.lst [a,b]):=zE_ _
theorem Qp (a b c:D):lstO (some [a,b,c])=some (.lst [a,b,c]):=zE_ _
theorem Qq (a b c d:D):lstO (some [a,b,c,d])=some (.lst [a,b,c,d]):=zE_ _
theorem Qs (a b c d e:D):lstO (some [a,b,c,d,e])=some (.lst [a,b,c,d,e]):=zE_ _
theorem Qt (a b c d e f:D):lstO (some [a,b,c,d,e,f])=some (.lst [a,b,c,d,e,f]):=zE_ _
def blO (o:Option D):Option Bool:=match o with | some (.bl b)=>some b | _=>none
theorem e_bl (f:FE) (ρ:Rho):blF f ρ=blO (f ρ):=zE_ _
theorem Vr (b:Bool):blO (some (.bl b))=some b:=zE_ _
def andO (o:Option Bool) (fb:FT) (ρ:Rho):Option Bool:=match o with | some true=>fb ρ | some false=>some false | none=>none
def orO (o:Option Bool) (fb:FT) (ρ:Rho):Option Bool:=match o with | some true=>some true | some false=>fb ρ | none=>none
theorem Qu (a b:FT) (ρ:Rho):andT a b ρ=andO (a ρ) b ρ:=zE_ _
theorem Ly (b:FT) (ρ:Rho):andO (some true) b ρ=b ρ:=zE_ _
theorem Lz (b:FT) (ρ:Rho):andO (some false) b ρ=some false:=zE_ _
theorem Vs (a b:FT) (ρ:Rho):orT a b ρ=orO (a ρ) b ρ:=zE_ _
theorem Qv (b:FT) (ρ:Rho):orO (some true) b ρ=some true:=zE_ _
theorem Qw (b:FT) (ρ:Rho):orO (some false) b ρ=b ρ:=zE_ _
theorem Qx (a:FT) (ρ:Rho):notT a ρ=(a ρ).map (!·):=zE_ _
def andP (o:Option D) (fb:FE) (ρ:Rho):Option D:=match o with | some (.bl true)=>fb ρ | some (.bl false)=>some (.bl false) | _=>none
def orP (o:Option D) (fb:FE) (ρ:Rho):Option D:=match o with | some (.bl true)=>some (.bl true) | some (.bl false)=>fb ρ | _=>none
def notP (o:Option D):Option D:=match o with | some (.bl b)=>some (.bl (!b)) | _=>none
theorem Qy (a b:FE) (ρ:Rho):andF a b ρ=andP (a ρ) b ρ:=zE_ _
theorem L_ (b:FE) (ρ:Rho):andP (some (.bl true)) b ρ=b ρ:=zE_ _
theorem MF (b:FE) (ρ:Rho):andP (some (.bl false)) b ρ=some (.bl false):=zE_ _
theorem Vt (a b:FE) (ρ:Rho):orF a b ρ=orP (a ρ) b ρ:=zE_ _
theorem Qz (b:FE) (ρ:Rho):orP (some (.bl true)) b ρ=some (.bl true):=zE_ _
theorem Q0 (b:FE) (ρ:Rho):orP (some (.bl false)) b ρ=b ρ:=zE_ _
theorem Q3 (a:FE) (ρ:Rho):notF a ρ=notP (a ρ):=zE_ _
theorem MJ (b:Bool):notP (some (.bl b))=some (.bl (!b)):=zE_ _
def ifP (o:Option Bool) (fa fb:FE) (ρ:Rho):Option D:=match o with | some true=>fa ρ | some false=>fb ρ | none=>none
theorem Vu (t:FT) (a b:FE) (ρ:Rho):ifF t a b ρ=ifP (t ρ) a b ρ:=zE_ _
theorem Q4 (a b:FE) (ρ:Rho):ifP (some true) a b ρ=a ρ:=zE_ _
theorem Q5 (a b:FE) (ρ:Rho):ifP (some false) a b ρ=b ρ:=zE_ _
def sl3 (f:Option D) (l h:Option (Option Int)):Option D:=f.bind λ x=>l.bind λ lo=>h.bind λ hi=>slD x lo hi
theorem e_sl (f:FE) (l h:FO) (ρ:Rho):slF f l h ρ=sl3 (f ρ) (l ρ) (h ρ):=zE_ _
theorem Vv (x:D) (l h:Option Int):sl3 (some x) (some l) (some h)=slD x l h:=zE_ _
theorem Vw (ρ:Rho):noO ρ=some none:=zE_ _
def somO (o:Option D):Option (Option Int):=match o with | some (.int i)=>some (some i) | _=>none
theorem MK (f:FE) (ρ:Rho):someO f ρ=somO (f ρ):=zE_ _
theorem Jg (i:Int):somO (some (.int i))=some (some i):=zE_ _
def getO (o:Option Slot):Option D:=match o with | some (.fz d)=>some d | _=>none
def getU (o:Option Slot):Option D:=match o with | some (.fz d)=>some d | some (.ow d)=>some d | _=>none
theorem e_v (i:Nat) (ρ:Rho):vF i ρ=getO (ρ[i]?):=zE_ _
theorem e_vs (d:D):getO (some (.fz d))=some d:=zE_ _
theorem e_vU (i:Nat) (ρ:Rho):vU i ρ=getU (ρ[i]?):=zE_ _
theorem Vx (d:D):getU (some (.fz d))=some d:=zE_ _
theorem Vy (d:D):getU (some (.ow d))=some d:=zE_ _
theorem e_k (d:D) (ρ:Rho):kF d ρ=some d:=zE_ _
def seqO (o:Option D):Option (List D):=match o with | some (.lst ds)=>some ds | some (.tup ds)=>some ds | _=>none
theorem Q6 (f:FE) (ρ:Rho):seqI f ρ=seqO (f ρ):=zE_ _
theorem MN (ds:List D):seqO (some (.lst ds))=some ds:=zE_ _
theorem MP (ds:List D):seqO (some (.tup ds))=some ds:=zE_ _
def rngO (o:Option D):Option (List D):=match o with | some (.int j)=>if -(2^62)<=j/\j<2^62 then some (rngD j.toNat) else none | _=>none
theorem NZ (f:FE) (ρ:Rho):rngI f ρ=rngO (f ρ):=zE_ _
theorem KD (j:Int) (h : -(2^62)<=j/\j<2^62):rngO (some (.int j))=some (rngD j.toNat):=by
 show (if _ then _ else _)=_;rw[if_pos h]
def forO (o:Option (List D)) (tg:FG) (b:FS) (ρ:Rho):Option Out:=o.bind λ ds=>forF (tgB tg b) ds ρ
theorem Vz (src:FI) (tg:FG) (b:FS) (ρ:Rho):forS src tg b ρ=forO (src ρ) tg b ρ:=zE_ _
theorem Q7 (ds:List D) (tg:FG) (b:FS) (ρ:Rho):forO (some ds) tg b ρ=forF (tgB tg b) ds ρ:=zE_ _
def h_ (o:Option (List D)) (ga:FT) (fe:FE) (ρ:Rho):Option D:=o.bind λ ds=>if ds.length<=sizeLine then (GP ρ ga fe ds).map .lst else none
theorem Y7 (src:FI) (ga:FT) (fe:FE) (ρ:Rho):Gk src ga fe ρ=h_ (src ρ) ga fe ρ:=zE_ _
theorem V0 {ds:List D}{ga:FT}{fe:FE}{ρ:Rho}(h:ds.length<=10000000):h_ (some ds) ga fe ρ=(GP ρ ga fe ds).map .lst:=by
 show (if _ then _ else _)=_;rw[if_pos (Bw h)]
theorem PQ (ρ:Rho) (ga:FT) (fe:FE):GP ρ ga fe []=some []:=zE_ _
def ccO (o:Option Bool) (e:Option D) (r:Option (List D)):Option (List D):=match o with | some true=>e.bind λ y=>r.map (y::·) | some false=>r | none=>none
theorem G4 (ρ:Rho) (ga:FT) (fe:FE) (d:D) (r:List D):GP ρ ga fe (d::r)=ccO (ga (ρ++[.fz d])) (fe (ρ++[.fz d])) (GP ρ ga fe r):=zE_ _
theorem iB (y:D) (r:List D):ccO (some true) (some y) (some r)=some (y::r):=zE_ _
theorem iC (y:Option D) (r:Option (List D)):ccO (some false) y r=r:=zE_ _
theorem Ss (ρ:Rho):allT ρ=some true:=zE_ _
def runO (o:Option Out):Option D:=match o with | some (.rt d _)=>some d | some (.nx _)=>some .non | _=>none
theorem V1 {n np:Nat}{b:FS}{ds:List D}(h:ds.length=np):runF n np b ds=runO (b (Bm n ds)):=by
 unfold runF;rw[if_pos h];rfl
theorem Q8 (d:D) (ρ:Rho):runO (some (.rt d ρ))=some d:=zE_ _
theorem Q9 (ρ:Rho):runO (some (.nx ρ))=some .non:=zE_ _
theorem V2 {α β:Type}(f:α->β) (x:α):Option.map f (some x)=some (f x):=zE_ _
theorem Q_ {α β:Type}(f:α->Option β) (x:α):Option.bind (some x) f=f x:=zE_ _
theorem Jh (n:Nat) (ds:List D):Bm n ds=ds.map .fz++List.replicate (n-ds.length) .un:=zE_ _
theorem truB (b:Bool):truD (.bl b)=some b:=zE_ _
theorem Fo {α:Type}(l:List α) (k:Nat):atI l (k:Int)=l[k]?:=by
 unfold atI ixN;rw[if_pos (by omega)]
 by_cases h:k<l.length
 ·rw[if_pos (by omega)];simp
 ·rw[if_neg (by omega),z1h (by omega)];rfl
theorem ix0 (x:D) (r:List D):ixD (.lst (x::r)) (.int 0)=some x:=Fo _ 0
theorem ix1 (x y:D) (r:List D):ixD (.lst (x::y::r)) (.int 1)=some y:=Fo _ 1
theorem ix2 (x y z:D) (r:List D):ixD (.lst (x::y::z::r)) (.int 2)=some z:=Fo _ 2
theorem ixt0 (x:D) (r:List D):ixD (.tup (x::r)) (.int 0)=some x:=Fo _ 0
theorem ixt1 (x y:D) (r:List D):ixD (.tup (x::y::r)) (.int 1)=some y:=Fo _ 1
theorem ixt2 (x y z:D) (r:List D):ixD (.tup (x::y::z::r)) (.int 2)=some z:=Fo _ 2
theorem ixt3 (x y z w:D) (r:List D):ixD (.tup (x::y::z::w::r)) (.int 3)=some w:=Fo _ 3
theorem e_tr (f:FE) (ρ:Rho):trF f ρ=(f ρ).bind truD:=zE_ _
theorem Dk (x y:Str):(x++y).length=x.length+y.length:=by
 show (x.cps++y.cps).size=_;simp[Str.length]
theorem oF (z:Str) (h:z.length<=10000000):lenD (.str z)=some (.int z.length):=by
 show (if z.length<=sizeLine then some (D.int z.length) else none)=_;rw[if_pos (Bw h)]
theorem Y8 (l:List D):lenD (.lst l)=some (.int l.length):=zE_ _
theorem V3 (x:Str) (ys:List Str):inD false (.str x) (.lst (ys.map .str))=some (.bl (ys.any (λ y=>y==x))):=by
 have h:∀ ys:List Str,flVs (ys.map .str)=some (ys.map V.str):=λ ys=>by
  induction ys with
  | nil=>rfl
  | cons y r ih=>simp[flVs,flV,ih]
 show ((flV (.str x)).bind λ v=>(flVs (ys.map .str)).map λ vs=>D.bl (inV v vs))=_;rw[h];show some (D.bl (inV (.str x) (ys.map V.str)))=_;simp[inV,List.any_map,Function.comp_def,eqV]
theorem Du (n:Nat):(rngD n).length=n:=by simp[rngD]
def iG (i:Nat) (ρ:Rho) (o:Option D):Option Out:=o.map λ d=>.nx (ρ.set i (.ow d))
theorem RB (i:Nat) (f:FE) (ρ:Rho):setW i f ρ=iG i ρ (f ρ):=zE_ _
theorem MT (i:Nat) (ρ:Rho) (d:D):iG i ρ (some d)=some (.nx (ρ.set i (.ow d))):=zE_ _
def mutO (g:D->D->Option D) (i:Nat) (ρ:Rho) (x v:Option D):Option Out:=v.bind λ v=>x.bind λ x=>(g x v).map λ y=>.nx (ρ.set i (.ow y))
def getW (o:Option Slot):Option D:=match o with | some (.ow d)=>some d | _=>none
theorem V4 (g:D->D->Option D) (i:Nat) (f:FE) (ρ:Rho):mutF g i f ρ=mutO g i ρ (getW ρ[i]?) (f ρ):=zE_ _
theorem RC (g:D->D->Option D) (i:Nat) (ρ:Rho) (x v:D):mutO g i ρ (some x) (some v)=(g x v).map λ y=>.nx (ρ.set i (.ow y)):=zE_ _
theorem KH (d:D):getW (some (.ow d))=some d:=zE_ _
def forB (o:Option Out) (b:D->FS) (r:List D):Option Out:=match o with
  | some (.nx ρ')=>forF b r ρ'
  | some (.ct ρ')=>forF b r ρ'
  | some (.bk ρ')=>some (.nx ρ')
  | some (.rt e ρ')=>some (.rt e ρ')
  | none=>none
theorem Ji (b:D->FS) (ρ:Rho):forF b [] ρ=some (.nx ρ):=zE_ _
theorem Ci (b:D->FS) (d:D) (r:List D) (ρ:Rho):forF b (d::r) ρ=forB (b d ρ) b r:=zE_ _
theorem Ep (b:D->FS) (r:List D) (ρ:Rho):forB (some (.nx ρ)) b r=forF b r ρ:=zE_ _
theorem Ma (b:D->FS) (r:List D) (ρ:Rho):forB (some (.ct ρ)) b r=forF b r ρ:=zE_ _
theorem Mf (b:D->FS) (r:List D) (ρ:Rho):forB (some (.bk ρ)) b r=some (.nx ρ):=zE_ _
theorem Mg (b:D->FS) (r:List D) (d:D) (ρ:Rho):forB (some (.rt d ρ)) b r=some (.rt d ρ):=zE_ _
def bndO (o:Option Rho) (b:FS):Option Out:=o.bind b
theorem e_tg (tg:FG) (b:FS) (d:D) (ρ:Rho):tgB tg b d ρ=bndO (tg d ρ) b:=zE_ _
theorem HQ (ρ:Rho) (b:FS):bndO (some ρ) b=b ρ:=zE_ _
theorem Gg (i:Nat) (d:D) (ρ:Rho):BW i d ρ=some (ρ.set i (.fz d)):=zE_ _
abbrev FZ:=Rho->Option (D×Rho)
abbrev FZA:=Rho->Option (List D×Rho)
end PV
namespace L2
open PySem PySem.Spec PyProof.Rows
def clOf (cells:List (Str×Addr)):List (Str×NameKind)->List (Str×Addr)->List (Str×Addr)
 | [],cs=>cs
 | y::r,cs=>if y.2==.free then clOf cells r ((y.1,(cells.lookup y.1).getD 0)::cs) else clOf cells r cs
theorem Nb {cells:List (Str×Addr)}{x:Str}{c:Addr}:∀ {names:List (Str×NameKind)}{cs:List (Str×Addr)},(∀ y∈names,y.2=.free ->∃ c,cells.lookup y.1=some c) ->
  (clOf cells names cs).lookup x=some c->cs.lookup x=some c∨cells.lookup x=some c
 | [],_,_,h=>.inl h
 | y::r,cs,hf,h=>by
  unfold clOf at h;split at h
  ·rename_i hk;have hk':y.2=.free :=by simpa using hk
   obtain⟨c',hc⟩:=hf y z0k hk'
   rcases Nb (λ z hz=>hf z (z07 _ hz)) h with q | q
   ·rw[z09] at q;split at q
    ·rename_i e;have e':x=y.1:=by simpa using e
     rw[hc] at q;subst e';right;rw[hc];simpa using q
    ·exact .inl q
   ·exact .inr q
  ·exact Nb (λ z hz=>hf z (z07 _ hz)) h
theorem KJ {cells:List (Str×Addr)}{x:Str}:∀ {names:List (Str×NameKind)}{cs:List (Str×Addr)},(∃ c,cs.lookup x=some c)->∃ c,(clOf cells names cs).lookup x=some c
 | [],_,h=>h
 | y::r,cs,h=>by
  unfold clOf;split
  ·apply KJ;rw[z09];split
   ·exact⟨_,rfl⟩
   ·exact h
  ·exact KJ h
theorem Hj {cells:List (Str×Addr)}{x:Str}:∀ {names:List (Str×NameKind)}{cs:List (Str×Addr)},(x,NameKind.free)∈names->∃ c,(clOf cells names cs).lookup x=some c
 | [],_,h=>by cases h
 | y::r,cs,h=>by
  unfold clOf
  rcases z06.mp h with e | h
  ·subst e;rw[if_pos (by rfl)];apply KJ;rw[z09];simp
  ·split
   ·exact Hj h
   ·exact Hj h
theorem V5 {env:Env}:∀ (names:List (Str×NameKind)) (cs:List (Str×Addr)),(∀ y∈names,y.2=.free ->∃ c,env.cells.lookup y.1=some c) ->
  (forIn names cs (λ x r=>match x with
   | (name,kind)=>if (kind==NameKind.free)=true then do let a <-cellOf env name;pure (ForInStep.yield ((name,a)::r)) else pure (ForInStep.yield r)):Sem (List (Str×Addr)))=pure (clOf env.cells names cs)
 | [],_,_=>rfl
 | (n,k)::r,cs,hf=>by
  have ih:=λ cs=>V5 r cs (λ z hz=>hf z (z07 _ hz));rw[List.forIn_cons]
  by_cases hk:(k==NameKind.free)=true
  ·obtain⟨c,hc⟩:=hf (n,k) z0k (by simpa using hk);have hc':env.cells.lookup n=some c:=hc;have e:cellOf env n=pure c:=by unfold cellOf;rw[hc']
   simp only[hk,if_true,e];show (forIn r ((n,c)::cs) _:Sem _)=_;rw[ih]
   conv=>rhs;unfold clOf
   simp only[hk,if_true,hc',Option.getD_some]
  ·simp only[hk,if_false];show (forIn r cs _:Sem _)=_;rw[ih]
   conv=>rhs;unfold clOf
   simp only[hk,if_false];rfl
theorem Ot (hf:∀ y∈scope.names,y.2=.free ->∃ c,env.cells.lookup y.1=some c):closureFor scope env=pure (clOf env.cells scope.names []):=by
 have h:=V5 (env:=env) scope.names [] hf;unfold closureFor;show ((forIn scope.names [] _:Sem _) >>= λ r=>pure r)=_;exact (congrArg (λ m=>m >>= λ r=>pure r) h)
theorem Dv {env:Env}{x:Str}{k:NameKind}:∀ {names:List (Str×NameKind)},(names.map λ (n,k)=>if (k==NameKind.free&&env.scope.kind==.function&&env.kindOf n==some .cell) then (n,NameKind.cell) else (n,k)).lookup x=some k ->
  ∃ k',(x,k')∈names/\(k'=k∨(k'=.free /\k=.cell))
 | [],h=>by simp at h
 | (n,k0)::r,h=>by
  rw[z04] at h;have ih:=@Dv env x k r
  by_cases hc:(k0==NameKind.free&&env.scope.kind==.function&&env.kindOf n==some .cell)=true
  ·simp only[hc,if_true] at h;rw[z09] at h;split at h
   ·rename_i e;have e':x=n:=by simpa using e
    subst e';have hk0:k0=.free :=by
     rw[z0q,z0q] at hc;simpa using hc.1.1
    cases h;exact⟨k0,z0k,.inr ⟨hk0,rfl⟩⟩
   ·obtain⟨k',h1,h2⟩:=ih h;exact⟨k',z07 _ h1,h2⟩
  ·simp only[hc,if_false] at h;rw[z09] at h;split at h
   ·rename_i e;have e':x=n:=by simpa using e
    subst e';cases h;exact⟨k0,z0k,.inl rfl⟩
   ·obtain⟨k',h1,h2⟩:=ih h;exact⟨k',z07 _ h1,h2⟩
def Do (ts N:List Str):List Str:=N.map λ y=>if y∈ts then Str.empty else y
abbrev Kv (t:Str) (N:List Str):List Str:=Do [t] N
abbrev Cz (X:Cx) (scope:Scope) (N2:List Str) (s2:Shared) (H2:Hp) (fp:List Addr):Cx:=
 { X with N:=N2,s₀:=s2,H₀:=H2,env:=compEnvC scope (clOf X.env.cells scope.names []) (s2.heap.objs.size+1) X.env,outer:=X.stack,ex:=fp,fn:=λ _=>false,pn:=[],xe:=λ _ _=>False }
structure CompOkL (X:Cx) (scope:Scope) (ts:List Str):Prop where
 nocell:∀ y∈scope.names,y.2≠.cell
 kind:scope.kind=.function
 names:∀ y∈scope.names,y.2=.local ->scope.names.lookup y.1=some .local
 tl:∀ t∈ts,scope.names.lookup t=some .local
 loc:∀ y∈scope.names,y.2=.local ->y.1∈ts∨y.1∉X.N
 fre:∀ y∈scope.names,y.2=.free ->X.env.kindOf y.1=some .cell ∨X.env.kindOf y.1=some .free
 emp:∀ y∈scope.names,y.1≠Str.empty
 nd:(Do ts X.N++ts).Nodup
section
variable {t:Str}{ts:List Str}
theorem CompOkL.cells (c:CompOkL X scope ts) (ok:X.Ok):∀ y∈scope.names,y.2=.free ->∃ c,X.env.cells.lookup y.1=some c:=λ y hy hf=>ok.has y.1 (c.fre y hy hf)
theorem CompOkL.sub (c:CompOkL X scope ts) (ok:X.Ok) {x:Str}{a:Addr}(h:(clOf X.env.cells scope.names []).lookup x=some a):X.env.cells.lookup x=some a:=by
 rcases Nb (c.cells ok) h with q | q
 ·simp at q
 ·exact q
theorem CompOkL.inv {h1:Heap}{tk:Nat}(c:CompOkL X scope ts) (I:Inv X π σ H s) (hf:∀ b∈fp,FpOk X π H b) (ho:∀ b∈fp,∃ o,s.heap.get? b=some o)
  (hns:h1.Ns (s.heap.objs.size+1) (λ _=>none)) (kp:∀ b o,s.heap.get? b=some o->h1.get? b=some o) (hacc:h1.get? s.heap.objs.size=some { cls:=.type "list",data:=.seq #[] }) :
  Inv (Cz X scope (Do ts X.N++ts) s H fp) [] (σ++List.replicate ts.length none) (upd H s.heap.objs.size (.lst [])) { s with heap:=h1,toks:=tk }:=by
 have lt_of:∀ b o,s.heap.get? b=some o->b<s.heap.objs.size:=λ b o e=>z05 e;have ok':(Cz X scope (Do ts X.N++ts) s H fp).Ok:=by
  refine⟨I.ok.mod,c.kind,I.ok.glob,I.ok.blt,z13 _,λ x y a h1 h2=>I.ok.inj x y a (c.sub I.ok h1) (c.sub I.ok h2),λ x hx=>?_,λ x a h _=>absurd (show false=true from h) z0m,I.ok.hd,I.ok.frames,.inl rfl,λ b hb=>⟨?_,λ x a h=>?_⟩,I.bs,z0j I.ok.bsz I.sz,λ b o e hb=>?_,λ b hb hs=>?_,I.stack,I.stkFree⟩
  ·have hx':(relabel scope X.env).names.lookup x=some .cell ∨(relabel scope X.env).names.lookup x=some .free :=hx;have go:∀ k,(relabel scope X.env).names.lookup x=some k->(k=.cell ∨k=.free)->(x,NameKind.free)∈scope.names:=λ k hk hkk=>by
    obtain⟨k',m,e⟩:=Dv hk
    rcases e with e | ⟨e,_⟩
    ·subst e
     rcases hkk with z | z
     ·exact absurd z (c.nocell _ m)
     ·rw[<-z];exact m
    ·rw[<-e];exact m
   rcases hx' with h | h
   ·exact Hj (go _ h (.inl rfl))
   ·exact Hj (go _ h (.inr rfl))
  ·obtain⟨o,e⟩:=ho b hb;exact z0e (Nat.lt_succ_of_lt (lt_of b o e))
  ·exact (hf b hb).2.2.2.2.1 x a (c.sub I.ok h)
  ·rcases (hf b hb).2.2.2.1 with z | z
   ·exact I.ok.noex b o e z
   ·exact absurd (z0r (z05 e) (z0j I.ok.bsz z)) (z15 _)
  ·rcases z06.mp (I.stkSub b hs) with z | z
   ·exact (hf b hb).2.1 z
   ·exact (hf b hb).2.2.1 z
 have fr:H s.heap.objs.size=none:=I.hok.fresh (z03 _);have new:Bg X.prog X.w (upd H s.heap.objs.size (.lst [])) h1 s.heap.objs.size (.lst []):=⟨z0M _,[],0,.nil,hacc⟩;refine⟨ok',rfl,I.bare,Un.laid kp (z03 _) fr,⟨_,hns,λ i x v e1 e2 e3=>?_⟩,λ x a h=>?_,?_,λ x a h=>?_,λ p hp=>absurd (show p∈([]:zP) from hp) (by simp),I.hok.laid kp (z03 _) new,?_⟩
 ·have e1':(Do ts X.N++ts)[i]?=some x:=e1;have hil:i<σ.length:=by
   by_cases z:i<σ.length
   ·exact z
   ·rw[z0U (by omega),List.getElem?_replicate] at e2;split at e2<;>cases e2
  have e2':σ[i]?=some (some v):=by rw[z0P hil] at e2;exact e2
  have hN:i<X.N.length:=by rw[<-I.len];exact hil
  have e1'':(Do ts X.N)[i]?=some x:=by rw[z0P (by unfold Do;rw[z01];exact hN)] at e1';exact e1'
  unfold Do at e1'';rw[z0c] at e1'';have e3':(relabel scope X.env).names.lookup x=some .local ∨(relabel scope X.env).names.lookup x=some .cell ∨(relabel scope X.env).names.lookup x=some .free :=e3;have hin:∃ k',(x,k')∈scope.names/\(k'=.local ∨k'=.free)/\(k'=.free ->(relabel scope X.env).names.lookup x=some .cell ∨(relabel scope X.env).names.lookup x=some .free):=by
   rcases e3' with z | z | z
   ·obtain⟨k',m,e⟩:=Dv z
    rcases e with e | ⟨_,e⟩
    ·exact⟨k',m,.inl e,λ q=>by rw[q] at e;cases e⟩
    ·cases e
   ·obtain⟨k',m,e⟩:=Dv z
    rcases e with e | ⟨e,_⟩
    ·exact absurd e (c.nocell _ m)
    ·exact⟨k',m,.inr e,λ _=>.inl z⟩
   ·obtain⟨k',m,e⟩:=Dv z
    rcases e with e | ⟨e,q⟩
    ·exact⟨k',m,.inr e,λ _=>.inr z⟩
    ·cases q
  cases ey:X.N[i]? with
  | none=>rw[ey] at e1'';cases e1''
  | some y=>
   rw[ey] at e1'';have e1z:(if y∈ts then Str.empty else y)=x:=z0f e1'';obtain⟨k',m,hk',hfr⟩:=hin
   by_cases hyt:y∈ts
   ·rw[if_pos hyt] at e1z;exact absurd e1z.symm (c.emp _ m)
   ·rw[if_neg hyt] at e1z;subst e1z
    rcases hk' with hk' | hk'
    ·rcases c.loc _ m hk' with z | z
     ·exact absurd z hyt
     ·exact absurd (List.mem_of_getElem? ey) z
    ·have hkk:=c.fre _ m hk';have hkk':X.env.kindOf y=some .cell ∨X.env.kindOf y=some .free :=hkk;obtain⟨mm,hn,hl⟩:=I.loc;have hv:Vis X.env.scope y:=by
      rcases hkk' with z | z
      ·exact .inr (.inl z)
      ·exact .inr (.inr z)
     obtain⟨u,r,l⟩:=hl i y v ey e2' hv;refine⟨u,r,.inr ⟨hfr hk',?_⟩⟩
     rcases l with ⟨kl,_⟩ | ⟨_,a,ea,hc⟩
     ·rcases hkk' with z | z
      ·rw[kl] at z;cases z
      ·rw[kl] at z;cases z
     ·rw[hk'] at m;obtain⟨a',ha'⟩:=Hj (cells:=X.env.cells) (cs:=[]) m;refine⟨a',ha',?_⟩;have:=c.sub I.ok ha';rw[ea] at this;cases this;obtain⟨o,e,d⟩:=hc;exact⟨o,kp _ _ e,d⟩
 ·obtain⟨v,o,e,d⟩:=I.cell x a (c.sub I.ok h);exact⟨v,o,kp _ _ e,d⟩
 ·show upd H s.heap.objs.size (.lst []) (s.heap.objs.size+1)=none;rw[Ad (Nat.succ_ne_self _)];exact I.hok.fresh (z13 _)
 ·have ha:=c.sub I.ok h;obtain⟨v,o,e,d⟩:=I.cell x a ha;rw[Ad (z0e (lt_of _ _ e))];exact I.freeC x a ha
 ·show (σ++List.replicate ts.length none).length=(Do ts X.N++ts).length;unfold Do;rw[z0A,z0A,z01,I.len,List.length_replicate]
def Y9 (n:Nat) (wi:TI) (g:TG) (tc:TT) (te:TE):TE:=λ σ H Q=>wi σ H λ J H1=>∀ p,H1 p=none->∃ W:Nat->Nat->List V->Hp->Prop,(∃ m,W 0 m [] (upd H1 p (.lst []))) ∧
 ∀ i m ys H,W i m ys H->(J.stop i H/\Q (.ref p) H)∨(J.go i H/\∀ x H',J.yld i H x H'->∀ os:List (Option V),os.length=n->g x (σ++os) H' λ σ2 H1=>(∃ o2,σ2=σ++o2/\o2.length=n)/\tc σ2 H1 λ b H2=>
  if b=true then te σ2 H2 λ y H3=>H3 p=some (.lst ys)/\ys.length<sizeLine/\∃ m',m'<m/\W (i+1) m' (ys++[y]) (upd H3 p (.lst (ys++[y]))) else ∃ m',m'<m/\W (i+1) m' ys H2)
def PTs (X:Cx) (ifs:List Expr) (tc:TT):Prop:=
 ∀ (π:zP) (s:Shared) (σ:St) (H:Hp) (Q:Bool->Hp->Prop),Inv X π σ H s->tc σ H Q ->
  wpAny (model X.prog X.w) X.A (forIn ifs true λ c r=>if r=true then do let ok <-isTrue c X.env (eval c X.env);pure (ForInStep.yield ok) else pure (ForInStep.yield r)) (TP X π σ Q) X.xe s
theorem cX:PTs X [] (λ _ H Q=>Q true H):=λ _ _ _ H _ I h=>wpAny_tests_nil ⟨H,I,h⟩
theorem cY {tc:TT}(h:PT X e tc):PTs X [e] tc:=λ π s σ H Q I q=>wpAny_tests_one (h π s σ H Q I q)
variable {elt iter:Expr}{ifs:List Expr}{px:Pos}{wi:TI}{tc:TT}{te:TE}{g:TG}
theorem Um {A:Around}{R:Result->Shared->Prop}{itv acc:Value}(J:Nat->Shared->Prop) (E:zQ) (hE:E=notedBy (model prog w) A env λ e s'=>R (.error e) s')
    (go:∀ n s,J n s->wpAny (model prog w) A (pyNext itv) (λ r s1=>match r with
      | none=>R (.ok .next) s1
      | some v=>wpAny (model prog w) A (letOwnedTupleGo tg itv v) (λ _ s2=>wpAny (model prog w) A (assign tg env v) (λ _ s3=>
          wpAny (model prog w) A (forIn ifs true λ c r=>if r=true then do let ok <-isTrue c env (eval c env);pure (ForInStep.yield ok) else pure (ForInStep.yield r)) (λ ok s4=>
            if ok=true then wpAny (model prog w) A (eval elt env) (λ x s5=>wpAny (model prog w) A (call (.builtin "list.append") [acc,x]) (λ _ s6=>∃ m,m<n/\J m s6) E s5) E s4 else ∃ m,m<n/\J m s4) E s3) E s2) E s1) E s)
    (n:Nat) (j0:J n s):codeAny (model prog w) A (.compLoop (.ListComp elt [⟨tg,iter,ifs,0⟩] scope pos) 0 itv acc env) R s:=by
  subst hE;refine codeAny_loop rfl J (λ n s jn=>?_) n j0;show wpAny _ A (Sem.onRaise (compTurn (.ListComp elt [⟨tg,iter,ifs,0⟩] scope pos) 0 itv acc env) (λ x=>do noteFrame x env;theTreesLotGoes x)) _ _ s;refine wpAny_noted ?_;rw[compTurn_list];refine z00 (wpAny_standAt (z00 (thn (go n s jn) λ r s1 q1=>?_)));cases r with
  | none=>exact z02 q1
  | some v=>
    refine z00 (thn q1 λ _ s2 q2=>z00 (thn q2 λ _ s3 q3=>z00 (thn q3 λ ok s4 q4=>?_)));cases ok with
    | false=>exact z02 ⟨rfl,q4⟩
    | true=>exact z00 (z00 (thn q4 λ x s5 q5=>z00 (thn q5 λ _ s6 q6=>z02 (z02 ⟨rfl,q6⟩))))
theorem Uo {Q:VK}{tn:Nat->Heap->Prop}{J:It}{RR:Value->Addr->Result->Shared->Prop}(c:CompOkL X scope ts) (hc:X.calm=true)
    (I:Inv X π σ H s) (T:Turn X.prog X.w X.K tg J fp it tn) (st0:tn 0 s.heap) (hf:∀ b∈fp,FpOk X π H b)
    (hG:∀ s2 H2 fp,PG (Cz X scope (Do ts X.N++ts) s2 H2 fp) tg g) (hI:∀ s2 H2 fp,PTs (Cz X scope (Do ts X.N++ts) s2 H2 fp) ifs tc) (hE:∀ s2 H2 fp,PE (Cz X scope (Do ts X.N++ts) s2 H2 fp) elt te)
    (h:∀ p,H p=none->∃ W:Nat->Nat->List V->Hp->Prop,(∃ m,W 0 m [] (upd H p (.lst []))) ∧
      ∀ i m ys H,W i m ys H->(J.stop i H/\Q (.ref p) H)∨(J.go i H/\∀ x H',J.yld i H x H'->∀ os:List (Option V),os.length=ts.length->g x (σ++os) H' λ σ2 H1=>(∃ o2,σ2=σ++o2/\o2.length=ts.length)/\tc σ2 H1 λ b H2=>
        if b=true then te σ2 H2 λ y H3=>H3 p=some (.lst ys)/\ys.length<sizeLine/\∃ m',m'<m/\W (i+1) m' (ys++[y]) (upd H3 p (.lst (ys++[y]))) else ∃ m',m'<m/\W (i+1) m' ys H2))
    (hRR:∀ p C s' H' m,Inv X π σ H' s'->H' C=none->C≠X.env.locals->X.s₀.heap.objs.size<=C->(∀ x a,X.env.cells.lookup x=some a->a≠C)->(∀ q∈X.pn++π,q.1≠C)->s'.heap.Ns C m->Q (.ref p) H'->RR (.ref p) C (.ok .next) s') :
    wpAny (model X.prog X.w) X.A (newList []) (λ acc s₃=>wpAny (model X.prog X.w) X.A (newFunctionEnv scope X.env.globals (clOf X.env.cells scope.names []) [] X.env.qual none .none (some X.env)) (λ cenv s₄=>
      codeAny (model X.prog X.w) X.A (.compStart (.ListComp elt [⟨tg,iter,ifs,0⟩] scope pos) 0 (.ref it) acc { cenv with scope:=relabel scope X.env }) (RR acc cenv.locals) s₄) E s₃) E s:=by
  refine z17 (wpAny_newFunctionEnv c.nocell (by intro y hy;simp at hy) (λ h₁ hns₁ hsb₁=>?_) c.kind);dsimp only at hns₁ hsb₁ ⊢;generalize hH2:s.heap.push { cls:=.type "list",dict:=none,data:=.seq ([]:List Value).toArray }=G2 at hns₁ hsb₁ ⊢;have hC:G2.objs.size=s.heap.objs.size+1:=by rw[<-hH2,Heap.size_push]
  rw[hC] at hns₁ hsb₁ ⊢;have kp:∀ b o,s.heap.get? b=some o->h₁.get? b=some o:=λ b o e=>hsb₁.extBut b o (z0e (Nat.lt_succ_of_lt (z05 e))) (z08 _ (hH2▸z08 _ e));have hacc:h₁.get? s.heap.objs.size=some { cls:=.type "list",data:=.seq #[] }:=hsb₁.extBut _ _ (z0e (Nat.lt_succ_self _)) (z08 _ (hH2▸z0l _ rfl));have hob:∀ b∈fp,∃ o,s.heap.get? b=some o:=λ b hb=>let ⟨o,e,_⟩:=T.obj 0 _ st0 b hb;⟨o,e⟩;have I0:=c.inv (fp:=fp) (h1:=h₁) (tk:=s.toks+([]:List (Str×Value)).length) I hf hob (by simpa using hns₁) kp hacc;have fr:H s.heap.objs.size=none:=I.hok.fresh (z03 _);obtain⟨W,⟨m0,w0⟩,turn⟩:=h _ fr;have st1:tn 0 h₁:=T.keep 0 _ _ st0 λ b _ o e=>kp b o e;generalize hX:Cz X scope (Do ts X.N++ts) s H fp=Y at I0;have hcY:Y.calm=true:=by rw[<-hX];exact hc
  have stat:∀ {H':Hp},(∀ b∈fp,H' b=none)->∀ b∈fp,FpOk Y [] H' b:=λ {H'} hn b hb=>by
    obtain⟨o,e⟩:=hob b hb;refine⟨hn b hb,?_,?_,.inl ?_,λ x a e'=>?_,λ p hp=>?_⟩
    · rw[<-hX];exact z0e (Nat.lt_succ_of_lt (z05 e))
    · intro z
      exact I0.ok.exfs b (by rw[<-hX];exact hb) z
    · rw[<-hX];exact hb
    · exact (I0.ok.exf b (by rw[<-hX];exact hb)).2 x a e'
    · rw[<-hX] at hp
      exact absurd (show p∈([]:zP) from hp) (by simp)
  have fp0:∀ b∈fp,upd H s.heap.objs.size (.lst []) b=none:=λ b hb=>by
    obtain⟨o,e⟩:=hob b hb;rw[Ad (z0e (z05 e))];exact (hf b hb).1
  have envY:Y.env=compEnvC scope (clOf X.env.cells scope.names []) (s.heap.objs.size+1) X.env:=by rw[<-hX]
  have pY:Y.prog=X.prog:=by rw[<-hX]
  have wY:Y.w=X.w:=by rw[<-hX]
  have aY:Y.A=X.A:=by rw[<-hX]
  have kY:Y.K=X.K:=by rw[<-hX]
  have xY:Y.xe=λ _ _=>False:=by rw[<-hX]
  have hIY:PTs Y ifs tc:=by rw[<-hX];exact hI s H fp
  have hEY:PE Y elt te:=by rw[<-hX];exact hE s H fp
  have hGY:PG Y tg g:=by rw[<-hX];exact hG s H fp
  have loop:∀ s₃:Shared,s₃={ s with heap:=h₁,toks:=s.toks+([]:List (Str×Value)).length } ->
      codeAny (model X.prog X.w) X.A (.compLoop (.ListComp elt [⟨tg,iter,ifs,0⟩] scope pos) 0 (.ref it) (.ref s.heap.objs.size) (compEnvC scope (clOf X.env.cells scope.names []) (s.heap.objs.size+1) X.env)) (RR (.ref s.heap.objs.size) (s.heap.objs.size+1)) s₃:=by
    rintro s₃ rfl;rw[<-envY];refine Um (λ n s'=>∃ i ys os H',os.length=ts.length/\Inv Y [] (σ++os) H' s'/\tn i s'.heap/\(∀ b∈fp,H' b=none)/\W i n ys H') _ rfl ?_ m0 ⟨0,[],_,_,List.length_replicate,I0,st1,fp0,w0⟩;rintro n s3 ⟨i,ys,os,H3,hos,I3,st3,fr3,w3⟩
    rcases turn i n ys H3 w3 with ⟨stop,qn⟩ | ⟨go,step⟩
    · have d:=T.done Y pY wY kY hcY i [] s3 _ H3 (λ _ _=>False) I3 (stat fr3) st3 stop
      rw[aY] at d;refine z0B d (λ r s4 ⟨hr,I4⟩=>?_) λ _ _ z=>z.elim;subst hr;have cN:=I4.free;have cN':H3 (s.heap.objs.size+1)=none:=by rw[envY] at cN;exact cN
      have un:=I4.base;obtain⟨m,hm,_⟩:=I4.loc;have hm':s4.heap.Ns (s.heap.objs.size+1) m:=by rw[envY] at hm;exact hm
      have un':Un (frs X.stack) fp H H3 s.heap s4.heap:=by rw[<-hX] at un;exact un
      have os':s4.os=s.os:=by have:=I4.os;rw[<-hX] at this;exact this
      have hok':HOk X.prog X.w H3 s4.heap:=by have:=I4.hok;rw[<-hX] at this;exact this
      have bare':=I4.bare;have IX:Inv X π σ H3 s4:=I.call' os' un' hok' bare' λ b hb=>⟨(hf b hb).2.2.2.1,(hf b hb).2.1,(hf b hb).2.2.2.2.1,(hf b hb).2.2.2.2.2⟩;refine hRR _ _ _ _ m IX cN' (Nat.ne_of_gt (Nat.lt_succ_of_lt I.lt)) (z0j I.sz (z13 _)) (λ x a e z=>?_) (λ q hq z=>?_) hm' qn
      · obtain⟨v,oc,e',_⟩:=I.cell x a e
        have q2:a<s.heap.objs.size:=z05 e';have z':a=s.heap.objs.size+1:=z;exact absurd (z'▸q2) (z0I.mpr (z13 _))
      · have q2:q.1<s.heap.objs.size:=z05 (I.pin q hq).1
        have z':q.1=s.heap.objs.size+1:=z;exact absurd (z'▸q2) (z0I.mpr (z13 _))
    · have d:=T.item Y pY wY kY hcY i [] s3 _ H3 (λ _ _=>False) I3 (stat fr3) st3 go
      rw[aY] at d;refine z0B d (λ r s4 ⟨u,hr,h4⟩=>?_) λ _ _ z=>z.elim;subst hr;refine z0B h4 (λ _ s4 ⟨x,H5,I5,r5,y5,st5,fr5⟩=>?_) λ _ _ z=>z.elim;have I5':=I5.pinned (stat fr5) (T.obj _ _ st5);have asg:=hGY _ s4 _ H5 x u _ I5' r5 (step x H5 y5 os hos);rw[aY,pY,wY,xY] at asg;refine z0B asg (λ _ s6 ⟨σ6,H6,I6,⟨o2,e6,l6⟩,q⟩=>?_) λ _ _ z=>z.elim;subst e6;have tst:=hIY _ s6 _ H6 _ I6 q;rw[aY,pY,wY,xY] at tst;refine z0B tst (λ b s7 ⟨H7,I7,q7⟩=>?_) λ _ _ z=>z.elim;have back:∀ {H8:Hp}{s8:Shared},Inv Y ([]++M9 fp s4.heap) (σ++o2) H8 s8->tn (i+1) s8.heap/\∀ b∈fp,H8 b=none:=λ {H8 s8} I8=>by
        refine⟨T.keep _ _ _ st5 λ b hb ob e=>(I8.pin (b,ob) (z0t _ (z0t _ (Gy hb e)))).1,λ b hb=>?_⟩;obtain⟨ob,e,d⟩:=T.obj _ _ st5 b hb;exact (I8.pin (b,ob) (z0t _ (z0t _ (Gy hb e)))).2.1
      cases b with
      | false=>
        rw[if_neg z0m] at q7 ⊢;obtain⟨m',hm,w7⟩:=q7;obtain⟨t7,f7⟩:=back I7;exact⟨m',hm,i+1,ys,o2,H7,l6,I7.unpinned,t7,f7,w7⟩
      | true=>
        rw[if_pos rfl] at q7 ⊢;have ev:=hEY _ s7 _ H7 _ I7 q7;rw[aY,pY,wY,xY] at ev;refine z0B ev (λ y s8 ⟨yv,H8,I8,r8,hp8,hz8,m',hm,w8⟩=>?_) λ _ _ z=>z.elim;have ap:=PJ (X:=Y) _ s8 _ H8 (.ref s.heap.objs.size) [yv] (.ref s.heap.objs.size) [y] (λ _ H9=>H9=upd H8 s.heap.objs.size (.lst (ys++[yv]))) I8 rfl (.cons r8 .nil) ⟨_,ys,yv,rfl,rfl,hp8,hz8,rfl⟩;rw[aY,pY,wY,xY] at ap;refine z0B ap (λ _ s9 ⟨_,H9,I9,_,e9⟩=>?_) λ _ _ z=>z.elim;subst e9;obtain⟨t9,f9⟩:=back I9;exact⟨m',hm,i+1,_,o2,_,l6,I9.unpinned,t9,f9,w8⟩
  exact codeAny_compStart_list (loop _ rfl) (T.self X.A 0 _ _ _ st1 (loop _ rfl))
theorem Y_ (c:CompOkL X scope ts) (hc:X.calm=true) (hi:PI X tg iter wi) (hG:∀ s2 H2 fp,PG (Cz X scope (Do ts X.N++ts) s2 H2 fp) tg g) (hI:∀ s2 H2 fp,PTs (Cz X scope (Do ts X.N++ts) s2 H2 fp) ifs tc) (hE:∀ s2 H2 fp,PE (Cz X scope (Do ts X.N++ts) s2 H2 fp) elt te)
  (hs:∀ x,foldedSetIterable iter X.env x=pure x:=by intro _;rfl):PE X (.ListComp elt [⟨tg,iter,ifs,0⟩] scope pos) (Y9 ts.length wi g tc te):=by
 intro π s σ H Q I h;rw[eval_ListComp];refine wpAny_comprehension_free (use:=none) rfl hs (Ot (c.cells I.ok)) c.kind c.names (thn (hi π s σ H _ I h) λ v s1 h1=>thn h1 λ itv s2 h2=>?_);obtain⟨it,fp,tn,J,H2,e,I2,T,st2,f2,q⟩:=h2;subst e;refine Uo (Q:=Q) c hc I2 T st2 f2 hG hI hE q λ p C s' H' m I' n1 n2 n3 n4 n5 hm q'=>?_;exact⟨m,hm,λ h' sb=>⟨.ref p,H',I'.turned (t':=s'.toks) (λ b o hb e=>(sb.2 b hb).trans e) n1 (Ne.symm (Ne.symm n2)) (.inr n3) n4 n5,rfl,q'⟩⟩
abbrev Nf (X:Cx) (scope:Scope) (t:Str):Prop:=CompOkL X scope [t]
abbrev Up (X:Cx) (scope:Scope) (t:Str) (s2:Shared) (H2:Hp) (fp:List Addr):Cx:=Cz X scope (Kv t X.N++[t]) s2 H2 fp
theorem gOne (c:Nf X scope t) (s2:Shared) (H2:Hp) (fp:List Addr):PG (Up X scope t s2 H2 fp) (.Name t px) (GK X.N.length):=
 VP c.nd (by show (Kv t X.N++[t])[X.N.length]?=some t;unfold Kv Do;rw[z0U (by rw[z01];exact z03 _),z01,Nat.sub_self];rfl) (.inl (lookup_relabel_local (c.tl t (z1i.mpr rfl)))) (.inr (lookup_relabel_local (c.tl t (z1i.mpr rfl))))
def iH (X:Cx) (wi:TI):TI:=λ σ H R=>∃ R0,wi σ H R0/\∀ J H1,σ.length=X.N.length->R0 J H1->R J H1
theorem cZ (hi:PI X tg iter wi):PI X tg iter (iH X wi):=λ π s σ H R I ⟨R0,h0,hm⟩=>
 thn (hi π s σ H R0 I h0) λ v s1 h1=>thn h1 λ itv s2 ⟨it,fp,tn,J,H',e,I',T,st,f,r⟩=>⟨it,fp,tn,J,H',e,I',T,st,f,hm J H' I.len r⟩
end
end L2
namespace PV
open PySem PySem.Spec L2
open PyProof.Rows hiding St
structure Gx where
 K:PySem.W.Frag
 cl:Str->Option Addr
 xcl:Str->Option Addr:=λ _=>none
 lent:Option Addr:=none
theorem Fp {K:zFr}(e:Same H H') (h:SqT K H a xs):SqT K H' a xs:=by
 rcases h with (h | ⟨o,h⟩) | h
 ·exact .inl (.inl (e _ _ h))
 ·exact .inl (.inr ⟨o,e _ _ h⟩)
 ·exact .inr h
theorem Ay (h:H p=none) (o:HO):Same H (upd H p o):=λ b u q=>by rw[Ad (Ak q h)];exact q
def FsV (fs:List (Str×V)) (gs:List (Str×D)):Prop:=fs.map (λ p=>(p.1,some p.2))=gs.map λ p=>(p.1,flV p.2)
def XdA (H:Hp) (od:Option Addr) (fs:List (Str×V)):Prop:=match od with | some dx=>H dx=some (.xd fs) | none=>fs=[]
theorem XdA.mono {fs:List (Str×V)}(h:XdA H od fs) (s:Same H H'):XdA H' od fs:=by
 cases od with
 | none=>exact h
 | some dx=>exact s _ _ h
inductive Rep (G:Gx) (H:Hp):V->D->Prop
 | non:Rep G H .non .non
 | bl (b:Bool):Rep G H (.bl b) (.bl b)
 | int (i:Int):Rep G H (.int i) (.int i)
 | str (x:Str):Rep G H (.str x) (.str x)
 | tup {a:Addr}{xs:List V}{ds:List D}:SqT G.K H a xs->xs.length=ds.length->(∀ (i:Nat) x d,xs[i]?=some x->ds[i]?=some d->Rep G H x d)->Rep G H (.ref a) (.tup ds)
 | lst {a:Addr}{xs:List V}{ds:List D}:SqL G.K H a xs->xs.length=ds.length->(∀ (i:Nat) x d,xs[i]?=some x->ds[i]?=some d->Rep G H x d)->Rep G H (.ref a) (.lst ds)
 | dk {a:Addr}{o:Obj}{kvs:List (Key×V)}{kds:List (Key×D)}:H a=some (.frz o (.dK kvs))->kvs.map (·.1)=kds.map (·.1)->(∀ (i:Nat) x d,(kvs.map (·.2))[i]?=some x->(kds.map (·.2))[i]?=some d->Rep G H x d)->Rep G H (.ref a) (.dk kds)
 | dt {a:Addr}{o:Obj}{kvs:List (List Key×V)}{kds:List (List Key×D)}:H a=some (.frz o (.dT kvs))->kvs.map (·.1)=kds.map (·.1)->(∀ (i:Nat) x d,(kvs.map (·.2))[i]?=some x->(kds.map (·.2))[i]?=some d->Rep G H x d)->Rep G H (.ref a) (.dt kds)
 | adr (a:Addr):Rep G H (.ref a) (.adr a)
 | ob {a C dx:Addr}{c:Str}{fs:List (Str×V)}{gs:List (Str×D)}:G.cl c=some C->H a=some (.ins C dx fs)->fs.map (·.1)=gs.map (·.1)->(∀ (i:Nat) x d,(fs.map (·.2))[i]?=some x->(gs.map (·.2))[i]?=some d->Rep G H x d)->Rep G H (.ref a) (.ob c gs)
 | err {a C:Addr}{od tb:Option Addr}{c:Str}{fs:List (Str×V)}{gs:List (Str×D)}:G.xcl c=some C->H a=some (EX.excO a C od tb)->XdA H od fs->FsV fs gs->Rep G H (.ref a) (.err c gs)
def RepL (G:Gx) (H:Hp) (xs:List V) (ds:List D):Prop:=xs.length=ds.length/\∀ (i:Nat) x d,xs[i]?=some x->ds[i]?=some d->Rep G H x d
theorem Rep.mono {G:Gx}{H H':Hp}{v:V}{d:D}(r:Rep G H v d) (s:Same H H'):Rep G H' v d:=by
 induction r with
 | non=>exact .non
 | bl b=>exact .bl b
 | int i=>exact .int i
 | str x=>exact .str x
 | tup h l _ ih=>exact .tup (Fp s h) l ih
 | lst h l _ ih=>exact .lst (s.seq h) l ih
 | dk h l _ ih=>exact .dk (s _ _ h) l ih
 | dt h l _ ih=>exact .dt (s _ _ h) l ih
 | adr a=>exact .adr a
 | ob c h l _ ih=>exact .ob c (s _ _ h) l ih
 | err c h q f=>exact .err c (s _ _ h) (q.mono s) f
theorem RepL.mono {G:Gx}{H H':Hp}{xs:List V}{ds:List D}(r:RepL G H xs ds) (s:Same H H'):RepL G H' xs ds:=⟨r.1,λ i x d a b=>(r.2 i x d a b).mono s⟩
theorem RepL.nil {G:Gx}:RepL G H [] []:=⟨rfl,λ i x d h=>by simp at h⟩
theorem RepL.cons {G:Gx}{H:Hp}{x:V}{d:D}{xs:List V}{ds:List D}(r:Rep G H x d) (rs:RepL G H xs ds):RepL G H (x::xs) (d::ds):=
 ⟨by simp[rs.1],λ i y e h1 h2=>by
  cases i with
  | zero=>simp at h1 h2;subst h1;subst h2;exact r
  | succ i=>simp at h1 h2;exact rs.2 i y e h1 h2⟩
theorem RepL.uncons {G:Gx}{d:D}{ds:List D}(r:RepL G H xs (d::ds)):∃ x ys,xs=x::ys/\Rep G H x d/\RepL G H ys ds:=by
 obtain⟨l,h⟩:=r;cases xs with
 | nil=>simp at l
 | cons x ys=>exact⟨x,ys,rfl,h 0 x d rfl rfl,by simpa using l,λ i y e h1 h2=>h (i+1) y e (by simpa using h1) (by simpa using h2)⟩
theorem RepL.nil_inv {G:Gx}(r:RepL G H xs []):xs=[]:=by
 have:=r.1;cases xs with
 | nil=>rfl
 | cons x ys=>simp at this
theorem RepL.append {G:Gx}{ds es:List D}(a:RepL G H xs ds) (b:RepL G H ys es):RepL G H (xs++ys) (ds++es):=by
 refine⟨by rw[z0A,z0A,a.1,b.1],λ i x d h1 h2=>?_⟩
 by_cases hi:i<xs.length
 ·rw[z0P hi] at h1;rw[z0P (by rw[<-a.1];exact hi)] at h2;exact a.2 i x d h1 h2
 ·rw[z0U (z0I.mp hi)] at h1;rw[z0U (by rw[<-a.1];exact z0I.mp hi),<-a.1] at h2;exact b.2 _ x d h1 h2
theorem RepL.drop {G:Gx}{ds:List D}(a:RepL G H xs ds) (n:Nat):RepL G H (xs.drop n) (ds.drop n):=
 ⟨by rw[z0W,z0W,a.1],λ i x d h1 h2=>by rw[List.getElem?_drop] at h1 h2;exact a.2 _ x d h1 h2⟩
theorem RepL.take {G:Gx}{ds:List D}(a:RepL G H xs ds) (n:Nat):RepL G H (xs.take n) (ds.take n):=
 ⟨by rw[z0T,z0T,a.1],λ i x d h1 h2=>by
  rw[List.getElem?_take] at h1 h2;split at h1
  ·rename_i hlt;rw[if_pos hlt] at h2;exact a.2 _ x d h1 h2
  ·cases h1⟩
theorem RepL.get {G:Gx}{ds:List D}(a:RepL G H xs ds) {i:Nat}{d:D}(h:ds[i]?=some d):∃ x,xs[i]?=some x/\Rep G H x d:=by
 have hi:i<ds.length:=(z0z.mp h).1;have hi':i<xs.length:=by rw[a.1];exact hi
 exact⟨xs[i],by simp[hi'],a.2 i _ d (by simp[hi']) h⟩
theorem RepL.atI {G:Gx}{H:Hp}{xs:List V}{ds:List D}(a:RepL G H xs ds) {i:Int}{d:D}(h:L2.atI ds i=some d):∃ x,L2.atI xs i=some x/\Rep G H x d:=by
 unfold L2.atI at h ⊢;rw[<-a.1] at h;cases e:ixN xs.length i with
 | none=>rw[e] at h;cases h
 | some j=>
  rw[e] at h;obtain⟨x,h1,h2⟩:=a.get (show ds[j]?=some d from h);exact⟨x,h1,h2⟩
def hid (A:List Addr) (H:Hp):Hp:=λ b=>if b∈A then none else H b
theorem Aq (s:Same H H'):Same (hid A H) (hid A H'):=λ b o h=>by
 unfold hid at h ⊢;split at h
 ·cases h
 ·rename_i hb;rw[if_neg hb];exact s b o h
theorem Ai:Same (hid A H) H:=λ b o h=>by
 unfold hid at h;split at h
 ·cases h
 ·exact h
theorem Ck (h:∀ a∈A,a∈B):Same (hid B H) (hid A H):=λ b o q=>by
 unfold hid at q ⊢;split at q
 ·cases q
 ·rename_i hb;rw[if_neg (λ z=>hb (h b z))];exact q
theorem Ao (h:p∉A):hid A H p=H p:=by unfold hid;rw[if_neg h]
theorem Cm (h:p∈A):hid A (upd H p o)=hid A H:=by
 funext b;unfold hid
 by_cases hb:b∈A
 ·rw[if_pos hb,if_pos hb]
 ·rw[if_neg hb,if_neg hb,Ad (λ e:b=p=>hb (by rw[e];exact h))]
def Top (G:Gx) (A:List Addr) (H:Hp) (a:Addr):D->Prop
 | .lst ds=>∃ xs,H a=some (.lst xs)/\RepL G (hid A H) xs ds
 | .dk kds=>∃ kvs,H a=some (.dK kvs)/\kvs.map (·.1)=kds.map (·.1)/\RepL G (hid A H) (kvs.map (·.2)) (kds.map (·.2))
 | .dt kds=>∃ kvs,H a=some (.dT kvs)/\kvs.map (·.1)=kds.map (·.1)/\RepL G (hid A H) (kvs.map (·.2)) (kds.map (·.2))
 | .ob c gs=>∃ C dx fs,H a=some (.ins C dx fs)/\(G.cl c=some C/\fs.map (·.1)=gs.map (·.1))/\RepL G (hid A H) (fs.map (·.2)) (gs.map (·.2))
 | _=>False
theorem Top.mono {G:Gx}{A:List Addr}{H H':Hp}{a:Addr}{d:D}(t:Top G A H a d) (s:Same H H'):Top G A H' a d:=by
 cases d with
 | lst ds=>obtain⟨xs,h,r⟩:=t;exact⟨xs,s _ _ h,r.mono (Aq s)⟩
 | dk ds=>obtain⟨xs,h,k,r⟩:=t;exact⟨xs,s _ _ h,k,r.mono (Aq s)⟩
 | dt ds=>obtain⟨xs,h,k,r⟩:=t;exact⟨xs,s _ _ h,k,r.mono (Aq s)⟩
 | ob c gs=>obtain⟨C,dx,xs,h,k,r⟩:=t;exact⟨C,dx,xs,s _ _ h,k,r.mono (Aq s)⟩
 | _=>exact t.elim
structure Nt (x:Option HO):Prop where
 ne:x≠none
 tup:∀ xs,x≠some (.tup xs)
theorem Nt.mono {x y:Option HO}(h:Nt x) (k:∀ u,x=some u->y=some u):Nt y:=by
 cases x with
 | none=>exact absurd rfl h.ne
 | some u=>rw[k u rfl];exact h
theorem Nt.lst {xs:List V}:Nt (some (.lst xs)):=⟨λ z=>(nomatch z),λ _ z=>(nomatch z)⟩
theorem Nt.dK {xs:List (Key×V)}:Nt (some (.dK xs)):=⟨λ z=>(nomatch z),λ _ z=>(nomatch z)⟩
theorem Nt.dT {xs:List (List Key×V)}:Nt (some (.dT xs)):=⟨λ z=>(nomatch z),λ _ z=>(nomatch z)⟩
theorem Nt.ins {dx:Addr}{xs:List (Str×V)}:Nt (some (.ins C dx xs)):=⟨λ z=>(nomatch z),λ _ z=>(nomatch z)⟩
structure Okp (G:Gx) (A:List Addr) (σ:St) (H:Hp) (ρ:Rho):Prop where
 len:σ.length=ρ.length
 live:∀ a∈A,Nt (H a)
 fz:∀ (i:Nat) (d:D),ρ[i]?=some (.fz d)->∃ v,σ[i]?=some (some v)/\Rep G (hid A H) v d
 ow:∀ (i:Nat) (d:D),ρ[i]?=some (.ow d)->∃ a,σ[i]?=some (some (.ref a))/\a∈A/\Top G A H a d
 inj:∀ (i j:Nat) (d e:D) (a:Addr),ρ[i]?=some (.ow d)->ρ[j]?=some (.ow e)->σ[i]?=some (some (.ref a))->σ[j]?=some (some (.ref a))->i=j
theorem Okp.mono {G:Gx}{A:List Addr}{σ:St}{H H':Hp}{ρ:Rho}(o:Okp G A σ H ρ) (s:Same H H'):Okp G A σ H' ρ:=
 ⟨o.len,λ a ha=>(o.live a ha).mono λ u e=>s _ _ e,
  λ i d h=>let ⟨v,h1,h2⟩:=o.fz i d h;⟨v,h1,h2.mono (Aq s)⟩,λ i d h=>let ⟨a,h1,h2,h3⟩:=o.ow i d h;⟨a,h1,h2,h3.mono s⟩,o.inj⟩
def RepT (G:Gx) (A:List Addr) (H:Hp) (v:V) (d:D):Prop:=Rep G (hid A H) v d∨∃ a,v=.ref a/\Top G A H a d
theorem RepT.mono {G:Gx}{A:List Addr}{H H':Hp}{v:V}{d:D}(r:RepT G A H v d) (s:Same H H'):RepT G A H' v d:=by
 rcases r with r | ⟨a,e,r⟩
 ·exact .inl (r.mono (Aq s))
 ·exact .inr ⟨a,e,r.mono s⟩
theorem RepT.lst {G:Gx}{A:List Addr}{H:Hp}{v:V}{ds:List D}(r:RepT G A H v (.lst ds)):∃ a xs,v=.ref a/\SqL G.K H a xs/\RepL G (hid A H) xs ds:=by
 rcases r with r | ⟨a,e,xs,h,r⟩
 ·cases r with
  | lst h l r=>exact⟨_,_,rfl,Ai.seq h,l,r⟩
 ·exact⟨a,xs,e,.of h,r⟩
theorem RepT.tup {G:Gx}{A:List Addr}{H:Hp}{v:V}{ds:List D}(r:RepT G A H v (.tup ds)):∃ a xs,v=.ref a/\SqT G.K H a xs/\RepL G (hid A H) xs ds:=by
 rcases r with r | ⟨a,e,r⟩
 ·cases r with
  | tup h l r=>exact⟨_,_,rfl,Fp Ai h,l,r⟩
 ·exact r.elim
theorem RepT.int {G:Gx}{i:Int}(r:RepT G A H v (.int i)):v=.int i:=by
 rcases r with r | ⟨a,e,r⟩
 ·cases r;rfl
 ·exact r.elim
theorem RepT.str {G:Gx}{i:Str}(r:RepT G A H v (.str i)):v=.str i:=by
 rcases r with r | ⟨a,e,r⟩
 ·cases r;rfl
 ·exact r.elim
theorem RepT.bl {G:Gx}{i:Bool}(r:RepT G A H v (.bl i)):v=.bl i:=by
 rcases r with r | ⟨a,e,r⟩
 ·cases r;rfl
 ·exact r.elim
theorem RepT.non {G:Gx}(r:RepT G A H v .non):v=.non:=by
 rcases r with r | ⟨a,e,r⟩
 ·cases r;rfl
 ·exact r.elim
theorem RepT.dk {G:Gx}{A:List Addr}{H:Hp}{v:V}{kds:List (Key×D)}(r:RepT G A H v (.dk kds)):∃ a kvs,v=.ref a/\Rd H a (.dK kvs)/\kvs.map (·.1)=kds.map (·.1)/\RepL G (hid A H) (kvs.map (·.2)) (kds.map (·.2)):=by
 rcases r with r | ⟨a,e,kvs,h,k,r⟩
 ·cases r with
  | dk h k r=>
   refine⟨_,_,rfl,.inr ⟨_,Ai _ _ h⟩,k,?_,r⟩;have:=congrArg List.length k;rw[z01,z01] at this ⊢;exact this
 ·exact⟨a,kvs,e,.of h,k,r⟩
theorem Pa (live:∀ a∈A,Nt (H a)) (hp:H p=none) (o:HO):hid A (upd H p o) p=some o:=by
 rw[Ao (λ z=>(live p z).ne hp),Ae]
theorem C_ {G:Gx}{ds:List D}(live:∀ a∈A,Nt (H a)) (hp:H p=none) (r:RepL G (hid A H) xs ds):Rep G (hid A (upd H p (.lst xs))) (.ref p) (.lst ds):=
 let q:=r.mono (Aq (Ay hp (.lst xs)));.lst (.of (Pa live hp _)) q.1 q.2
theorem Hk {G:Gx}{ds:List D}(live:∀ a∈A,Nt (H a)) (hp:H p=none) (r:RepL G (hid A H) xs ds):Rep G (hid A (upd H p (.tup xs))) (.ref p) (.tup ds):=
 let q:=r.mono (Aq (Ay hp (.tup xs)));.tup (.of (Pa live hp _)) q.1 q.2
def tF (G:Gx) (A:List Addr) (f:FE):TE:=λ σ H Q=>∃ ρ d,Okp G A σ H ρ/\f ρ=some d/\∀ v H',Same H H'->Rep G (hid A H') v d->Q v H'
def tT (G:Gx) (A:List Addr) (f:FE):TE:=λ σ H Q=>∃ ρ d,Okp G A σ H ρ/\f ρ=some d/\∀ v H',Same H H'->RepT G A H' v d->Q v H'
def PF (X:Cx) (G:Gx) (e:Expr) (f:FE):Prop:=∀ ⦃A⦄,PE X e (tF G A f)
def PU (X:Cx) (G:Gx) (e:Expr) (f:FE):Prop:=∀ ⦃A⦄,PE X e (tT G A f)
theorem By {t t':TE}(h:PE X e t) (w:∀ σ H Q,t' σ H Q->t σ H Q):PE X e t':=λ π s σ H Q I q=>h π s σ H Q I (w σ H Q q)
theorem PF.pu {G:Gx}{f:FE}(h:PF X G e f):PU X G e f:=λ A=>By (@h A) λ σ H Q ⟨ρ,d,o,e,k⟩=>⟨ρ,d,o,e,λ v H' s r=>k v H' s (.inl r)⟩
def tFA (G:Gx) (A:List Addr) (f:FA):TA:=λ σ H Q=>∃ ρ ds,Okp G A σ H ρ/\f ρ=some ds/\∀ vs H',Same H H'->RepL G (hid A H') vs ds->Q vs H'
def PFA (X:Cx) (G:Gx) (es:List Expr) (f:FA):Prop:=∀ ⦃A⦄,PA X es (tFA G A f)
theorem iJ {e:List Expr}{t t':TA}(h:PA X e t) (w:∀ σ H Q,t' σ H Q->t σ H Q):PA X e t':=λ pos π s σ H Q I q=>h pos π s σ H Q I (w σ H Q q)
def tFT (G:Gx) (A:List Addr) (f:FT):TT:=λ σ H Q=>∃ ρ b,Okp G A σ H ρ/\f ρ=some b/\∀ H',Same H H'->Q b H'
def PFT (X:Cx) (G:Gx) (e:Expr) (f:FT):Prop:=∀ ⦃A⦄,PT X e (tFT G A f)
def PFW (X:Cx) (G:Gx) (e:Expr) (f:FT):Prop:=∀ ⦃A⦄,PW X e (tFT G A f)
theorem ZC {t t':TT}(h:PT X e t) (w:∀ σ H Q,t' σ H Q->t σ H Q):PT X e t':=λ π s σ H Q I q=>h π s σ H Q I (w σ H Q q)
theorem ZD {t t':TT}(h:PW X e t) (w:∀ σ H Q,t' σ H Q->t σ H Q):PW X e t':=λ wh π s σ H Q I q=>h wh π s σ H Q I (w σ H Q q)
section
variable {G:Gx}{a b c:Expr}{fa fb fc:FE}
theorem jt (i:Nat) {x:Str}(h:PE X (.Name x pos) (tVar i)):PF X G (.Name x pos) (vF i):=λ A=>By h λ σ H Q ⟨ρ,d,o,e,k⟩=>by
 unfold vF at e;split at e
 ·rename_i d' h';cases e;obtain⟨v,h1,h2⟩:=o.fz i _ h';exact⟨v,h1,k v H (Same.refl H) h2⟩
 ·cases e
theorem ju (i:Nat) {x:Str}(h:PE X (.Name x pos) (tVar i)):PU X G (.Name x pos) (vU i):=λ A=>By h λ σ H Q ⟨ρ,d,o,e,k⟩=>by
 unfold vU at e;split at e
 ·rename_i d' h';cases e;obtain⟨v,h1,h2⟩:=o.fz i _ h';exact⟨v,h1,k v H (Same.refl H) (.inl h2)⟩
 ·rename_i d' h';cases e;obtain⟨p,h1,_,h2⟩:=o.ow i _ h';exact⟨.ref p,h1,k _ H (Same.refl H) (.inr ⟨p,rfl,h2⟩)⟩
 ·cases e
theorem Gh {d:D}(h:PE X a (tC v)) (r:Rep G (λ _=>none) v d):PF X G a (kF d):=λ A=>By h λ σ H Q ⟨ρ,d',o,e,k⟩=>by
 cases e;exact k v H (Same.refl H) (r.mono λ b o z=>nomatch z)
theorem Uq {i j}:PF X G (.Constant (.int i) j pos) (kF (.int i)):=Gh jU (.int i)
theorem I_ {b j}:PF X G (.Constant (.bool b) j pos) (kF (.bl b)):=Gh nD (.bl b)
theorem jw {j}:PF X G (.Constant .none j pos) (kF .non):=Gh jV .non
theorem KN {x j}:PF X G (.Constant (.str x) j pos) (kF (.str x)):=Gh jW (.str x)
def DG (G:Gx) (r:R2) (g:D->D->Option D):Prop:=∀ (A:List Addr) (H:Hp) (x y:V) (dx dy d:D) (Q:VK),(∀ a∈A,Nt (H a))->RepT G A H x dx->RepT G A H y dy->g dx dy=some d->(∀ v H',Same H H'->Rep G (hid A H') v d->Q v H')->r x y H Q
theorem V6 {g:D->D->Option D}{ρ:Rho}{d:D}(h:bF g fa fb ρ=some d):∃ x y,fa ρ=some x/\fb ρ=some y/\g x y=some d:=by
 unfold bF at h;cases e1:fa ρ with
 | none=>rw[e1] at h;cases h
 | some x=>
  rw[e1] at h;cases e2:fb ρ with
  | none=>simp[e2] at h
  | some y=>simp[e2] at h;exact⟨x,y,rfl,rfl,h⟩
theorem Ng {r:R2}{g:D->D->Option D}(s:DG G r g) {A:List Addr}{σ:St}{H:Hp}{Q:VK}(h:tF G A (bF g fa fb) σ H Q):tOp r (tT G A fa) (tT G A fb) σ H Q:=by
 obtain⟨ρ,d,o,e,k⟩:=h;obtain⟨x,y,e1,e2,e3⟩:=V6 e;exact⟨ρ,x,o,e1,λ v H1 s1 r1=>⟨ρ,y,o.mono s1,e2,λ u H2 s2 r2=>s A H2 v u x y d Q ((o.mono s1).mono s2).live (r1.mono s2) r2 e3 λ w H3 s3 r3=>k w H3 (s1.trans (s2.trans s3)) r3⟩⟩
theorem G5 {op:Operator}{r:R2}{g:D->D->Option D}(ho:OpR X (binaryOp op) r) (s:DG G r g) (ha:PU X G a fa) (hb:PU X G b fb):PF X G (.BinOp a op b pos) (bF g fa fb):=
 λ A=>By (nO ho (@ha A) (@hb A)) λ _ _ _ h=>Ng s h
theorem ZF {op:CmpOp}{r:R2}{g:D->D->Option D}(ho:OpR X (compareOp op) r) (s:DG G r g) (ha:PU X G a fa) (hb:PU X G b fb) (hm:behindInMarks op b=false):PF X G (.Compare a [op] [b] pos) (bF g fa fb):=
 λ A=>By (Vb ho (@ha A) (@hb A) hm) λ _ _ _ h=>Ng s h
theorem ZG {f:FE}{ρ:Rho}{b:Bool}(h:blF f ρ=some b):f ρ=some (.bl b):=by
 unfold blF at h;split at h
 ·rename_i e;cases h;exact e
 ·cases h
theorem Dw {op:CmpOp}{r:R2}{g:D->D->Option D}(ho:OpR X (compareOp op) r) (s:DG G r g) (ha:PU X G a fa) (hb:PU X G b fb) (hm:behindInMarks op b=false):PFT X G (.Compare a [op] [b] pos) (blF (bF g fa fb)):=
 λ A=>ZC (Vc ho (@ha A) (@hb A) hm) λ σ H Q ⟨ρ,d,o,e,k⟩=>Ng s ⟨ρ,.bl d,o,ZG e,λ v H' s' r'=>by cases r';exact⟨d,rfl,k H' s'⟩⟩
theorem Nh {g:Int->Int->Option D}{x y d:D}(h:iiD g x y=some d):∃ i j,x=.int i/\y=.int j/\g i j=some d:=by
 unfold iiD at h;split at h
 ·exact⟨_,_,rfl,rfl,h⟩
 ·cases h
theorem RD {g:Int->Int->V}{g':Int->Int->D}(e:∀ i j H,Rep G H (g i j) (g' i j)):DG G (rI0 g) (iiD λ i j=>some (g' i j)):=by
 intro A H x y dx dy d Q lv rx ry h k;obtain⟨i,j,rfl,rfl,h⟩:=Nh h;cases h;exact⟨i,j,rx.int,ry.int,k _ H (Same.refl H) (e i j _)⟩
theorem Ni {C:Int->Int->Prop}{g:Int->Int->V}{g':Int->Int->D} [∀ i j,Decidable (C i j)] (e:∀ i j H,Rep G H (g i j) (g' i j)):DG G (rI C g) (iiD λ i j=>if C i j then some (g' i j) else none):=by
 intro A H x y dx dy d Q lv rx ry h k;obtain⟨i,j,rfl,rfl,h'⟩:=Nh h
 by_cases hc:C i j
 ·rw[if_pos hc] at h';cases h';exact⟨i,j,rx.int,ry.int,hc,k _ H (Same.refl H) (e i j _)⟩
 ·rw[if_neg hc] at h';cases h'
theorem cg:DG G (rI0 λ i j=>.int (i-j)) subD:=RD λ i j H=>.int _
theorem Je.ok {i j:Int}(h:Je i j):IntMulOk i j:=by
 rcases h with h | h
 ·exact h.ok
 ·exact IntMulOk.of_le h.1 h.2 (by decide)
theorem cj:OpR X (binaryOp .Mult) (rI Je λ i j=>.int (i*j)):=opI λ _ _ _ _ _ _ _ hc q=>mul_int q hc.ok
theorem cu:OpR X (binaryOp .LShift) (rI CShl λ i j=>.int (i*2^j.toNat)):=opI λ i j _ _ _ _ _ hc q=>lshift_int hc.1 (by have h1:=hc.2.1;have h2:=hc.2.2;omega) q
theorem cz:DG G (rI Je λ i j=>.int (i*j)) mulD:=Ni λ i j H=>.int _
theorem ZJ:DG G (rI CDiv λ i j=>.int (i/j)) Bp:=Ni λ i j H=>.int _
theorem dB:DG G (rI (λ _ j=>0<j) λ i j=>.int (i%j)) modD:=Ni (C:=λ _ j=>0<j) λ i j H=>.int _
theorem RJ:DG G (rI CPow λ i j=>.int (i^j.toNat)) powD:=Ni λ i j H=>.int _
theorem dC:DG G (rI CShl λ i j=>.int (i*2^j.toNat)) shlD:=Ni λ i j H=>.int _
theorem jz:DG G (rI0 λ i j=>.bl (decide (i<j))) ltD:=RD λ i j H=>.bl _
theorem j5:DG G (rI0 λ i j=>.bl (decide (j<i))) gtD:=RD λ i j H=>.bl _
theorem j6:DG G (rI0 λ i j=>.bl (decide (j<=i))) geD:=RD λ i j H=>.bl _
def iK (K:zFr):R2:=λ x y H Q=>∃ l b xs zs,x=.ref l/\y=.ref b/\SqL K H l xs/\SqL K H b zs/\xs.length+zs.length<=sizeLine/\∀ p,H p=none->Q (.ref p) (upd H p (.lst (xs++zs)))
theorem dD:OpR X (binaryOp .Add) (iK X.K):=by
 intro π s σ H x y v u Q I rx ry h;obtain⟨l,b,xs,zs,rfl,rfl,hl,hb,hz,q⟩:=h;cases rx;cases ry;obtain⟨its,r,pl,z⟩:=I.list hl;obtain⟨its2,r2,pl2,z2⟩:=I.list hb;have e1:=r.length;have e2:=r2.length;obtain⟨⟨cls,dd,data,sl⟩,ho,hc,n,hd⟩:=pl.isList;obtain⟨⟨cls2,dd2,data2,sl2⟩,ho2,hc2,n2,hd2⟩:=pl2.isList;simp only at hc hd hc2 hd2;subst hc hd hc2 hd2;refine concat_meets ⟨_,ho,rfl⟩ ⟨_,ho2,rfl⟩ noFill_list_add seq_list_add PySem.F.slot_list_add PySem.F.entry_list_add (PySem.F.args_list_add_2 _ _) (list_addW l b its.toArray its2.toArray n n2 dd dd2 sl sl2 (by rw[z0g,z0g];omega)) ⟨ho,ho2,?_⟩;have ea:its.toArray++its2.toArray=(its++its2).toArray:=by simp
 rw[ea];exact⟨.ref _,_,I.lnew (t':=s.toks) (r.append r2) (by rw[z0A];omega),rfl,q _ I.fresh⟩
def rAdd (K:zFr):R2:=λ x y H Q=>(rI0 λ i j=>.int (i+j)) x y H Q∨((λ x y H Q=>∃ i j,x=.str i/\y=.str j/\i.length+j.length<=sizeLine/\Q (.str (i++j)) H) x y H Q∨iK K x y H Q)
theorem dF:OpR X (binaryOp .Add) (rAdd X.K):=jd.or (Ua.or dD)
theorem dG:DG G (rAdd G.K) addD:=by
 intro A H x y dx dy d Q lv rx ry h k;unfold addD at h;split at h
 ·cases h;exact .inl ⟨_,_,rx.int,ry.int,k _ H (Same.refl H) (.int _)⟩
 ·split at h
  ·rename_i hz;cases h;exact .inr (.inl ⟨_,_,rx.str,ry.str,hz,k _ H (Same.refl H) (.str _)⟩)
  ·cases h
 ·split at h
  ·rename_i hz;cases h;obtain⟨l,xs,rfl,h1,r1⟩:=rx.lst;obtain⟨m,zs,rfl,h2,r2⟩:=ry.lst;exact .inr (.inr ⟨l,m,xs,zs,rfl,rfl,h1,h2,by rw[r1.1,r2.1];exact hz,λ p hp=>k _ _ (Ay hp _) (C_ lv hp (r1.append r2))⟩)
  ·cases h
 ·cases h
variable {ga gb:FT}
theorem PFW.pt (h:PFW X G a ga):PFT X G a ga:=λ A=>(@h A).pt
theorem Dl (h:PFT X G a ga):PFW X G (.BoolOp .And [a] pos) ga:=λ A=>b_ (@h A)
theorem Fg (h:PFT X G a ga):PFW X G (.BoolOp .Or [a] pos) ga:=λ A=>YW (@h A)
theorem GR {rest:List Expr}(ha:PFT X G a ga) (hb:PFW X G (.BoolOp .And (b::rest) pos) gb):PFW X G (.BoolOp .And (a::b::rest) pos) (andT ga gb):=λ A=>ZD (jX (@ha A) (@hb A)) λ σ H Q ⟨ρ,d,o,e,k⟩=>by
 unfold andT at e;split at e
 ·rename_i e1;exact⟨ρ,_,o,e1,λ H1 s1=>iteT ⟨ρ,d,o.mono s1,e,λ H2 s2=>k H2 (s1.trans s2)⟩⟩
 ·rename_i e1;cases e;exact⟨ρ,_,o,e1,λ H1 s1=>iteF (k H1 s1)⟩
 ·cases e
theorem JN {rest:List Expr}(ha:PFT X G a ga) (hb:PFW X G (.BoolOp .Or (b::rest) pos) gb):PFW X G (.BoolOp .Or (a::b::rest) pos) (orT ga gb):=λ A=>ZD (gZ (@ha A) (@hb A)) λ σ H Q ⟨ρ,d,o,e,k⟩=>by
 unfold orT at e;split at e
 ·rename_i e1;cases e;exact⟨ρ,_,o,e1,λ H1 s1=>iteT (k H1 s1)⟩
 ·rename_i e1;exact⟨ρ,_,o,e1,λ H1 s1=>iteF ⟨ρ,d,o.mono s1,e,λ H2 s2=>k H2 (s1.trans s2)⟩⟩
 ·cases e
theorem FJ (ha:PFT X G a ga):PFT X G (.UnaryOp .Not a pos) (notT ga):=λ A=>ZC (jY (@ha A)) λ σ H Q ⟨ρ,d,o,e,k⟩=>by
 unfold notT at e;cases e1:ga ρ with
 | none=>rw[e1] at e;cases e
 | some b=>rw[e1] at e;cases e;exact⟨ρ,b,o,e1,λ H1 s1=>k H1 s1⟩
theorem Kw {α β:Type}{xs:List α}{ys:List β}(h:xs.length=ys.length):xs.isEmpty=ys.isEmpty:=by
 cases xs<;>cases ys<;>simp at h ⊢
theorem Cg (ha:PU X G a fa) (hG:G.K=X.K) (he:∀ whole,isTrue a X.env whole=(do let v <-whole;standAt a.pos;holding [v] (truthy v)):=by intro _;rfl):PFT X G a (λ ρ=>(fa ρ).bind truD):=λ A=>ZC (Ye (@ha A) he) λ σ H Q ⟨ρ,b,o,e,k⟩=>by
 cases e1:fa ρ with
 | none=>simp[e1] at e
 | some d=>
  have e':truD d=some b:=by simpa [e1] using e
  refine⟨ρ,d,o,e1,λ v H1 s1 r1=>⟨b,?_,k H1 s1⟩⟩;rw[<-hG];cases d with
  | non=>rw[r1.non];exact (z0f e').symm
  | bl b'=>rw[r1.bl];exact (z0f e').symm
  | int i=>rw[r1.int];exact (z0f e').symm
  | str y=>
   rw[r1.str];simp only[truD] at e';split at e'
   ·rename_i hz;exact⟨hz,(z0f e').symm⟩
   ·cases e'
  | lst ds=>
   obtain⟨p,xs,rfl,h1,h2⟩:=r1.lst;refine .inl ⟨xs,h1,?_⟩;rw[Kw h2.1];exact (z0f e').symm
  | tup ds=>
   obtain⟨p,xs,rfl,h1,h2⟩:=r1.tup;refine .inr (.inl ⟨xs,h1,?_⟩);rw[Kw h2.1];exact (z0f e').symm
  | _=>cases e'
variable {fs:FA}
theorem Ac:PFA X G [] nilA:=λ A=>iJ Dt λ σ H Q ⟨ρ,ds,o,e,k⟩=>by cases e;exact k [] H (Same.refl H) RepL.nil
theorem Ah (ha:PF X G a fa) (hr:PFA X G es fs) (hs:starEach (a::es) X.env=(false,eval a X.env)::starEach es X.env:=by rfl):PFA X G (a::es) (Aa fa fs):=λ A=>iJ (Bh (@ha A) (@hr A) hs) λ σ H Q ⟨ρ,ds,o,e,k⟩=>by
 unfold Aa at e;cases e1:fa ρ with
 | none=>simp[e1] at e
 | some d=>
  cases e2:fs ρ with
  | none=>simp[e1,e2] at e
  | some ds'=>
   simp[e1,e2] at e;subst e;exact⟨ρ,d,o,e1,λ v H1 s1 r1=>⟨ρ,ds',o.mono s1,e2,λ vs H2 s2 r2=>k _ H2 (s1.trans s2) (.cons (r1.mono (Aq s2)) r2)⟩⟩
theorem Nj {x1} (h:PFA X G es fs):PF X G (.Tuple es x1 pos) (tupF fs):=λ A=>By (QR (@h A)) λ σ H Q ⟨ρ,d,o,e,k⟩=>by
 unfold tupF at e;cases e1:fs ρ with
 | none=>simp[e1] at e
 | some ds=>
  rw[e1] at e;have e':(if ds.length<=sizeLine then some (D.tup ds) else none)=some d:=e;split at e'
  ·rename_i hz;cases e';exact⟨ρ,ds,o,e1,λ vs H1 s1 r1=>⟨by rw[r1.1];exact hz,λ p hp=>k _ _ (s1.trans (Ay hp _)) (Hk (o.mono s1).live hp r1)⟩⟩
  ·cases e'
theorem Cp (h:PFA X G es fs):PF X G (.List es pos) (lstF fs):=λ A=>By (Yk (@h A)) λ σ H Q ⟨ρ,d,o,e,k⟩=>by
 unfold lstF at e;cases e1:fs ρ with
 | none=>simp[e1] at e
 | some ds=>
  rw[e1] at e;have e':(if ds.length<=sizeLine then some (D.lst ds) else none)=some d:=e;split at e'
  ·rename_i hz;cases e';exact⟨ρ,ds,o,e1,λ vs H1 s1 r1=>⟨by rw[r1.1];exact hz,λ p hp=>k _ _ (s1.trans (Ay hp _)) (C_ (o.mono s1).live hp r1)⟩⟩
  ·cases e'
theorem ZK:DG G (rIx G.K) ixD:=by
 intro A H x y dx dy d Q lv rx ry h k;unfold ixD at h;split at h
 ·obtain⟨p,xs,rfl,h1,r1⟩:=rx.lst;obtain⟨v,h2,r2⟩:=r1.atI h;exact .inl ⟨p,xs,_,v,rfl,ry.int,h1,h2,k v H (Same.refl H) r2⟩
 ·obtain⟨p,xs,rfl,h1,r1⟩:=rx.tup;obtain⟨v,h2,r2⟩:=r1.atI h;exact .inr (.inl ⟨p,xs,_,v,rfl,ry.int,h1,h2,k v H (Same.refl H) r2⟩)
 ·split at h
  ·rename_i z i hz;cases e:atI z.cps.toList i with
   | none=>rw[e] at h;cases h
   | some c=>
    rw[e] at h;cases h;exact .inr (.inr ⟨z,i,c,rx.str,ry.int,hz,e,k _ H (Same.refl H) (.str _)⟩)
  ·cases h
 ·cases h
theorem oG (hG:G.K=X.K) (ha:PU X G a fa) (hb:PU X G b fb) (hs:JZ b):PF X G (.Subscript a b pos) (bF ixD fa fb):=
 λ A=>By (gf (r:=rIx X.K) Yo (@ha A) (@hb A) hs) λ _ _ _ h=>Ng (by rw[<-hG];exact ZK) h
def tFO (G:Gx) (A:List Addr) (f:FO):TO:=λ σ H Q=>∃ ρ o,Okp G A σ H ρ/\f ρ=some o/\∀ H',Same H H'->Q o H'
def PFO (X:Cx) (G:Gx) (e:Option Expr) (f:FO):Prop:=∀ ⦃A⦄,PO X e (tFO G A f)
theorem oH {e:Option Expr}{t t':TO}(h:PO X e t) (w:∀ σ H Q,t' σ H Q->t σ H Q):PO X e t':=λ π s σ H Q I q=>h π s σ H Q I (w σ H Q q)
theorem Su (h:PU X G a fa):PFO X G (some a) (someO fa):=λ A=>oH (cI (@h A)) λ σ H Q ⟨ρ,o,ok,e,k⟩=>by
 unfold someO at e;split at e
 ·rename_i i e1;cases e;exact⟨ρ,_,ok,e1,λ v H1 s1 r1=>⟨i,r1.int,k H1 s1⟩⟩
 ·cases e
theorem RepL.cut {ds:List D}(r:RepL G H xs ds) (lo hi:Option Int):RepL G H (cutV xs lo hi) (cutD ds lo hi):=by
 unfold cutV cutD;rw[r.1];exact (r.drop _).take _
end
end PV
theorem L2.Room.unitsW {k:Nat}{A:PySem.Around}(r:L2.Room k A):A.units+190<PySem.cLine:=by have:=r.un;omega
namespace PV
open PySem PySem.Spec L2
open PyProof.Rows hiding St
section
variable {G:Gx}{a b c:Expr}{fa fb fc:FE}{p2:Pos}
section
open Builtin.Str
theorem Sv (n:Nat) (v:Option Int) (d:Nat) (hd:d<=n):(match v with | none=>(d:Int) | some i=>max 0 (min (if i<0 then i+(n:Int) else i) (n:Int)))=(HT.sIx n d v:Int):=by
 cases v with
 | none=>rfl
 | some i=>
  simp only[HT.sIx];split<;>omega
theorem dH (n d:Nat) (v:Option Int) (hd:d<=n):HT.sIx n d v<=n:=by
 cases v with
 | none=>exact hd
 | some i=>simp only[HT.sIx];split<;>omega
theorem Ur (lo hi:Option Int) (n:Nat):strSliceIndices lo hi 1 n=(List.range (HT.sIx n n hi-HT.sIx n 0 lo)).map (λ k=>HT.sIx n 0 lo+k):=by
 have h1:=Sv n lo 0 (z0M _);have h2:=Sv n hi n (z03 _);have hp:((1:Int) > 0):=by decide
 have e:strSliceIndices lo hi 1 n=sliceRange (HT.sIx n 0 lo:Int) (HT.sIx n n hi:Int) 1:=by
  unfold strSliceIndices;simp only[hp,if_true];exact congrFun (congr (congrArg sliceRange h1) h2) 1
 rw[e];unfold sliceRange;simp only[hp,if_true];generalize HT.sIx n 0 lo=a;generalize HT.sIx n n hi=b;have hc:(if (a:Int)<(b:Int) then ((b:Int)-a+1-1)/1 else 0).toNat=b-a:=by
  split
  ·rw[Int.ediv_one];omega
  ·omega
 rw[hc];apply List.map_congr_left;intro k _;omega
theorem Xu (x:Str) (lo hi:Option Int):Txt.slice x lo hi=cutS x lo hi:=by
 have hb:=dH x.length x.length hi (z03 _);have hn:x.cps.toList.length=x.length:=by simp[Str.length]
 unfold Txt.slice cutS cutD;rw[Ur,hn];generalize HT.sIx x.length 0 lo=a at *;generalize HT.sIx x.length x.length hi=b at *;rw[z01,List.length_range];split
 ·rename_i h;simp only[z0q,z0u] at h;have hab:b-a=x.length:=h.2
  by_cases h0:x.length=0
  ·have:x.cps.toList=[]:=List.length_eq_zero_iff.mp (by omega);cases x with
   | mk c=>
    simp at this;subst this;simp
  ·have ha:a=0:=by omega
   subst ha;have:b=x.length:=by omega
   subst this;rw[List.drop_zero,Nat.sub_zero,List.take_of_length_le (by omega)]
 ·congr 1;apply congrArg;apply List.ext_getElem?;intro i;rw[List.filterMap_map];have key:∀ m,m<=b-a->(List.filterMap ((λ k=>x.cps[k]?) ∘ λ k=>a+k) (List.range m))=((x.cps.toList.drop a).take m):=by
   intro m
   induction m with
   | zero=>intro _;simp
   | succ m ih=>
    intro hm;rw[List.range_succ,List.filterMap_append,ih (by omega)];have hlt:a+m<x.cps.size:=by have:x.length=x.cps.size:=rfl;omega
    rw[List.take_succ_eq_append_getElem (by simp;omega)];simp[hlt]
  rw[key _ (z03 _)]
end
def rSlS:V->Option Int->Option Int->Hp->VK->Prop:=λ x lo hi H Q=>∃ z,x=.str z/\z.length<=sizeLine/\Q (.str (Txt.slice z lo hi)) H
theorem j7:SlR X rSlS:=by
 intro π s σ H x v vl vu lo hi sl Q I rx hs pl pu h;obtain⟨z,rfl,hz,q⟩:=h;obtain⟨t,rfl⟩:=rx;obtain⟨o,e1,e2,e3⟩:=hs;have fin:∀ t' k,EP X π σ Q (.str (Txt.slice z lo hi) t') { s with toks:=k }:=λ t' k=>⟨.str _,H,I.tok _,⟨t',rfl⟩,q⟩;have hl:=z0j (Txt.slice_le z lo hi) hz;refine⟨"str",_,PySem.F.slot_str_getitem.lookup,typeIs_str _ _ _,?_⟩;cases pl with
 | none=>
  cases pu with
  | none=>exact wpAny_getItem_str_slice (l:=none) (u:=none) (st:=none) ⟨o,e1,e2,e3⟩ rfl (post_val_or_str ⟨hl,fin⟩)
  | int j uj=>exact wpAny_getItem_str_slice (l:=none) (u:=some (j,uj)) (st:=none) ⟨o,e1,e2,e3⟩ rfl (post_val_or_str ⟨hl,fin⟩)
 | int i ui=>
  cases pu with
  | none=>exact wpAny_getItem_str_slice (l:=some (i,ui)) (u:=none) (st:=none) ⟨o,e1,e2,e3⟩ rfl (post_val_or_str ⟨hl,fin⟩)
  | int j uj=>exact wpAny_getItem_str_slice (l:=some (i,ui)) (u:=some (j,uj)) (st:=none) ⟨o,e1,e2,e3⟩ rfl (post_val_or_str ⟨hl,fin⟩)
def rSl (K:zFr):V->Option Int->Option Int->Hp->VK->Prop:=λ x lo hi H Q=>rSlL K x lo hi H Q∨(rSlT K x lo hi H Q∨rSlS x lo hi H Q)
theorem j8:SlR X (rSl X.K):=cP.or (jj.or j7)
theorem ZL {lo hi:Option Expr}{gl gh:FO}(hG:G.K=X.K) (ha:PU X G a fa) (hl:PFO X G lo gl) (hh:PFO X G hi gh):PF X G (.Subscript a (.Slice lo hi none p2) pos) (slF fa gl gh):=λ A=>By (Yn (j8 (X:=X)) (@ha A) (@hl A) (@hh A)) λ σ H Q ⟨ρ,d,o,e,k⟩=>by
 unfold slF at e;cases e1:fa ρ with
 | none=>simp[e1] at e
 | some x=>
  cases e2:gl ρ with
  | none=>simp[e1,e2] at e
  | some l=>
   cases e3:gh ρ with
   | none=>simp[e1,e2,e3] at e
   | some h=>
    have e':slD x l h=some d:=by simpa [e1,e2,e3] using e
    refine⟨ρ,x,o,e1,λ v H1 s1 r1=>⟨ρ,l,o.mono s1,e2,λ H2 s2=>⟨ρ,h,(o.mono s1).mono s2,e3,λ H3 s3=>?_⟩⟩⟩;have r3:=(r1.mono s2).mono s3;have o3:=((o.mono s1).mono s2).mono s3;have s0:=s1.trans (s2.trans s3);unfold slD at e';split at e'
    ·cases e';obtain⟨p,xs,rfl,h1,r⟩:=r3.lst;exact .inl ⟨p,xs,rfl,by rw[<-hG];exact h1,λ q hq=>k _ _ (s0.trans (Ay hq _)) (C_ o3.live hq (r.cut _ _))⟩
    ·split at e'
     ·cases e'
     ·rename_i hw;cases e';obtain⟨p,xs,rfl,h1,r⟩:=r3.tup;exact .inr (.inl ⟨p,xs,rfl,by rw[<-hG];exact h1,by rw[r.1];exact hw,λ q hq=>k _ _ (s0.trans (Ay hq _)) (Hk o3.live hq (r.cut _ _))⟩)
    ·split at e'
     ·rename_i hz;cases e';refine .inr (.inr ⟨_,r3.str,hz,?_⟩);rw[Xu];exact k _ _ s0 (.str _)
     ·cases e'
    ·cases e'
theorem RK {u:V}{d:D}(r:RepT G A H v d) (h:flV d=some u):v=u/\HN v=true:=by
 cases d with
 | non=>cases h;rw[r.non];exact⟨rfl,rfl⟩
 | bl b=>cases h;rw[r.bl];exact⟨rfl,rfl⟩
 | int b=>cases h;rw[r.int];exact⟨rfl,rfl⟩
 | str b=>cases h;rw[r.str];exact⟨rfl,rfl⟩
 | _=>cases h
theorem Sw {H:Hp}:∀ {ds:List D}{xs us:List V},RepL G H xs ds->flVs ds=some us->xs=us/\xs.all HN=true
 | [],xs,us,r,h=>by cases h;rw[r.nil_inv];exact⟨rfl,rfl⟩
 | d::ds,xs,us,r,h=>by
  obtain⟨x,ys,rfl,r1,r2⟩:=r.uncons;unfold flVs at h;cases e1:flV d with
  | none=>simp[e1] at h
  | some v=>
   cases e2:flVs ds with
   | none=>simp[e1,e2] at h
   | some vs=>
    simp[e1,e2] at h;subst h;have q:Rep G (hid [] H) x d:=r1.mono λ b o z=>z;obtain⟨z1,z2⟩:=RK (A:=[]) (.inl q) e1;obtain⟨z3,z4⟩:=Sw r2 e2;subst z1;subst z3;exact⟨rfl,by rw[List.all_cons,z2,z4];rfl⟩
def rInA (K:zFr) (neg:Bool):R2:=λ x y H Q=>rIn K neg x y H Q∨∃ i j,x=.str i/\y=.str j/\Q (.bl (if neg then !(!(Builtin.Str.occurrences j i 0 j.length 1).isEmpty) else !(Builtin.Str.occurrences j i 0 j.length 1).isEmpty)) H
theorem ZM:OpR X (compareOp .In) (rInA X.K false):=Xm.or Xj
theorem Xv:OpR X (compareOp .NotIn) (rInA X.K true):=QX.or QQ
theorem j9 (neg:Bool):DG G (rInA G.K neg) (inD neg):=by
 intro A H x y dx dy d Q lv rx ry h k;have seq:∀ {ds:List D}{p:Addr}{xs:List V},y=.ref p->(SqL G.K H p xs∨SqT G.K H p xs)->RepL G (hid A H) xs ds->((flV dx).bind λ v=>(flVs ds).map λ vs=>D.bl (if neg then !inV v vs else inV v vs))=some d->rIn G.K neg x y H Q:=λ {ds p xs} ey hq r h=>by
  cases e1:flV dx with
  | none=>simp[e1] at h
  | some v=>
   cases e2:flVs ds with
   | none=>simp[e1,e2] at h
   | some vs=>
    rw[e1,e2] at h;cases h;obtain⟨z1,z2⟩:=RK rx e1;obtain⟨z3,z4⟩:=Sw r e2;subst z1;subst z3;exact⟨p,xs,ey,hq,z2,z4,k _ H (Same.refl H) (.bl _)⟩
 unfold inD at h;split at h
 ·cases h;exact .inr ⟨_,_,rx.str,ry.str,k _ H (Same.refl H) (.bl _)⟩
 ·obtain⟨p,xs,e,h1,r⟩:=ry.lst;exact .inl (seq e (.inl h1) r h)
 ·obtain⟨p,xs,e,h1,r⟩:=ry.tup;exact .inl (seq e (.inr h1) r h)
 ·cases h
def eAt (f:D->D->Option Bool) (xs ys:List D) (j:Nat):Bool:=match xs[j]?,ys[j]? with | some x,some y=>(f x y).getD false | _,_=>false
theorem KQ {f:D->D->Option Bool}:∀ {xs ys:List D}{b:Bool},allO f xs ys=some b->xs.length=ys.length/\(∀ (j:Nat) x y,xs[j]?=some x->ys[j]?=some y->f x y=some (eAt f xs ys j))/\b=(List.range xs.length).all (eAt f xs ys)
 | [],[],b,h=>by cases h;exact⟨rfl,λ j x y h=>by simp at h,rfl⟩
 | [],_::_,b,h=>by cases h
 | _::_,[],b,h=>by cases h
 | x::xs,y::ys,b,h=>by
  unfold allO at h;split at h
  ·rename_i a c e1 e2;cases h;obtain⟨h1,h2,h3⟩:=KQ e2;refine⟨by simp[h1],λ j u v hu hv=>?_,?_⟩
   ·cases j with
    | zero=>simp at hu hv;subst hu;subst hv;rw[e1];simp[eAt,e1]
    | succ j=>
     have:=h2 j u v (by simpa using hu) (by simpa using hv);rw[this];simp[eAt]
   ·rw[z0o,List.range_succ_eq_map,List.all_cons,List.all_map];have z:eAt f (x::xs) (y::ys) 0=a:=by simp[eAt,e1]
    rw[z,h3];rfl
  ·cases h
theorem ZP {u:V}(h:HN u=true):eqV u u=true:=by
 cases u<;>simp[eqV]<;>cases h
theorem Mh {d:D}{u:V}(r:Rep G H v d) (h:flV d=some u):v=u/\HN v=true:=RK (A:=[]) (.inl (r.mono λ b o z=>by rw[Ao List.not_mem_nil];exact z)) h
section
theorem Sy (I:Inv X π σ H s) (hG:G.K=X.K):∀ (n:Nat) {x y:D}{v:V}{b:Bool},eqK n x y=some b->Rep G H v x->Rep G H v y->b=true:=by
 have flat:∀ {x y:D}{v:V}{b:Bool},flD x y=some b->Rep G H v x->Rep G H v y->b=true:=λ {x y v b} h rx ry=>by
  unfold flD at h;cases e1:flV x with
  | none=>simp[e1] at h
  | some u=>
   cases e2:flV y with
   | none=>simp[e1,e2] at h
   | some w=>
    simp[e1,e2] at h;obtain⟨z1,z2⟩:=Mh rx e1;obtain⟨z3,_⟩:=Mh ry e2;rw[<-h,<-z1,<-z3];exact ZP z2
 intro n
 induction n with
 | zero=>intro x y v b h rx ry;exact flat h rx ry
 | succ n ih=>
  have items:∀ {xs:List V}{ds es:List D}{b:Bool},allO (eqK n) ds es=some b->RepL G H xs ds->RepL G H xs es->b=true:=λ {xs ds es b} h r1 r2=>by
   obtain⟨h1,h2,h3⟩:=KQ h;rw[h3,z0C];intro j hj;have hj':j<ds.length:=z0R.mp hj;have hx:xs[j]?=some (xs[j]'(by rw[r1.1];exact hj')):=by simp[r1.1,hj']
   have hd:ds[j]?=some ds[j]:=by simp[hj']
   have he:es[j]?=some (es[j]'(by omega)):=z0D (by omega);exact ih (h2 j _ _ hd he) (r1.2 j _ _ hx hd) (r2.2 j _ _ hx he)
  intro x y v b h rx ry;unfold eqK eqS at h;split at h
  ·split at h
   ·cases rx with
    | lst h1 l1 r1=>
     cases ry with
     | lst h2 l2 r2=>
      have e:=I.list_inj (by rw[<-hG];exact h1) (by rw[<-hG];exact h2);subst e;exact items h ⟨l1,r1⟩ ⟨l2,r2⟩
   ·rename_i hne;cases rx with
    | lst h1 l1 r1=>
     cases ry with
     | lst h2 l2 r2=>
      have e:=I.list_inj (by rw[<-hG];exact h1) (by rw[<-hG];exact h2);subst e;exact absurd (l1.symm.trans l2) hne
  ·split at h
   ·cases rx with
    | tup h1 l1 r1=>
     cases ry with
     | tup h2 l2 r2=>
      have e:=I.tuple_inj (by rw[<-hG];exact h1) (by rw[<-hG];exact h2);subst e;exact items h ⟨l1,r1⟩ ⟨l2,r2⟩
   ·cases h
  ·exact flat h rx ry
theorem Gm {A:Around}{n:Nat}{ds es:List D}{b:Bool}{jts:List Value}(ih:∀ {x y:D}{v w:V}{u1 u2:Value}{b:Bool},eqK n x y=some b->Rep G H v x->Rep G H w y->RelV v u1->RelV w u2->SeqAt.EqAt A s u1 u2 b)
  (h:allO (eqK n) ds es=some b) (r1:RepL G H xs ds) (r2:RepL G H ys es) (v1:Vals xs its) (v2:Vals ys jts) :
  its.toArray.size=jts.toArray.size/\b=(List.range its.toArray.size).all (eAt (eqK n) ds es)/\∀ j (h1:j<its.toArray.size) (h2:j<jts.toArray.size),SeqAt.EqAt A s its.toArray[j] jts.toArray[j] (eAt (eqK n) ds es j):=by
 obtain⟨h1,h2,h3⟩:=KQ h;have l1:=v1.length;have l2:=v2.length;have q1:=r1.1;have q2:=r2.1;have z1:its.toArray.size=ds.length:=by rw[z0g];omega
 refine⟨by rw[z0g,z0g];omega,by rw[z1];exact h3,λ j j1 j2=>?_⟩;rw[z0g] at j1 j2;have jx:j<xs.length:=by omega
 have jy:j<ys.length:=by omega
 have hx:xs[j]?=some xs[j]:=by simp[jx]
 have hy:ys[j]?=some ys[j]:=by simp[jy]
 have hd:ds[j]?=some (ds[j]'(by omega)):=z0D (by omega);have he:es[j]?=some (es[j]'(by omega)):=z0D (by omega);obtain⟨u,eu,ru⟩:=v1.get hx;obtain⟨w,ew,rw'⟩:=v2.get hy;have a1:its.toArray[j]=u:=by simpa [z0D j1] using eu
 have a2:jts.toArray[j]=w:=by simpa [z0D j2] using ew
 rw[a1,a2];exact ih (h2 j _ _ hd he) (r1.2 j _ _ hx hd) (r2.2 j _ _ hy he) ru rw'
theorem RL {ds es:List D}{jts:List Value}(h:ds.length≠es.length) (r1:RepL G H xs ds) (r2:RepL G H ys es) (v1:Vals xs its) (v2:Vals ys jts):(its.toArray.size != jts.toArray.size)=true:=by
 have l1:=v1.length;have l2:=v2.length;have q1:=r1.1;have q2:=r2.1;rw[z0g,z0g];exact bne_iff_ne.mpr (by omega)
theorem KR (I:Inv X π σ H s) (hG:G.K=X.K):∀ (n:Nat) (A:Around),A.units+n<cLine->∀ {x y:D}{v w:V}{u1 u2:Value}{b:Bool},eqK n x y=some b->Rep G H v x->Rep G H w y->RelV v u1->RelV w u2->SeqAt.EqAt A s u1 u2 b:=by
 have flat:∀ {A:Around}{x y:D}{v w:V}{u1 u2:Value}{b:Bool},flD x y=some b->Rep G H v x->Rep G H w y->RelV v u1->RelV w u2->SeqAt.EqAt A s u1 u2 b:=λ {A x y v w u1 u2 b} h rx ry q1 q2=>by
  unfold flD at h;cases e1:flV x with
  | none=>simp[e1] at h
  | some u=>
   cases e2:flV y with
   | none=>simp[e1,e2] at h
   | some w=>
    simp[e1,e2] at h;obtain⟨z1,z2⟩:=Mh rx e1;obtain⟨z3,z4⟩:=Mh ry e2;rw[<-h,<-z1,<-z3];exact Yp q1 q2 z2 z4
 intro n
 induction n with
 | zero=>intro A hu x y v w u1 u2 b h rx ry q1 q2;exact flat h rx ry q1 q2
 | succ n ih=>
  intro A hu x y v w u1 u2 b h rx ry q1 q2;have h':=h;have hu1:A.in1.units+n<cLine:=by show A.units+1+n<cLine;omega
  have hu0:A.units<cLine:=by omega
  unfold eqK eqS at h;split at h
  ·cases rx with
   | @lst a _ _ h1 l1 r1=>
    cases ry with
    | @lst c _ _ h2 l2 r2=>
     obtain rfl:u1=.ref a:=q1;obtain rfl:u2=.ref c:=q2;obtain⟨its,v1,p1,_⟩:=I.list (by rw[<-hG];exact h1);obtain⟨jts,v2,p2,_⟩:=I.list (by rw[<-hG];exact h2)
     by_cases hac:a=c
     ·subst hac;have:=Sy I hG (n+1) h' (.lst h1 l1 r1) (.lst h2 l2 r2);subst this;exact SeqAt.EqAt.same _
     ·split at h
      ·obtain⟨z1,z2,z3⟩:=Gm (λ q=>ih A.in1 hu1 q) h ⟨l1,r1⟩ ⟨l2,r2⟩ v1 v2;rw[z2];exact SeqAt.EqAt.of_refs hac (SeqAt.RcAt.lists p1.isList p2.isList z1 hu0 z3)
      ·rename_i hne;cases h;exact SeqAt.EqAt.of_refs hac (SeqAt.RcAt.lists_lengths p1.isList p2.isList (RL hne ⟨l1,r1⟩ ⟨l2,r2⟩ v1 v2) hu0)
  ·cases rx with
   | @tup a _ _ h1 l1 r1=>
    cases ry with
    | @tup c _ _ h2 l2 r2=>
     obtain rfl:u1=.ref a:=q1;obtain rfl:u2=.ref c:=q2;obtain⟨its,v1,p1,_⟩:=I.tuple (by rw[<-hG];exact h1);obtain⟨jts,v2,p2,_⟩:=I.tuple (by rw[<-hG];exact h2)
     by_cases hac:a=c
     ·subst hac;have:=Sy I hG (n+1) h' (.tup h1 l1 r1) (.tup h2 l2 r2);subst this;exact SeqAt.EqAt.same _
     ·split at h
      ·obtain⟨z1,z2,z3⟩:=Gm (λ q=>ih A.in1 hu1 q) h ⟨l1,r1⟩ ⟨l2,r2⟩ v1 v2;have q:=SeqAt.RcAt.tuples (show s.heap.IsTuple a its.toArray from p1) (show s.heap.IsTuple c jts.toArray from p2) hu0 z3;rw[z1,Nat.min_self,z1j,Bool.and_true,<-z1,<-z2] at q;exact SeqAt.EqAt.of_refs hac q
      ·cases h
  ·exact flat h rx ry q1 q2
end
def rEqP (G:Gx) (neg:Bool):R2:=λ x y H Q=>∃ (A:List Addr) (ds es:List D) (b:Bool),eqvD (.lst ds) (.lst es)=some b/\((RepT G A H x (.lst ds)/\RepT G A H y (.lst es))∨(ds.length=es.length/\RepT G A H x (.tup ds)/\RepT G A H y (.tup es)))/\Q (.bl (if neg then !b else b)) H
theorem j_ (hG:G.K=X.K) (hu:X.A.units+190<cLine):OpR X (compareOp .Eq) (rEqP G false):=by
 intro π s σ H x y v u Q I rx ry h;obtain⟨A,ds,es,b,e,hr,k⟩:=h;have fin:EP X π σ Q (.bool b) s:=⟨.bl b,H,I,rfl,k⟩;simp only[eqvD] at e
 rcases hr with ⟨r1,r2⟩ | ⟨hl,r1,r2⟩
 ·obtain⟨a,xs,rfl,h1,q1⟩:=r1.lst;obtain⟨c,ys,rfl,h2,q2⟩:=r2.lst;cases rx;cases ry;obtain⟨its,v1,p1,_⟩:=I.list (by rw[<-hG];exact h1);obtain⟨jts,v2,p2,_⟩:=I.list (by rw[<-hG];exact h2);split at e
  ·obtain⟨z1,z2,z3⟩:=Gm (λ q=>KR I hG 180 X.A.in1 (by show X.A.units+1+180<cLine;omega) q) e (q1.mono Ai) (q2.mono Ai) v1 v2;exact SeqAt.RcAt.lists p1.isList p2.isList z1 (by omega) z3 _ _ _ _ (by rw[<-z2];exact fin)
  ·rename_i hne;cases e;exact SeqAt.RcAt.lists_lengths p1.isList p2.isList (RL hne q1 q2 v1 v2) (by omega) _ _ _ _ fin
 ·obtain⟨a,xs,rfl,h1,q1⟩:=r1.tup;obtain⟨c,ys,rfl,h2,q2⟩:=r2.tup;cases rx;cases ry;obtain⟨its,v1,p1,_⟩:=I.tuple (by rw[<-hG];exact h1);obtain⟨jts,v2,p2,_⟩:=I.tuple (by rw[<-hG];exact h2);rw[if_pos hl] at e;obtain⟨z1,z2,z3⟩:=Gm (λ q=>KR I hG 180 X.A.in1 (by show X.A.units+1+180<cLine;omega) q) e (q1.mono Ai) (q2.mono Ai) v1 v2;have q:=SeqAt.RcAt.tuples (show s.heap.IsTuple a its.toArray from p1) (show s.heap.IsTuple c jts.toArray from p2) (by omega) z3;rw[z1,Nat.min_self,z1j,Bool.and_true,<-z1,<-z2] at q;exact q _ _ _ _ fin
theorem kE (hG:G.K=X.K) (hu:X.A.units+190<cLine):OpR X (compareOp .NotEq) (rEqP G true):=by
 intro π s σ H x y v u Q I rx ry h;obtain⟨A,ds,es,b,e,hr,k⟩:=h;have fin:EP X π σ Q (.bool (!b)) s:=⟨.bl (!b),H,I,rfl,k⟩;simp only[eqvD] at e
 rcases hr with ⟨r1,r2⟩ | ⟨hl,r1,r2⟩
 ·obtain⟨a,xs,rfl,h1,q1⟩:=r1.lst;obtain⟨c,ys,rfl,h2,q2⟩:=r2.lst;cases rx;cases ry;obtain⟨its,v1,p1,_⟩:=I.list (by rw[<-hG];exact h1);obtain⟨jts,v2,p2,_⟩:=I.list (by rw[<-hG];exact h2);split at e
  ·obtain⟨z1,z2,z3⟩:=Gm (λ q=>KR I hG 180 X.A.in1 (by show X.A.units+1+180<cLine;omega) q) e (q1.mono Ai) (q2.mono Ai) v1 v2;exact SeqAt.RcNeAt.lists p1.isList p2.isList z1 (by omega) z3 _ _ _ _ (by rw[<-z2];exact fin)
  ·rename_i hne;cases e;exact SeqAt.RcNeAt.lists_lengths p1.isList p2.isList (RL hne q1 q2 v1 v2) (by omega) _ _ _ _ fin
 ·obtain⟨a,xs,rfl,h1,q1⟩:=r1.tup;obtain⟨c,ys,rfl,h2,q2⟩:=r2.tup;cases rx;cases ry;obtain⟨its,v1,p1,_⟩:=I.tuple (by rw[<-hG];exact h1);obtain⟨jts,v2,p2,_⟩:=I.tuple (by rw[<-hG];exact h2);rw[if_pos hl] at e;obtain⟨z1,z2,z3⟩:=Gm (λ q=>KR I hG 180 X.A.in1 (by show X.A.units+1+180<cLine;omega) q) e (q1.mono Ai) (q2.mono Ai) v1 v2;have q:=SeqAt.RcNeAt.tuples (show s.heap.IsTuple a its.toArray from p1) (show s.heap.IsTuple c jts.toArray from p2) (by omega) z3;rw[z1,Nat.min_self,z1j,Bool.and_true,<-z1,<-z2] at q;exact q _ _ _ _ fin
def rEqA (G:Gx) (neg:Bool):R2:=λ x y H Q=>(λ x y H Q=>scal x y=true/\Q (.bl (if neg then !decide (x=y) else decide (x=y))) H) x y H Q∨rEqP G neg x y H Q
theorem Us (hG:G.K=X.K) (hu:X.A.units+190<cLine):OpR X (compareOp .Eq) (rEqA G false):=nQ.or (j_ hG hu)
theorem ZQ (hG:G.K=X.K) (hu:X.A.units+190<cLine):OpR X (compareOp .NotEq) (rEqA G true):=nR.or (kE hG hu)
theorem RM {α β:Type} [DecidableEq α] [DecidableEq β] {f:α->β}(h:∀ a b,f a=f b->a=b) (a b:α):decide (f a=f b)=decide (a=b):=by
 by_cases e:a=b
 ·subst e;simp
 ·rw[z0d e,z0d λ z=>e (h a b z)]
theorem RN (neg:Bool):DG G (rEqA G neg) (eqD neg):=by
 intro A H x y dx dy d Q lv rx ry h k;unfold eqD at h;cases e:eqvD dx dy with
 | none=>simp[e] at h
 | some b=>
  simp only[e,z0w] at h;cases h;unfold eqvD at e;split at e
  ·cases e;rw[rx.int,ry.int];refine .inl ⟨rfl,?_⟩;rw[RM (f:=V.int) (λ a b z=>by cases z;rfl)];exact k _ H (Same.refl H) (.bl _)
  ·cases e;rw[rx.str,ry.str];refine .inl ⟨rfl,?_⟩;rw[RM (f:=V.str) (λ a b z=>by cases z;rfl)];exact k _ H (Same.refl H) (.bl _)
  ·cases e;rw[rx.bl,ry.bl];refine .inl ⟨rfl,?_⟩;rw[RM (f:=V.bl) (λ a b z=>by cases z;rfl)];exact k _ H (Same.refl H) (.bl _)
  ·exact .inr ⟨A,_,_,b,e,.inl ⟨rx,ry⟩,k _ H (Same.refl H) (.bl _)⟩
  ·split at e
   ·rename_i hl;exact .inr ⟨A,_,_,b,(by simp only[eqvD];rw[if_pos hl];exact e),.inr ⟨hl,rx,ry⟩,k _ H (Same.refl H) (.bl _)⟩
   ·cases e
  ·cases e
def SndC (G:Gx) (r:List V->Hp->VK->Prop) (g:D->Option D):Prop:=∀ (A:List Addr) (H:Hp) (x:V) (dx d:D) (Q:VK),(∀ a∈A,Nt (H a))->RepT G A H x dx->g dx=some d->(∀ v H',Same H H'->Rep G (hid A H') v d->Q v H')->r [x] H Q
def ZR (G:Gx) (r:List V->Hp->VK->Prop) (g:D->D->Option D):Prop:=∀ (A:List Addr) (H:Hp) (x y:V) (dx dy d:D) (Q:VK),(∀ a∈A,Nt (H a))->RepT G A H x dx->RepT G A H y dy->g dx dy=some d->(∀ v H',Same H H'->Rep G (hid A H') v d->Q v H')->r [x,y] H Q
theorem Mi {g:D->Option D}{ρ:Rho}{d:D}(h:uF g fa ρ=some d):∃ x,fa ρ=some x/\g x=some d:=by
 unfold uF at h;cases e:fa ρ with
 | none=>simp[e] at h
 | some x=>exact⟨x,rfl,by simpa [e] using h⟩
theorem ZS {g:D->Option D}(s:SndC G r g) {A:List Addr}{σ:St}{H:Hp}{Q:VK}(h:tF G A (uF g fa) σ H Q):tCB r (Kr (tT G A fa) tNil) σ H Q:=by
 obtain⟨ρ,d,o,e,k⟩:=h;obtain⟨x,e1,e2⟩:=Mi e;exact⟨ρ,x,o,e1,λ v H1 s1 r1=>s A H1 v x d Q (o.mono s1).live r1 e2 λ w H2 s2 r2=>k w H2 (s1.trans s2) r2⟩
theorem dI {g:D->D->Option D}(s:ZR G r g) {A:List Addr}{σ:St}{H:Hp}{Q:VK}(h:tF G A (bF g fa fb) σ H Q):tCB r (Kr (tT G A fa) (Kr (tT G A fb) tNil)) σ H Q:=by
 obtain⟨ρ,d,o,e,k⟩:=h;obtain⟨x,y,e1,e2,e3⟩:=V6 e;exact⟨ρ,x,o,e1,λ v H1 s1 r1=>⟨ρ,y,o.mono s1,e2,λ u H2 s2 r2=>s A H2 v u x y d Q ((o.mono s1).mono s2).live (r1.mono s2) r2 e3 λ w H3 s3 r3=>k w H3 (s1.trans (s2.trans s3)) r3⟩⟩
theorem CG {x:Str}{p:Pos}{id:String}{g:D->Option D}(hc:Dn X (.builtin id) r) (s:SndC G r g) (hg:Gl X x) (hm:X.mg x=none) (hv:bootBuiltins x=some (.builtin id)) (ha:PU X G a fa)
  (hn:x≠"__name__":=by decide) (hdb:(x==("__debug__":Str))=false:=by decide) (he:starEach [a] X.env=[(false,eval a X.env)]:=by rfl):PF X G (.Call (.Name x p) [a] [] pos) (uF g fa):=
 λ A=>By (JW hc hg hm hv (Bh (@ha A) Dt he) hn hdb he rfl) λ _ _ _ h=>ZS s h
theorem ZV {x:Str}{p:Pos}{id:String}{g:D->D->Option D}(hc:Dn X (.builtin id) r) (s:ZR G r g) (hg:Gl X x) (hm:X.mg x=none) (hv:bootBuiltins x=some (.builtin id)) (ha:PU X G a fa) (hb:PU X G b fb)
  (hn:x≠"__name__":=by decide) (hdb:(x==("__debug__":Str))=false:=by decide) (he:starEach [a,b] X.env=(false,eval a X.env)::starEach [b] X.env:=by rfl) (he2:starEach [b] X.env=[(false,eval b X.env)]:=by rfl):PF X G (.Call (.Name x p) [a,b] [] pos) (bF g fa fb):=
 λ A=>By (JW hc hg hm hv (Bh (@ha A) (Bh (@hb A) Dt he2) he) hn hdb he (by rw[he2];rfl)) λ _ _ _ h=>dI s h
theorem Ii {x:Str}{p:Pos}{T:String}{g:D->Option D}(hc:Dn X (.type T) r) (s:SndC G r g) (hg:Gl X x) (hm:X.mg x=none) (hv:bootBuiltins x=some (.type T)) (ha:PU X G a fa)
  (hn:x≠"__name__":=by decide) (hdb:(x==("__debug__":Str))=false:=by decide) (he:starEach [a] X.env=[(false,eval a X.env)]:=by rfl):PF X G (.Call (.Name x p) [a] [] pos) (uF g fa):=
 λ A=>By (PB hc hg hm hv (Bh (@ha A) Dt he) hn hdb he rfl) λ _ _ _ h=>ZS s h
theorem V7:SndC G (λ xs H Q=>∃ x n,xs=[x]/\LenV G.K x H n/\Q (.int n) H) lenD:=by
 intro A H x dx d Q lv rx h k;unfold lenD at h;split at h
 ·split at h
  ·rename_i hz;cases h;rw[rx.str];exact⟨_,_,rfl,⟨hz,rfl⟩,k _ H (Same.refl H) (.int _)⟩
  ·cases h
 ·cases h;obtain⟨p,xs,rfl,h1,r⟩:=rx.lst;exact⟨_,_,rfl,.inl ⟨xs,h1,rfl⟩,by rw[r.1];exact k _ H (Same.refl H) (.int _)⟩
 ·cases h;obtain⟨p,xs,rfl,h1,r⟩:=rx.tup;exact⟨_,_,rfl,.inr ⟨xs,h1,rfl⟩,by rw[r.1];exact k _ H (Same.refl H) (.int _)⟩
 ·cases h
theorem Br (hG:G.K=X.K):Dn X (.builtin "len") (λ xs H Q=>∃ x n,xs=[x]/\LenV G.K x H n/\Q (.int n) H):=by rw[hG];exact Yg
theorem ZW:ZR G (λ xs H Q=>∃ i j,xs=[.int i,.int j]/\Q (.int (if j > i then j else i)) H) maxD:=by
 intro A H x y dx dy d Q lv rx ry h k;obtain⟨i,j,rfl,rfl,h⟩:=Nh h;cases h;exact⟨i,j,by rw[rx.int,ry.int],k _ H (Same.refl H) (.int _)⟩
theorem ZX:SndC G (λ xs H Q=>∃ p ys,xs=[.ref p]/\(SqL G.K H p ys∨SqT G.K H p ys)/\∀ l,H l=none->Q (.ref l) (upd H l (.lst ys))) Yy:=by
 intro A H x dx d Q lv rx h k;unfold Yy at h;split at h
 ·cases h;obtain⟨p,xs,rfl,h1,r⟩:=rx.lst;exact⟨p,xs,rfl,.inl h1,λ l hl=>k _ _ (Ay hl _) (C_ lv hl r)⟩
 ·cases h;obtain⟨p,xs,rfl,h1,r⟩:=rx.tup;exact⟨p,xs,rfl,.inr h1,λ l hl=>k _ _ (Ay hl _) (C_ lv hl r)⟩
 ·cases h
theorem V8:SndC G (λ xs H Q=>(∃ i,xs=[.int i]/\Q (.int i) H)∨∃ k,xs=[.bl k]/\Q (.int (if k then 1 else 0)) H) intD:=by
 intro A H x dx d Q lv rx h k;unfold intD at h;split at h
 ·cases h;exact .inl ⟨_,by rw[rx.int],k _ H (Same.refl H) (.int _)⟩
 ·cases h;exact .inr ⟨_,by rw[rx.bl],k _ H (Same.refl H) (.int _)⟩
 ·cases h
theorem kI (ha:PU X G a fa):PF X G (.UnaryOp .USub a pos) (uF negD fa):=λ A=>By (nP jg (@ha A)) λ σ H Q ⟨ρ,d,o,e,k⟩=>by
 obtain⟨x,e1,e2⟩:=Mi e;refine⟨ρ,x,o,e1,λ v H1 s1 r1=>?_⟩;unfold negD at e2;split at e2
 ·cases e2;exact⟨_,r1.int,k _ H1 s1 (.int _)⟩
 ·cases e2
end
def iM (G:Gx) (F2 H H':Hp) (x:V) (d:D):Prop:=Same H H'/\∀ B:List Addr,(∀ a∈B,Nt (H a))->Same F2 (hid B H)->Rep G (hid B H') x d
theorem Nk {G:Gx}{x:V}{d:D}(h:H'=H/\Rep G F2 x d):iM G F2 H H' x d:=by
 obtain⟨rfl,r⟩:=h;exact⟨Same.refl _,λ B _ sm=>r.mono sm⟩
structure Src (G:Gx) (J:It) (ds:List D) (F1 F2:Hp):Prop where
 go:∀ i H,Same F1 H->i<ds.length->J.go i H
 yld:∀ i H x H' d,Same F1 H->ds[i]?=some d->J.yld i H x H'->iM G F2 H H' x d
 stop:∀ i H,Same F1 H->ds.length<=i->J.stop i H
def tI (G:Gx) (A:List Addr) (top:Bool) (f:FI):TI:=λ σ H R=>∃ ρ ds,Okp G A σ H ρ/\f ρ=some ds/\∀ J H1,Same H H1->Src G J ds (if top then H1 else hid A H1) (hid A H1)->R J H1
def PFI (X:Cx) (G:Gx) (top:Bool) (tg e:Expr) (f:FI):Prop:=∀ ⦃A⦄,PI X tg e (tI G A top f)
theorem Pb {t t':TI}(h:PI X tg e t) (w:∀ σ H Q,t' σ H Q->t σ H Q):PI X tg e t':=λ π s σ H Q I q=>h π s σ H Q I (w σ H Q q)
theorem piOr {t t':TI}(h:PI X tg e t) (h':PI X tg e t'):PI X tg e (λ σ H R=>t σ H R∨t' σ H R):=λ π s σ H Q I q=>by
 rcases q with q | q
 ·exact h π s σ H Q I q
 ·exact h' π s σ H Q I q
section
variable {G:Gx}{a b c:Expr}{fa fb fc:FE}{p2:Pos}
theorem dJ {ds:List D}(h:SqT G.K F1 p xs) (r:RepL G F2 xs ds):Src G (Itt G.K p) ds F1 F2 where
 go:=λ i H s hi=>⟨xs,xs[i]'(by rw[r.1];exact hi),Fp s h,by simp[r.1,hi]⟩
 yld:=λ i H x H' d s hd y=>Nk ⟨y.1,r.2 i x d (y.2 xs (Fp s h)) hd⟩
 stop:=λ i H s hi=>⟨xs,Fp s h,by rw[r.1];exact hi⟩
theorem dM (hG:G.K=X.K) (h:PF X G a fa):PFI X G false tg a (seqI fa):=λ A=>Pb (piOr (cC (@h A)) (jc (@h A))) λ σ H R ⟨ρ,ds,o,e,k⟩=>by
 unfold seqI at e;split at e
 ·rename_i ds' e1;cases e;refine .inl ⟨ρ,_,o,e1,λ v H1 s1 r1=>?_⟩;cases r1 with
  | lst h l r=>exact⟨_,rfl,⟨_,by rw[<-hG];exact Ai.seq h⟩,by rw[<-hG];exact k _ H1 s1 { go:=λ i H s hi=>⟨_,_,s.seq h,by simp[l,hi];rfl⟩,yld:=λ i H x H' d s hd y=>Nk ⟨y.1,r i x d (y.2 _ (s.seq h)) hd⟩,stop:=λ i H s hi=>⟨_,s.seq h,by rw[l];exact hi⟩ }⟩
 ·rename_i ds' e1;cases e;refine .inr ⟨ρ,_,o,e1,λ v H1 s1 r1=>?_⟩;cases r1 with
  | tup h l r=>exact⟨_,rfl,⟨_,by rw[<-hG];exact Fp Ai h⟩,by rw[<-hG];exact k _ H1 s1 (dJ h ⟨l,r⟩)⟩
 ·cases e
theorem ZZ {n:Nat}{d:D}(h:(rngD n)[i]?=some d):d=.int i:=by
 unfold rngD at h;rw[z0c] at h;cases e:(List.range n)[i]? with
 | none=>rw[e] at h;cases h
 | some j=>
  rw[e] at h;have:=(z0z.mp e);obtain⟨hi,ej⟩:=this;rw[List.getElem_range] at ej;subst ej;exact (z0f h).symm
theorem dN {n:Nat}:Src G (Itr 0 n) (rngD n) F1 F2 where
 go:=λ i H s hi=>by unfold rngD at hi;show i<n;simpa using hi
 yld:=λ i H x H' d s hd y=>by
  obtain⟨y1,y2⟩:=y;rw[ZZ hd,y2,Int.zero_add];exact Nk ⟨y1,.int _⟩
 stop:=λ i H s hi=>by unfold rngD at hi;show n<=i;simpa using hi
theorem GX {top:Bool}{p:Pos}(hg:Gl X "range") (hm:X.mg "range"=none) (h:PU X G a fa) (hs:starEach [a] X.env=[(false,eval a X.env)]:=by rfl):PFI X G top tg (.Call (.Name "range" p) [a] [] pos) (rngI fa):=λ A=>Pb (Xh hg hm (Bh (@h A) Dt hs) hs) λ σ H R ⟨ρ,ds,o,e,k⟩=>by
 unfold rngI at e;split at e
 ·rename_i j e1;split at e
  ·rename_i hj;cases e;exact⟨ρ,_,o,e1,λ v H1 s1 r1=>⟨j,by rw[r1.int],hj.1,hj.2,k _ H1 s1 dN⟩⟩
  ·cases e
 ·cases e
end
structure OkW (G:Gx) (A0:List Addr) (He:Hp) (A:List Addr) (σ:St) (H:Hp) (ρ:Rho):Prop where
 same:Same He H
 sub:∀ a∈A0,a∈A
 fr:∀ a∈A,a∈A0∨He a=none
 l0:∀ a∈A0,He a≠none
 ok:Okp G A σ H ρ
 ow0:∀ (i:Nat) (d:D) (a:Addr),ρ[i]?=some (.ow d)->σ[i]?=some (some (.ref a))->a∉A0
 lt:∀ (x:Addr) (d:D),G.lent=some x->ρ[0]?=some (.ow d)->σ[0]?=some (some (.ref x))
def OkS (G:Gx) (A0:List Addr) (He:Hp) (σ:St) (H:Hp) (ρ:Rho):Prop:=∃ A,OkW G A0 He A σ H ρ
def Ky (G:Gx) (A0:List Addr) (He:Hp) (D:Ends):Out->Prop
 | .nx ρ=>∀ σ H,OkS G A0 He σ H ρ->D.nx σ H
 | .rt d ρ=>∀ v σ H A,OkW G A0 He A σ H ρ->Rep G (hid A H) v d->D.rt v H
 | .bk ρ=>∀ σ H,OkS G A0 He σ H ρ->D.bk σ H
 | .ct ρ=>∀ σ H,OkS G A0 He σ H ρ->D.ct σ H
def tS (G:Gx) (A0:List Addr) (He:Hp) (g:FS):TS:=λ D σ H=>∃ ρ o,OkS G A0 He σ H ρ/\g ρ=some o/\Ky G A0 He D o
def PSD (X:Cx) (G:Gx) (st:Stmt) (g:FS):Prop:=∀ ⦃A0⦄ He,PS X st (tS G A0 He g)
def PSDs (X:Cx) (G:Gx) (st:List Stmt) (g:FS):Prop:=∀ ⦃A0⦄ He,PSs X st (tS G A0 He g)
theorem Okp.set {G:Gx}{A:List Addr}{σ:St}{H:Hp}{ρ:Rho}{v:V}{d:D}(o:Okp G A σ H ρ) (r:Rep G (hid A H) v d) (i:Nat):Okp G A (σ.set i (some v)) H (ρ.set i (.fz d)):=by
 have key:∀ (j:Nat) (z:Slot),(ρ.set i (.fz d))[j]?=some z->(j=i/\z=.fz d/\i<ρ.length)∨(j≠i/\ρ[j]?=some z):=λ j z h=>by
  by_cases hj:j=i
  ·subst hj
   by_cases hl:j<ρ.length
   ·rw[z0H hl] at h;exact .inl ⟨rfl,(z0f h).symm,hl⟩
   ·rw[z1h (by simpa using z0I.mp hl)] at h;cases h
  ·rw[z0n (Ne.symm hj)] at h;exact .inr ⟨hj,h⟩
 have keyS:∀ (j:Nat),j≠i->(σ.set i (some v))[j]?=σ[j]?:=λ j hj=>z0n (Ne.symm hj);refine⟨by rw[z0J,z0J];exact o.len,o.live,λ j e h=>?_,λ j e h=>?_,λ j k e f p h1 h2 h3 h4=>?_⟩
 ·rcases key j _ h with ⟨hj,hz,hl⟩ | ⟨hj,hz⟩
  ·cases hz;subst hj;exact⟨v,by rw[z0H (by rw[o.len];exact hl)],r⟩
  ·obtain⟨u,q1,q2⟩:=o.fz j e hz;exact⟨u,by rw[keyS j hj];exact q1,q2⟩
 ·rcases key j _ h with ⟨hj,hz,hl⟩ | ⟨hj,hz⟩
  ·cases hz
  ·obtain⟨u,q1,q2⟩:=o.ow j e hz;exact⟨u,by rw[keyS j hj];exact q1,q2⟩
 ·rcases key j _ h1 with ⟨_,hz,_⟩ | ⟨hj,hz⟩
  ·cases hz
  ·rcases key k _ h2 with ⟨_,hz',_⟩ | ⟨hk,hz'⟩
   ·cases hz'
   ·rw[keyS j hj] at h3;rw[keyS k hk] at h4;exact o.inj j k e f p hz hz' h3 h4
theorem OkW.mono {G:Gx}{A0:List Addr}{He:Hp}{A:List Addr}{σ:St}{H H':Hp}{ρ:Rho}(o:OkW G A0 He A σ H ρ) (s:Same H H'):OkW G A0 He A σ H' ρ:=⟨o.same.trans s,o.sub,o.fr,o.l0,o.ok.mono s,o.ow0,o.lt⟩
theorem OkW.set {G:Gx}{A0:List Addr}{He:Hp}{A:List Addr}{σ:St}{H:Hp}{ρ:Rho}{v:V}{d:D}(o:OkW G A0 He A σ H ρ) (r:Rep G (hid A H) v d) (i:Nat):OkW G A0 He A (σ.set i (some v)) H (ρ.set i (.fz d)):=⟨o.same,o.sub,o.fr,o.l0,o.ok.set r i,λ j e a h1 h2=>by
  have hj:j≠i:=by
   intro z;subst z
   by_cases hl:j<ρ.length
   ·rw[z0H hl] at h1;cases h1
   ·rw[z1h (by simpa using z0I.mp hl)] at h1;cases h1
  rw[z0n (Ne.symm hj)] at h1 h2;exact o.ow0 j e a h1 h2,λ x e hx h0=>by
  by_cases hi:i=0
  ·subst hi;cases ρ with
   | nil=>cases h0
   | cons a r=>cases h0
  ·rw[z0n hi] at h0 ⊢;exact o.lt x e hx h0⟩
theorem OkW.base {G:Gx}{ρ:Rho}(o:OkW G A0 Hf A σ H ρ) (s:Same He Hf) (l0:∀ a∈A0,He a≠none):OkW G A0 He A σ H ρ:=
 ⟨s.trans o.same,o.sub,λ a ha=>(o.fr a ha).imp id λ z=>s.free z,l0,o.ok,o.ow0,o.lt⟩
theorem OkW.here {G:Gx}{ρ:Rho}(o:OkW G A0 He A σ H ρ):Same He (hid (A.filter λ a=>decide (a∉A0)) H)/\OkW G A0 (hid (A.filter λ a=>decide (a∉A0)) H) A σ H ρ:=by
 have hb:∀ b,b∈(A.filter λ a=>decide (a∉A0))↔b∈A/\b∉A0:=λ b=>by simp[z0s]
 have s1:Same He (hid (A.filter λ a=>decide (a∉A0)) H):=λ b u h=>by
  rw[Ao]
  ·exact o.same b u h
  ·intro z;obtain⟨z1,z2⟩:=(hb b).mp z
   rcases o.fr b z1 with q | q
   ·exact z2 q
   ·rw[q] at h;cases h
 refine⟨s1,Ai,o.sub,λ a ha=>?_,λ a ha h=>?_,o.ok,o.ow0,o.lt⟩
 ·by_cases hz:a∈A0
  ·exact .inl hz
  ·right;unfold hid;rw[if_pos ((hb a).mpr ⟨ha,hz⟩)]
 ·rw[Ao (λ z=>((hb a).mp z).2 ha)] at h;exact (o.ok.live a (o.sub a ha)).ne h
theorem OkW.plain {G:Gx}{ρ:Rho}(sub:∀ a∈A0,a∈B) (o:OkW G A0 (hid (B.filter λ a=>decide (a∉A0)) H1) A σ H ρ):Same (hid B H1) (hid A H):=λ b u h=>by
 unfold hid at h;split at h
 ·cases h
 ·rename_i hb;have e:hid (B.filter λ a=>decide (a∉A0)) H1 b=some u:=by
   rw[Ao (λ z=>hb (z0s.mp z).1)];exact h
  rw[Ao]
  ·exact o.same b u e
  ·intro z
   rcases o.fr b z with q | q
   ·exact hb (sub b q)
   ·rw[q] at e;cases e
section
variable {G:Gx}{a b c:Expr}{fa fb fc:FE}{ga:FT}{p2:Pos}{rest:List Stmt}{g gs gb:FS}
theorem BV:PSDs X G [] nxF:=λ A0 He π s σ H D I ⟨ρ,o,ok,e,k⟩=>by
 cases e;exact Lk π s σ H D I (k σ H ok)
theorem Af (h1:PSD X G st g) (h2:PSDs X G rest gs):PSDs X G (st::rest) (seqF g gs):=λ A0 He π s σ H D I ⟨ρ,o,ok,e,k⟩=>by
 refine Dr (@h1 A0 He) (@h2 A0 He) π s σ H D I ?_;unfold seqF at e;split at e
 ·rename_i ρ' e1;exact⟨ρ,_,ok,e1,λ σ' H' ok'=>⟨ρ',o,ok',e,k⟩⟩
 ·rename_i hno;refine⟨ρ,o,ok,e,?_⟩;cases o with
  | nx ρ'=>exact absurd e (hno ρ')
  | rt d ρ'=>exact k
  | bk ρ'=>exact k
  | ct ρ'=>exact k
theorem Ag (h1:PSD X G st g):PSDs X G [st] g:=λ A0 He=>Gw (@h1 A0 He)
theorem Bj {s1 s2:List Stmt}(ht:PFT X G c ga) (h1:PSDs X G s1 g) (h2:PSDs X G s2 gs):PSD X G (.If c s1 s2 pos) (ifS ga g gs):=λ A0 He π s σ H D I ⟨ρ,o,⟨A,w⟩,e,k⟩=>by
 refine VN (@ht A) (@h1 A0 He) (@h2 A0 He) π s σ H D I ?_;unfold ifS at e;split at e
 ·rename_i e1;exact⟨ρ,_,w.ok,e1,λ H1 s1=>iteT ⟨ρ,o,⟨A,w.mono s1⟩,e,k⟩⟩
 ·rename_i e1;exact⟨ρ,_,w.ok,e1,λ H1 s1=>iteF ⟨ρ,o,⟨A,w.mono s1⟩,e,k⟩⟩
 ·cases e
theorem kJ {ρ:Rho}{o:Out}{D:Ends}(w:OkW G A0 He A σ H ρ) (e:setF i fa ρ=some o) (k:Ky G A0 He D o):tAsg (tF G A fa) (GK i) D σ H:=by
 unfold setF at e;cases e1:fa ρ with
 | none=>simp[e1] at e
 | some d=>
  simp only[e1,z0w] at e;cases e;exact⟨ρ,d,w.ok,e1,λ v H1 s1 r1=>k _ _ ⟨A,(w.mono s1).set r1 i⟩⟩
theorem dO {x:Str}{p:Pos}(h:∀ te,PE X a te->PS X (.Assign [.Name x p] a pos) (tAsg te (GK i))) (ha:PF X G a fa):PSD X G (.Assign [.Name x p] a pos) (setF i fa):=λ A0 He π s σ H D I ⟨ρ,o,⟨A,w⟩,e,k⟩=>
 h _ (@ha A) π s σ H D I (kJ w e k)
theorem Al (ha:PF X G a fa):PSD X G (.Return (some a) pos) (retF fa):=λ A0 He π s σ H D I ⟨ρ,o,⟨A,w⟩,e,k⟩=>by
 refine YZ (@ha A) π s σ H D I ?_;unfold retF at e;cases e1:fa ρ with
 | none=>simp[e1] at e
 | some d=>
  simp only[e1,z0w] at e;cases e;exact⟨ρ,d,w.ok,e1,λ v H1 s1 r1=>k v σ H1 A (w.mono s1) r1⟩
theorem Za:PSD X G (.Return none pos) retN:=λ A0 He π s σ H D I ⟨ρ,o,⟨A,w⟩,e,k⟩=>by
 cases e;exact cA π s σ H D I (k _ σ H A w .non)
def tGD (G:Gx) (A0:List Addr) (He:Hp) (g:FG):TG:=λ v σ H Q=>∃ A ρ d ρ',OkW G A0 He A σ H ρ/\Rep G (hid A H) v d/\g d ρ=some ρ'/\∀ σ' H',OkS G A0 He σ' H' ρ'->Q σ' H'
def PGD (X:Cx) (G:Gx) (tg:Expr) (g:FG):Prop:=∀ ⦃A0⦄ He,PG X tg (tGD G A0 He g)
theorem Ba (h:PG X tg (GK i)):PGD X G tg (BW i):=λ A0 He π s σ H v u Q I r ⟨A,ρ,d,ρ',w,rv,e,k⟩=>by
 cases e;exact h π s σ H v u Q I r (k _ _ ⟨A,w.set rv i⟩)
theorem Ky.base {A0:List Addr}{He Hf:Hp}{D:Ends}{o:Out}(k:Ky G A0 He D o) (s:Same He Hf) (l0:∀ a∈A0,He a≠none):Ky G A0 Hf D o:=by
 cases o with
 | nx ρ=>exact λ σ H ⟨A,w⟩=>k σ H ⟨A,w.base s l0⟩
 | rt d ρ=>exact λ v σ H A w r=>k v σ H A (w.base s l0) r
 | bk ρ=>exact λ σ H ⟨A,w⟩=>k σ H ⟨A,w.base s l0⟩
 | ct ρ=>exact λ σ H ⟨A,w⟩=>k σ H ⟨A,w.base s l0⟩
theorem DQ {it:Expr}{src:FI}{fg:FG}(hp:PassesOwn (model X.prog X.w) X.A X.env X.xe) (hc:X.calm=true) (hi:PFI X G false tg it src) (hg:PGD X G tg fg) (hb:PSDs X G body gb)
  (hs:∀ x,foldedSetIterable it X.env x=pure x:=by intro _;rfl):PSD X G (.For tg it body [] pos) (forS src fg gb):=λ A0 He π s σ H D I ⟨ρ,o,⟨A,w⟩,e,k⟩=>by
 cases e1:src ρ with
 | none=>simp[forS,e1] at e
 | some ds=>
  have e':forF (λ d ρ=>(fg d ρ).bind gb) ds ρ=some o:=by
   have e2:forF (tgB fg gb) ds ρ=some o:=by simpa [forS,e1] using e
   exact e2
  have hb':PSs X body (λ D σ H=>∃ A0 He,tS G A0 He gb D σ H):=λ π s σ H D I ⟨A0,He,q⟩=>@hb A0 He π s σ H D I q;have hg':PG X tg (λ v σ H Q=>∃ A0 He,tGD G A0 He fg v σ H Q):=λ π s σ H v u Q I r ⟨A0,He,q⟩=>@hg A0 He π s σ H v u Q I r q;refine QM hp hc (@hi A) hg' hb' hs π s σ H D I ⟨ρ,ds,w.ok,e1,λ J H1 s1 sr=>?_⟩;obtain⟨sHe,w2⟩:=(w.mono s1).here;have k2:=k.base sHe w.l0;generalize hHf:hid (A.filter λ a=>decide (a∉A0)) H1=Hf at sHe w2 k2;refine⟨λ i m σ' H'=>m=ds.length-i/\i<=ds.length/\∃ ρ',OkS G A0 Hf σ' H' ρ'/\forF (λ d ρ=>(fg d ρ).bind gb) (ds.drop i) ρ'=some o,⟨ds.length,by simp,z0M _,ρ,⟨A,w2⟩,by simpa using e'⟩,?_⟩;rintro i m σ3 H3 ⟨rfl,hil,ρ3,⟨B,w3⟩,e3⟩;have pl:Same (hid A H1) (hid B H3):=by rw[<-hHf] at w3;exact OkW.plain w.sub w3
  by_cases hlt:i<ds.length
  ·right;have hd:ds[i]?=some ds[i]:=by simp[hlt]
   have ed:ds.drop i=ds[i]::ds.drop (i+1):=z1k hlt;rw[ed] at e3;unfold forF at e3;refine⟨sr.go i H3 (pl.trans Ai) hlt,λ σ' H'=>∃ ρ',OkS G A0 Hf σ' H' ρ'/\forF (λ d ρ=>(fg d ρ).bind gb) (ds.drop (i+1)) ρ'=some o,λ σ' H' q=>⟨ds.length-(i+1),by omega,rfl,hlt,q⟩,λ x H' y=>?_⟩;obtain⟨sy,rx⟩:=sr.yld i H3 x H' _ (pl.trans Ai) hd y;refine⟨A0,Hf,B,ρ3,ds[i],?_⟩;cases e4:fg ds[i] ρ3 with
   | none=>simp[e4] at e3
   | some ρ4=>
    refine⟨ρ4,w3.mono sy,rx B w3.ok.live pl,rfl,λ σ5 H5 ok5=>⟨A0,Hf,ρ4,?_⟩⟩;cases e5:gb ρ4 with
    | none=>simp[e4,e5] at e3
    | some o5=>
     refine⟨o5,ok5,rfl,?_⟩;cases o5 with
     | nx ρ5=>
      simp only[e4,e5,z0a] at e3;exact λ σ' H' ok'=>⟨ρ5,ok',e3⟩
     | ct ρ5=>
      simp only[e4,e5,z0a] at e3;exact λ σ' H' ok'=>⟨ρ5,ok',e3⟩
     | bk ρ5=>
      simp only[e4,e5,z0a] at e3;cases e3;exact λ σ' H' ok'=>k2 σ' H' ok'
     | rt d5 ρ5=>
      simp only[e4,e5,z0a] at e3;cases e3;exact k2
  ·left;have ei:i=ds.length:=by omega
   subst ei;rw[List.drop_length] at e3;cases e3;exact⟨sr.stop _ H3 (pl.trans Ai) (z03 _),k2 σ3 H3 ⟨B,w3⟩⟩
end
def spD (G:Gx) (g:List D->Option D):Sp:=λ vs H Q _=>∃ A ds d,(∀ a∈A,Nt (H a))/\RepL G (hid A H) vs ds/\g ds=some d/\∀ v H',Same H H'->Rep G (hid A H') v d->Q v H'
section
variable {G:Gx}{a:Expr}{fs:FA}{p:Pos}
theorem oJ {k:Nat}{f:Addr}{g:List D->Option D}{x:Str}(F:FnOk X.prog X.w X.K X.mg X.base CX0 k f fd ps (spD G g)) (hr:Room k X.A) (hg:Gl X x) (hm:X.mg x=some (.ref f)) (hk:PySem.W.keepIn X.K (.ref f)=true)
  (hb:Binds X.K fd ps []) (ha:PFA X G (a::es) fs) (hdb:(x==("__debug__":Str))=false:=by decide) (he:starEach (a::es) X.env=(false,eval a X.env)::starEach es X.env:=by rfl) (hpl:(backTo pos (starEach es X.env)).any (·.1)=false:=by rfl) :
  PF X G (.Call (.Name x p) (a::es) [] pos) (Am g fs):=λ A=>By (Ve F hr hg hm hk hb .nil Yx (@ha A) hdb he hpl) λ σ H Q ⟨ρ,d,o,e,k⟩=>by
 unfold Am at e;cases e1:fs ρ with
 | none=>simp[e1] at e
 | some ds=>
  have e':g ds=some d:=by simpa [e1] using e
  refine⟨ρ,ds,o,e1,λ vs H1 s1 r1=>⟨A,ds,d,(o.mono s1).live,by rw[z0v];exact r1,e',λ v H2 s2 r2=>k v H2 (s1.trans s2) r2⟩⟩
end
theorem Hl {G:Gx}{ds:List D}(live:∀ a∈A,Nt (H a)) (r:RepL G (hid A H) vs ds) (hn:vs.length<=N.length):OkS G A H (start N vs) H (Bm N.length ds):=by
 have key:∀ (i:Nat) (z:Slot),(Bm N.length ds)[i]?=some z->(∃ d,z=.fz d/\ds[i]?=some d)∨z=.un:=λ i z h=>by
  unfold Bm at h
  by_cases hi:i<ds.length
  ·rw[z0P (by simpa using hi),z0c] at h;cases e:ds[i]? with
   | none=>rw[e] at h;cases h
   | some d=>rw[e] at h;exact .inl ⟨d,(z0f h).symm,rfl⟩
  ·rw[z0U (by simpa using z0I.mp hi),List.getElem?_replicate] at h;split at h
   ·exact .inr (z0f h).symm
   ·cases h
 refine⟨A,Same.refl H,λ _ h=>h,λ a h=>.inl h,λ a ha=>(live a ha).ne,⟨?_,live,λ i d h=>?_,λ i d h=>?_,λ i j d e a h _ _ _=>?_⟩,λ i d a h _=>?_,λ x d _ h=>?_⟩
 ·unfold L2.start Bm;rw[z0A,z0A,z01,z01,List.length_replicate,List.length_replicate,r.1]
 ·rcases key i _ h with ⟨d',e,hd⟩ | e
  ·cases e;obtain⟨v,h1,h2⟩:=r.get hd;refine⟨v,?_,h2⟩;unfold L2.start;rw[z0P (by rw[z01];exact (z0z.mp h1).1),z0c,h1];rfl
  ·cases e
 ·rcases key i _ h with ⟨d',e,hd⟩ | e
  ·cases e
  ·cases e
 ·rcases key i _ h with ⟨d',e,hd⟩ | e
  ·cases e
  ·cases e
 ·rcases key i _ h with ⟨d',e,hd⟩ | e
  ·cases e
  ·cases e
 ·rcases key 0 _ h with ⟨d',e,hd⟩ | e
  ·cases e
  ·cases e
section
variable {G:Gx}{a b c:Expr}{fa fb fc:FE}{p2 px:Pos}{t:Str}{elt iter:Expr}{ifs:List Expr}{ga:FT}{fe:FE}{src:FI}
def PFTs (X:Cx) (G:Gx) (ifs:List Expr) (f:FT):Prop:=∀ ⦃A⦄,PTs X ifs (tFT G A f)
theorem Zb:PFTs X G [] allT:=λ A π s σ H Q I ⟨ρ,b,o,e,k⟩=>by
 cases e;exact cX π s σ H Q I (k H (Same.refl H))
theorem S5 (h:PFT X G a ga):PFTs X G [a] ga:=λ A=>cY (@h A)
theorem Okp.fill {Hc:Hp}{ρ:Rho}(o:Okp G A σ H ρ) (s:Same H Hc) (hp:H p=none) (hc:Nt (Hc p)):Okp G (p::A) σ Hc ρ:=by
 have sm:Same (hid A H) (hid (p::A) Hc):=λ b u h=>by
  unfold hid at h;split at h
  ·cases h
  ·rename_i hb;rw[Ao]
   ·exact s b u h
   ·intro z
    rcases z06.mp z with z | z
    ·rw[z,hp] at h;cases h
    ·exact hb z
 refine⟨o.len,λ a ha=>?_,λ i d h=>?_,λ i d h=>?_,o.inj⟩
 ·rcases z06.mp ha with z | z
  ·rw[z];exact hc
  ·exact (o.mono s).live a z
 ·obtain⟨v,h1,h2⟩:=o.fz i d h;exact⟨v,h1,h2.mono sm⟩
 ·obtain⟨a,h1,h2,h3⟩:=o.ow i d h;refine⟨a,h1,z07 _ h2,?_⟩;cases d with
  | lst ds=>obtain⟨xs,q1,q2⟩:=h3;exact⟨xs,s _ _ q1,q2.mono sm⟩
  | dk ds=>obtain⟨xs,q1,q2,q3⟩:=h3;exact⟨xs,s _ _ q1,q2,q3.mono sm⟩
  | dt ds=>obtain⟨xs,q1,q2,q3⟩:=h3;exact⟨xs,s _ _ q1,q2,q3.mono sm⟩
  | ob c gs=>obtain⟨C,dx,xs,q1,q2,q3⟩:=h3;exact⟨C,dx,xs,s _ _ q1,q2,q3.mono sm⟩
  | _=>exact h3.elim
theorem Okp.snoc {ρ:Rho}{d:D}(o:Okp G A σ H ρ) (r:Rep G (hid A H) v d):Okp G A (σ++[some v]) H (ρ++[.fz d]):=by
 have key:∀ (j:Nat) (z:Slot),(ρ++[.fz d])[j]?=some z->(j=ρ.length/\z=.fz d)∨(j<ρ.length/\ρ[j]?=some z):=λ j z h=>by
  by_cases hj:j<ρ.length
  ·rw[z0P hj] at h;exact .inr ⟨hj,h⟩
  ·rw[z0U (z0I.mp hj)] at h;cases q:j-ρ.length with
   | zero=>rw[q] at h;exact .inl ⟨by omega,(z0f h).symm⟩
   | succ n=>rw[q] at h;cases h
 have keyS:∀ (j:Nat),j<ρ.length->(σ++[some v])[j]?=σ[j]?:=λ j hj=>z0P (by rw[o.len];exact hj);refine⟨by rw[z0A,z0A,o.len];rfl,o.live,λ j e h=>?_,λ j e h=>?_,λ j k e f p h1 h2 h3 h4=>?_⟩
 ·rcases key j _ h with ⟨hj,hz⟩ | ⟨hj,hz⟩
  ·cases hz;subst hj;exact⟨v,by rw[z0U (by rw[o.len];exact z03 _),o.len,Nat.sub_self];rfl,r⟩
  ·obtain⟨u,q1,q2⟩:=o.fz j e hz;exact⟨u,by rw[keyS j hj];exact q1,q2⟩
 ·rcases key j _ h with ⟨hj,hz⟩ | ⟨hj,hz⟩
  ·cases hz
  ·obtain⟨u,q1,q2⟩:=o.ow j e hz;exact⟨u,by rw[keyS j hj];exact q1,q2⟩
 ·rcases key j _ h1 with ⟨_,hz⟩ | ⟨hj,hz⟩
  ·cases hz
  ·rcases key k _ h2 with ⟨_,hz'⟩ | ⟨hk,hz'⟩
   ·cases hz'
   ·rw[keyS j hj] at h3;rw[keyS k hk] at h4;exact o.inj j k e f p hz hz' h3 h4
theorem Okp.snocs {A:List Addr}{H:Hp}:∀ {vs:List V}{es:List D}{σ:St}{ρ:Rho},Okp G A σ H ρ->RepL G (hid A H) vs es->Okp G A (σ++vs.map some) H (ρ++es.map .fz)
 | [],[],σ,ρ,o,_=>by simpa using o
 | [],_::_,_,_,_,r=>by have:=r.1;simp at this
 | _::_,[],_,_,_,r=>by have:=r.1;simp at this
 | v::vs,e::es,σ,ρ,o,r=>by
  obtain⟨x,ys,h,r1,r2⟩:=r.uncons;cases h;simpa using (o.snoc r1).snocs r2
def Em (bd:D->Option (List D)) (ρ:Rho) (ga:FT) (fe:FE):List D->Option (List D)
 | []=>some []
 | d::r=>(bd d).bind λ es=>match ga (ρ++es.map .fz) with
  | some true=>(fe (ρ++es.map .fz)).bind λ y=>(Em bd ρ ga fe r).map (y::·)
  | some false=>Em bd ρ ga fe r
  | none=>none
def Hm (bd:D->Option (List D)) (src:FI) (ga:FT) (fe:FE):FE:=λ ρ=>(src ρ).bind λ ds=>if ds.length<=sizeLine then (Em bd ρ ga fe ds).map .lst else none
def bd1 (d:D):Option (List D):=some [d]
theorem S6 (ρ:Rho) (ga:FT) (fe:FE):∀ ds,GP ρ ga fe ds=Em bd1 ρ ga fe ds
 | []=>rfl
 | d::r=>by
  unfold GP Em;rw[S6 ρ ga fe r];rfl
theorem Zc (src:FI) (ga:FT) (fe:FE):Gk src ga fe=Hm bd1 src ga fe:=by
 funext ρ;unfold Gk Hm;congr 1;funext ds;rw[S6]
def Bnd (G:Gx) (N n:Nat) (bd:D->Option (List D)) (g:TG):Prop:=∀ (A:List Addr) (σ os:St) (H:Hp) (x:V) (d:D) (es:List D) (Q:St->Hp->Prop),σ.length=N->os.length=n->bd d=some es->Rep G (hid A H) x d->(∀ vs,vs.length=n->RepL G (hid A H) vs es->Q (σ++vs.map some) H)->g x (σ++os) H Q
theorem bnd1 {N:Nat}:Bnd G N 1 bd1 (GK N):=λ A σ os H x d es Q hl ho e r k=>by
 cases e;obtain⟨o,rfl⟩:=List.length_eq_one_iff.mp ho;have z:(σ++[o]).set N (some x)=σ++[some x]:=by rw[<-hl,List.set_append_right _ _ (z03 _),Nat.sub_self];rfl
 show Q ((σ++[o]).set N (some x)) H;rw[z];exact k [x] rfl (.cons r .nil)
def tN (G:Gx) (A:List Addr) (f:FE):TE:=λ σ H Q=>∃ ρ d,Okp G A σ H ρ/\f ρ=some d/\∀ p H',Same H H'->H p=none->Top G (p::A) H' p d->Q (.ref p) H'
theorem Zd {N n:Nat}{bd:D->Option (List D)}{g:TG}(hX:X.N.length=N) (hB:Bnd G N n bd g) {A:List Addr}{σ:St}{H:Hp}{Q:VK}(h:tN G A (Hm bd src ga fe) σ H Q):Y9 n (iH X (tI G A true src)) g (λ σ H Q=>∃ A,tFT G A ga σ H Q) (λ σ H Q=>∃ A,tF G A fe σ H Q) σ H Q:=by
 obtain⟨ρ,d,o,e,k⟩:=h;unfold Hm at e;cases e1:src ρ with
 | none=>simp[e1] at e
 | some ds=>
  rw[e1] at e;have e':(if ds.length<=sizeLine then (Em bd ρ ga fe ds).map D.lst else none)=some d:=e;split at e'
  ·rename_i hz;cases e2:Em bd ρ ga fe ds with
   | none=>simp[e2] at e'
   | some out=>
    simp only[e2,z0w] at e';cases e';refine⟨λ J H1=>Same H H1/\Src G J ds H1 (hid A H1),⟨ρ,ds,o,e1,λ J H1 s1 sr=>⟨s1,sr⟩⟩,λ J H1 hlen ⟨s1,sr⟩ p hp=>?_⟩;have o1:=o.mono s1;refine⟨λ i m ys Hc=>m=ds.length-i/\i<=ds.length/\Hc p=some (.lst ys)/\Same H1 Hc/\ys.length<=i/\∃ es rest,RepL G (hid (p::A) Hc) ys es/\Em bd ρ ga fe (ds.drop i)=some rest/\es++rest=out,
     ⟨ds.length,by simp,z0M _,Ae,Ay hp _,z03 _,[],out,RepL.nil,by simpa using e2,rfl⟩,?_⟩
    rintro i m ys Hc ⟨rfl,hil,hpc,sc,hy,es,rest,rr,er,eo⟩
    by_cases hlt:i<ds.length
    ·right;have hd:ds[i]?=some ds[i]:=by simp[hlt]
     have ed:ds.drop i=ds[i]::ds.drop (i+1):=z1k hlt;rw[ed] at er;unfold Em at er;refine⟨sr.go i Hc sc hlt,λ x H' y os ho=>?_⟩;obtain⟨sy,rx⟩:=sr.yld i Hc x H' _ sc hd y;have okc:Okp G (p::A) σ Hc ρ:=o1.fill sc hp (by rw[hpc];exact Nt.lst);have sm:Same (hid A H1) (hid (p::A) Hc):=λ b u h=>by
      unfold hid at h;split at h
      ·cases h
      ·rename_i hb;rw[Ao]
       ·exact sc b u h
       ·intro z
        rcases z06.mp z with z | z
        ·rw[z,hp] at h;cases h
        ·exact hb z
     cases ebd:bd ds[i] with
     | none=>simp[ebd] at er
     | some bs=>
     simp only[ebd,z0a] at er;refine hB (p::A) σ os H' x ds[i] bs _ (hlen.trans hX) ho ebd (rx _ okc.live sm) λ vs hvs rvs=>⟨⟨_,rfl,by rw[z01];exact hvs⟩,?_⟩;have ok2:=(okc.mono sy).snocs rvs;have hpc:=sy _ _ hpc;have rr:=rr.mono (Aq sy);have sc:=sc.trans sy;cases eg:ga (ρ++bs.map .fz) with
     | none=>simp[eg] at er
     | some b=>
      refine⟨p::A,_,b,ok2,eg,λ H2 s2=>?_⟩;cases b with
      | false=>
       refine iteF ⟨ds.length-(i+1),by omega,rfl,hlt,s2 _ _ hpc,sc.trans s2,Nat.le_succ_of_le hy,es,rest,rr.mono (Aq s2),by simpa [eg] using er,eo⟩
      | true=>
       simp only[eg] at er;cases ee:fe (ρ++bs.map .fz) with
       | none=>simp[ee] at er
       | some yd=>
        cases ec:Em bd ρ ga fe (ds.drop (i+1)) with
        | none=>simp[ee,ec] at er
        | some rest'=>
         simp only[ee,ec,z0a,z0w] at er;cases er;refine iteT ⟨p::A,_,yd,ok2.mono s2,ee,λ yv H3 s3 r3=>?_⟩;have hp3:=s3 _ _ (s2 _ _ hpc);refine⟨hp3,by omega,ds.length-(i+1),by omega,rfl,hlt,Ae,λ b u q=>?_,by rw[z0A];simp;omega,es++[yd],rest',?_,ec,by rw[List.append_assoc];exact eo⟩
         ·have hb:b≠p:=Ak q hp;rw[Ad hb];exact s3 _ _ (s2 _ _ (sc _ _ q))
         ·rw[Cm z0k];exact (rr.mono (Aq (s2.trans s3))).append (.cons r3 .nil)
    ·left;have ei:i=ds.length:=by omega
     subst ei;rw[List.drop_length] at er;simp only[Em] at er;cases er;rw[z0v] at eo;subst eo;exact⟨sr.stop _ Hc sc (z03 _),k p Hc (s1.trans sc) (s1.free hp) ⟨ys,hpc,rr⟩⟩
  ·cases e'
theorem oK {bd:D->Option (List D)}{Q:VK}(h:tF G A (Hm bd src ga fe) σ H Q):tN G A (Hm bd src ga fe) σ H Q:=by
 obtain⟨ρ,d,o,e,k⟩:=h;have e':=e;unfold Hm at e';cases e1:src ρ with
 | none=>simp[e1] at e'
 | some ds=>
  rw[e1] at e';have e2:(if ds.length<=sizeLine then (Em bd ρ ga fe ds).map D.lst else none)=some d:=e';split at e2
  ·cases e3:Em bd ρ ga fe ds with
   | none=>rw[e3] at e2;cases e2
   | some out=>
    rw[e3] at e2;cases e2;refine⟨ρ,_,o,e,λ p H' sm hp ⟨xs,h1,h2⟩=>k _ H' sm ?_⟩;have q:=h2.mono (Ck (A:=A) λ a ha=>z07 _ ha);exact .lst (.of (by rw[Ao (λ z=>(o.live p z).ne hp)];exact h1)) q.1 q.2
  ·cases e2
section
variable {bd:D->Option (List D)}{g:TG}{ts:List Str}
theorem Ze (N':List Str) (eN:Do ts X.N++ts=N') (c:CompOkL X scope ts) (hc:X.calm=true) (hi:PFI X G true tg iter src) (hG:∀ s2 H2 fp,PG (Cz X scope N' s2 H2 fp) tg g) (hB:Bnd G X.N.length ts.length bd g)
  (hI:∀ s2 H2 fp,PFTs (Cz X scope N' s2 H2 fp) G ifs ga) (hE:∀ s2 H2 fp,PF (Cz X scope N' s2 H2 fp) G elt fe) (hs:∀ x,foldedSetIterable iter X.env x=pure x:=by intro _;rfl) (A:List Addr):PE X (.ListComp elt [⟨tg,iter,ifs,0⟩] scope pos) (tN G A (Hm bd src ga fe)):=by
 subst eN;refine By (Y_ (tc:=λ σ H Q=>∃ A,tFT G A ga σ H Q) (te:=λ σ H Q=>∃ A,tF G A fe σ H Q) c hc (cZ (@hi A)) hG (λ s2 H2 fp=>?_) (λ s2 H2 fp=>?_) hs) λ _ _ _ h=>Zd rfl hB h
 ·exact λ π s σ H Q I ⟨A,q⟩=>hI s2 H2 fp π s σ H Q I q
 ·exact λ π s σ H Q I ⟨A,q⟩=>hE s2 H2 fp π s σ H Q I q
end
theorem oM {N':List Str}(eN:Kv t X.N++[t]=N') (c:Nf X scope t) (s2:Shared) (H2:Hp) (fp:List Addr):PG (Cz X scope N' s2 H2 fp) (.Name t px) (GK X.N.length):=by
 subst eN;exact gOne c s2 H2 fp
theorem RP (N':List Str) (eN:Kv t X.N++[t]=N') (c:Nf X scope t) (hc:X.calm=true) (hi:PFI X G true (.Name t px) iter src) (hI:∀ s2 H2 fp,PFTs { Up X scope t s2 H2 fp with N:=N' } G ifs ga) (hE:∀ s2 H2 fp,PF { Up X scope t s2 H2 fp with N:=N' } G elt fe)
  (hs:∀ x,foldedSetIterable iter X.env x=pure x:=by intro _;rfl):PF X G (.ListComp elt [⟨.Name t px,iter,ifs,0⟩] scope pos) (Gk src ga fe):=λ A=>by
 rw[Zc];exact By (Ze N' eN c hc hi (oM eN c) bnd1 hI hE hs A) λ _ _ _ h=>oK h
end
section
variable {A:Around}{R:Result->Shared->Prop}{I:Addr}{wr:List Addr}{n:Nat}{P:Nat->Value->Prop}{Sx:Nat->Heap->Prop}
end
section
variable {A:Around}{l:Addr}{xs:Array (Int×Tok)}
end
section
variable {G:Gx}{a b:Expr}{fa fb:FE}{p kpos:Pos}
end
theorem En:bootBuiltins "len"=some (.builtin "len"):=by decide +kernel
theorem kO:bootBuiltins "max"=some (.builtin "max"):=by decide +kernel
theorem BR:bootBuiltins "isinstance"=some (.builtin "isinstance"):=by decide +kernel
theorem Zf:bootBuiltins "int"=some (.type "int"):=by decide +kernel
theorem RQ:bootBuiltins "list"=some (.type "list"):=by decide +kernel
def Np (N:List Str) (sc scope:Scope) (ts:List Str):Bool:=
 scope.names.all (λ y=>y.2 != .cell)&&scope.kind==.function&&scope.names.all (λ y=>y.2 != .local ||scope.names.lookup y.1==some .local)&&ts.all (λ t=>scope.names.lookup t==some .local)
  && scope.names.all (λ y=>y.2 != .local ||ts.contains y.1||!N.contains y.1)&&scope.names.all (λ y=>y.2 != .free ||sc.names.lookup y.1==some .cell ||sc.names.lookup y.1==some .free)&&scope.names.all (λ y=>y.1 != Str.empty)&&decide (Do ts N++ts).Nodup
theorem Ut {ts:List Str}(hN:X.N=N) (hs:X.env.scope=sc) (h:Np N sc scope ts=true):CompOkL X scope ts:=by
 unfold Np at h;simp only[z0q,z0C,z0K,z0u,bne_iff_ne,Bool.or_eq_true,ne_eq] at h;obtain⟨⟨⟨⟨⟨⟨⟨h1,h2⟩,h3⟩,h4⟩,h5⟩,h6⟩,h7⟩,h8⟩:=h;refine⟨h1,h2,λ y hy e=>?_,h4,λ y hy e=>?_,λ y hy e=>?_,h7,by rw[hN];exact h8⟩
 ·rcases h3 y hy with z | z
  ·exact absurd e z
  ·exact z
 ·rcases h5 y hy with (z | z) | z
  ·exact absurd e z
  ·exact .inl (by simpa using z)
  ·right;rw[hN];simpa using z
 ·have hk:∀ x,X.env.kindOf x=sc.names.lookup x:=λ x=>by rw[<-hs];rfl
  rw[hk]
  rcases h6 y hy with (z | z) | z
  ·exact absurd e z
  ·exact .inl z
  ·exact .inr z
abbrev V9 (N:List Str) (sc scope:Scope) (t:Str):Bool:=Np N sc scope [t]
theorem Xw {t:Str}(hN:X.N=N) (hs:X.env.scope=sc) (h:V9 N sc scope t=true):Nf X scope t:=Ut hN hs h
theorem Pg {G:Gx}{n:Nat}{sl:Array (Option Value)}{its:Array Value}{xs:List Str}(h:G.K.lookup a=some ⟨.type "tuple",od,.seq its n,sl⟩) (hz:its.size<=sizeLine) (r:Vals (xs.map V.str) its.toList):Rep G (λ _=>none) (.ref a) (.tup (xs.map .str)):=by
 refine .tup (xs:=xs.map V.str) (.inr ⟨_,its,n,h,rfl,rfl,hz,r⟩) (by simp) λ i x d h1 h2=>?_;rw[z0c] at h1 h2;cases e:xs[i]? with
 | none=>rw[e] at h1;cases h1
 | some z=>rw[e] at h1 h2;cases h1;cases h2;exact .str z
end PV
namespace PySem
end PySem
namespace PV
open PySem PySem.Spec L2
open PyProof.Rows hiding St
section
variable {G:Gx}{a b c:Expr}{fa fb fc:FE}{p2 px:Pos}{fs:FA}
def PN (X:Cx) (G:Gx) (e:Expr) (f:FE):Prop:=∀ ⦃A⦄,PE X e (tN G A f)
theorem Ij (s:Same H H') (hp:H p=none):Same (hid A H) (hid (p::A) H'):=λ b u h=>by
 unfold hid at h;split at h
 ·cases h
 ·rename_i hb;rw[Ao]
  ·exact s b u h
  ·intro z
   rcases z06.mp z with z | z
   ·rw[z,hp] at h;cases h
   ·exact hb z
theorem JP (h:PFA X G es fs):PN X G (.List es pos) (lstF fs):=λ A=>By (Yk (@h A)) λ σ H Q ⟨ρ,d,o,e,k⟩=>by
 unfold lstF at e;cases e1:fs ρ with
 | none=>simp[e1] at e
 | some ds=>
  rw[e1] at e;have e':(if ds.length<=sizeLine then some (D.lst ds) else none)=some d:=e;split at e'
  ·rename_i hz;cases e';exact⟨ρ,ds,o,e1,λ vs H1 s1 r1=>⟨by rw[r1.1];exact hz,λ p hp=>k p _ (s1.trans (Ay hp _)) (s1.free hp) ⟨vs,Ae,r1.mono (Ij (Ay hp _) hp)⟩⟩⟩
  ·cases e'
theorem Top.fill {d:D}(t:Top G A H q d) (s:Same H H') (hp:H p=none):Top G (p::A) H' q d:=by
 have sm:=Ij (A:=A) s hp;cases d with
 | lst ds=>obtain⟨xs,q1,q2⟩:=t;exact⟨xs,s _ _ q1,q2.mono sm⟩
 | dk ds=>obtain⟨xs,q1,q2,q3⟩:=t;exact⟨xs,s _ _ q1,q2,q3.mono sm⟩
 | dt ds=>obtain⟨xs,q1,q2,q3⟩:=t;exact⟨xs,s _ _ q1,q2,q3.mono sm⟩
 | ob c gs=>obtain⟨C,dx,xs,q1,q2,q3⟩:=t;exact⟨C,dx,xs,s _ _ q1,q2,q3.mono sm⟩
 | _=>exact t.elim
theorem Top.live {d:D}(t:Top G A H q d):Nt (H q):=by
 cases d with
 | lst ds=>obtain⟨xs,q1,q2⟩:=t;rw[q1];exact Nt.lst
 | dk ds=>obtain⟨xs,q1,q2,q3⟩:=t;rw[q1];exact Nt.dK
 | dt ds=>obtain⟨xs,q1,q2,q3⟩:=t;rw[q1];exact Nt.dT
 | ob c gs=>obtain⟨C,dx,xs,q1,q2,q3⟩:=t;rw[q1];exact Nt.ins
 | _=>exact t.elim
theorem BZ {α:Type}{l:List α}{x z:α}(h:(l.set i x)[j]?=some z):(j=i/\z=x/\i<l.length)∨(j≠i/\l[j]?=some z):=by
 by_cases hj:j=i
 ·subst hj
  by_cases hl:j<l.length
  ·rw[z0H hl] at h;exact .inl ⟨rfl,(z0f h).symm,hl⟩
  ·rw[z1h (by simpa using z0I.mp hl)] at h;cases h
 ·rw[z0n (Ne.symm hj)] at h;exact .inr ⟨hj,h⟩
theorem OkW.setW {ρ:Rho}{d:D}(w:OkW G A0 He A σ H ρ) (s:Same H H') (hp:H p=none) (t:Top G (p::A) H' p d) (i:Nat) (hi0:i≠0):OkW G A0 He (p::A) (σ.set i (some (.ref p))) H' (ρ.set i (.ow d)):=by
 have hf:=w.ok.fill (Hc:=H') s hp t.live;have hep:He p=none:=w.same.free hp;have npA:p∉A:=λ z=>(w.ok.live p z).ne hp;refine⟨w.same.trans s,λ a ha=>z07 _ (w.sub a ha),λ a ha=>?_,w.l0,⟨by rw[z0J,z0J];exact hf.len,hf.live,λ j e h=>?_,λ j e h=>?_,λ j k e f q h1 h2 h3 h4=>?_⟩,λ j e q h1 h2=>?_,λ x e hx h0=>by rw[z0n hi0] at h0 ⊢;exact w.lt x e hx h0⟩
 ·rcases z06.mp ha with z | z
  ·rw[z];exact .inr hep
  ·exact w.fr a z
 ·rcases BZ h with ⟨_,hz,_⟩ | ⟨hj,hz⟩
  ·cases hz
  ·obtain⟨v,q1,q2⟩:=hf.fz j e hz;exact⟨v,by rw[z0n (Ne.symm hj)];exact q1,q2⟩
 ·rcases BZ h with ⟨hj,hz,hl⟩ | ⟨hj,hz⟩
  ·cases hz;subst hj;exact⟨p,by rw[z0H (by rw[w.ok.len];exact hl)],z0k,t⟩
  ·obtain⟨v,q1,q2,q3⟩:=hf.ow j e hz;exact⟨v,by rw[z0n (Ne.symm hj)];exact q1,q2,q3⟩
 ·have no:∀ (m:Nat) (g:D),ρ[m]?=some (.ow g)->σ[m]?=some (some (.ref q))->q≠p:=λ m g a1 a2 z=>by
   obtain⟨v,b1,b2,_⟩:=w.ok.ow m g a1;rw[a2] at b1;cases b1;exact npA (z▸b2)
  rcases BZ h1 with ⟨hj,_,hl⟩ | ⟨hj,hz⟩
  ·rcases BZ h2 with ⟨hk,_,_⟩ | ⟨hk,hz'⟩
   ·rw[hj,hk]
   ·exfalso;subst hj;rw[z0H (by rw[w.ok.len];exact hl)] at h3;cases h3;rw[z0n (Ne.symm hk)] at h4;exact no k f hz' h4 rfl
  ·rcases BZ h2 with ⟨hk,_,hl⟩ | ⟨hk,hz'⟩
   ·exfalso;subst hk;rw[z0H (by rw[w.ok.len];exact hl)] at h4;cases h4;rw[z0n (Ne.symm hj)] at h3;exact no j e hz h3 rfl
   ·rw[z0n (Ne.symm hj)] at h3;rw[z0n (Ne.symm hk)] at h4;exact w.ok.inj j k e f q hz hz' h3 h4
 ·rcases BZ h1 with ⟨hj,_,hl⟩ | ⟨hj,hz⟩
  ·subst hj;rw[z0H (by rw[w.ok.len];exact hl)] at h2;cases h2;exact λ z=>w.l0 p z hep
  ·rw[z0n (Ne.symm hj)] at h2;exact w.ow0 j e q hz h2
theorem dR {ρ:Rho}{o:Out}{D:Ends}(hi0:i≠0) (w:OkW G A0 He A σ H ρ) (e:setW i fa ρ=some o) (k:Ky G A0 He D o):tAsg (tN G A fa) (GK i) D σ H:=by
 unfold setW at e;cases e1:fa ρ with
 | none=>simp[e1] at e
 | some d=>
  simp only[e1,z0w] at e;cases e;exact⟨ρ,d,w.ok,e1,λ p H1 s1 hp t=>k _ _ ⟨p::A,w.setW s1 hp t i hi0⟩⟩
theorem Zg {x:Str}{p:Pos}(h:∀ te,PE X a te->PS X (.Assign [.Name x p] a pos) (tAsg te (GK i))) (ha:PN X G a fa) (hi0:i≠0:=by decide):PSD X G (.Assign [.Name x p] a pos) (setW i fa):=λ A0 He π s σ H D I ⟨ρ,o,⟨A,w⟩,e,k⟩=>
 h _ (@ha A) π s σ H D I (dR hi0 w e k)
theorem OkW.wr {ρ:Rho}{d0 d:D}(w:OkW G A0 He A σ H ρ) (hi:ρ[i]?=some (.ow d0)) (hs:σ[i]?=some (some (.ref p))) (t:Top G A (upd H p o) p d):OkW G A0 He A σ (upd H p o) (ρ.set i (.ow d)):=by
 obtain⟨q,h1,hA,_⟩:=w.ok.ow i d0 hi;rw[hs] at h1;cases h1;have hep:He p=none:=by
  rcases w.fr p hA with z | z
  ·exact absurd z (w.ow0 i d0 p hi hs)
  ·exact z
 have eh:hid A (upd H p o)=hid A H:=Cm hA;refine⟨λ b u h=>by rw[Ad (Ak h hep)];exact w.same b u h,w.sub,w.fr,w.l0,⟨by rw[z0J];exact w.ok.len,λ b hb=>?_,λ j e h=>?_,λ j e h=>?_,λ j k e f q g1 g2 g3 g4=>?_⟩,λ j e q g1 g2=>?_,λ x e hx h0=>?_⟩
 ·by_cases z:b=p
  ·rw[z];exact t.live
  ·rw[Ad z];exact w.ok.live b hb
 ·rcases BZ h with ⟨_,hz,_⟩ | ⟨hj,hz⟩
  ·cases hz
  ·rw[eh];exact w.ok.fz j e hz
 ·rcases BZ h with ⟨hj,hz,hl⟩ | ⟨hj,hz⟩
  ·cases hz;subst hj;exact⟨p,hs,hA,t⟩
  ·obtain⟨q,q1,q2,q3⟩:=w.ok.ow j e hz;have nq:q≠p:=λ z=>hj (w.ok.inj j i e d0 p hz hi (z▸q1) hs);refine⟨q,q1,q2,?_⟩;cases e with
   | lst ds=>obtain⟨xs,a1,a2⟩:=q3;exact⟨xs,by rw[Ad nq];exact a1,by rw[eh];exact a2⟩
   | dk ds=>obtain⟨xs,a1,a2,a3⟩:=q3;exact⟨xs,by rw[Ad nq];exact a1,a2,by rw[eh];exact a3⟩
   | dt ds=>obtain⟨xs,a1,a2,a3⟩:=q3;exact⟨xs,by rw[Ad nq];exact a1,a2,by rw[eh];exact a3⟩
   | ob c gs=>obtain⟨C,dx,xs,a1,a2,a3⟩:=q3;exact⟨C,dx,xs,by rw[Ad nq];exact a1,a2,by rw[eh];exact a3⟩
   | _=>exact q3.elim
 ·have up:∀ (m:Nat) (g:D),(ρ.set i (.ow d))[m]?=some (.ow g)->∃ g',ρ[m]?=some (.ow g'):=λ m g z=>by
   rcases BZ z with ⟨hm,_,_⟩ | ⟨_,hz⟩
   ·exact⟨d0,by rw[hm];exact hi⟩
   ·exact⟨g,hz⟩
  obtain⟨e',z1⟩:=up j e g1;obtain⟨f',z2⟩:=up k f g2;exact w.ok.inj j k e' f' q z1 z2 g3 g4
 ·rcases BZ g1 with ⟨hj,_,_⟩ | ⟨hj,hz⟩
  ·subst hj;exact w.ow0 j d0 q hi g2
  ·exact w.ow0 j e q hz g2
 ·rcases BZ h0 with ⟨hj,_,_⟩ | ⟨_,hz⟩
  ·exact w.lt x d0 hx (by rw[hj];exact hi)
  ·exact w.lt x e hx hz
theorem KY {ρ:Rho}{d:D}(h:ownO ρ i=some d):ρ[i]?=some (.ow d):=by
 unfold ownO at h;split at h
 ·rename_i e;cases h;exact e
 ·cases h
theorem Xy {g:D->D->Option D}{ρ:Rho}{o:Out}(h:mutF g i fa ρ=some o):∃ v x y,fa ρ=some v/\ρ[i]?=some (.ow x)/\g x v=some y/\o=.nx (ρ.set i (.ow y)):=by
 unfold mutF at h;cases e1:fa ρ with
 | none=>simp[e1] at h
 | some v=>
  cases e2:ownO ρ i with
  | none=>simp[e1,e2] at h
  | some x=>
   cases e3:g x v with
   | none=>simp[e1,e2,e3] at h
   | some y=>
    simp[e1,e2,e3] at h;exact⟨v,x,y,rfl,KY e2,e3,h.symm⟩
theorem RV {x:Str}(hv:PE X (.Name x xpos) (tVar i)) (ha:PF X G a fa)
  (hbase:attributeBase (.Name x xpos) "append" X.env (eval (.Name x xpos) X.env)=eval (.Name x xpos) X.env:=by rfl)
  (hfew:((backTo pos (starEach [a] X.env)).all (λ x=>!x.1)&&(backToKw pos (keywordEach [] X.env)).all (λ x=>x.1.isSome)&&decide ([a].length+([]:List Keyword).length+(if ([]:List Keyword).isEmpty then 0 else 1)<30))=true:=by rfl)
  (hline:(apos.endLine==pos.line)=true:=by rfl) (hs:starEach [a] X.env=[(false,eval a X.env)]:=by rfl) (hsw:swapsWith (.Call (.Attribute (.Name x xpos) "append" apos) [a] [] pos) none p2.line X.env=pure false:=by rfl) :
  PSD X G (.Expr (.Call (.Attribute (.Name x xpos) "append" apos) [a] [] pos) p2) (mutF appL i fa):=λ A0 He π s σ H D I ⟨ρ,o,⟨A,w⟩,e,k⟩=>by
 obtain⟨v,x0,y,e1,hi,e2,rfl⟩:=Xy e;refine Ie (gj PySem.F.plainAttrs_list PySem.F.slot_list_append PySem.F.type_list_append PJ hv (Bh (@ha A) Dt hs) hbase hfew hline hs rfl) hsw π s σ H D I ?_;unfold appL at e2;split at e2
 ·rename_i ds;split at e2
  ·rename_i hz;cases e2;obtain⟨p,h1,hA,xs,h2,r⟩:=w.ok.ow i _ hi;refine⟨_,h1,.inl ⟨rfl,xs,.of h2⟩,ρ,v,w.ok,e1,λ u H1 s1 r1=>⟨p,xs,u,rfl,rfl,s1 _ _ h2,by rw[r.1];exact hz,?_⟩⟩;have w1:=w.mono s1;refine k _ _ ⟨A,w1.wr hi h1 ⟨xs++[u],Ae,?_⟩⟩;rw[Cm hA];exact (r.mono (Aq s1)).append (.cons r1 .nil)
  ·cases e2
 ·cases e2
theorem Inv.frzK {kvs:List (Key×V)}(I:Inv X π σ H s) (e:H p=some (.dK kvs)):∃ o,Inv X π σ (upd H p (.frz o (.dK kvs))) s:=by
 obtain⟨z,hd,vs,rel,dd⟩:=gr I.hok e;obtain⟨o,es,ep,ho,h2⟩:=id dd;exact⟨o,Lq (h':=s.heap) (t':=s.toks) I (by rw[e];exact True.intro) ⟨rfl,λ _ _=>rfl⟩ ⟨o,ho⟩ ⟨ho,z,hd,vs,rel,dd⟩⟩
theorem Inv.frzT (I:Inv X π σ H s) (e:H p=some (.dT kvs)):∃ o,Inv X π σ (upd H p (.frz o (.dT kvs))) s:=by
 obtain⟨z,hd,vs,rel,o,es,ep,ho,h3,h4,h5,h6⟩:=I.hok p _ e;refine⟨o,Lq (h':=s.heap) (t':=s.toks) I (by rw[e];exact True.intro) ⟨rfl,λ _ _=>rfl⟩ ⟨o,ho⟩ ⟨ho,z,hd,vs,KT.keeps rel λ c ys ec=>?_,o,es,ep,ho,h3,h4,h5,h6⟩⟩;rw[Ad (gY ec e (λ z=>nomatch z))];exact ec
theorem OkW.frzC {ρ:Rho}{d:D}(w:OkW G A0 He A σ H ρ) (hi:ρ[i]?=some (.ow d)) (h1:σ[i]?=some (some (.ref p))) (hA:p∈A) (hh:∀ b,b≠p->H' b=H b)
  (rp:Same (hid A H) (hid (A.filter λ b=>decide (b≠p)) H')->hid (A.filter λ b=>decide (b≠p)) H' p=H' p->Rep G (hid (A.filter λ b=>decide (b≠p)) H') (.ref p) d):OkS G A0 He σ H' (ρ.set i (.fz d)):=by
 have hn:=w.ow0 i d p hi h1;have hmem:∀ b,b∈A.filter (λ b=>decide (b≠p))↔b∈A/\b≠p:=λ b=>by simp[z0s]
 have sm:Same (hid A H) (hid (A.filter λ b=>decide (b≠p)) H'):=λ b o h=>by
  unfold hid at h ⊢;split at h
  ·cases h
  ·rename_i hb;have hbp:b≠p:=λ z=>hb (z▸hA);rw[if_neg (λ z=>hb ((hmem b).mp z).1),hh b hbp];exact h
 have rp:=rp sm (Ao λ z=>((hmem p).mp z).2 rfl);have hep:He p=none:=(w.fr p hA).resolve_left hn;refine⟨A.filter λ b=>decide (b≠p),λ b o h=>?_,λ b hb=>(hmem b).mpr ⟨w.sub b hb,λ z=>hn (z▸hb)⟩,λ b hb=>w.fr b ((hmem b).mp hb).1,w.l0,⟨by rw[z0J];exact w.ok.len,λ b hb=>?_,λ j e h=>?_,λ j e h=>?_,λ j k e f q g1 g2 g3 g4=>?_⟩,λ j e q g1 g2=>?_,λ x e hx h0=>?_⟩
 ·have hbp:b≠p:=λ z=>by rw[z,hep] at h;cases h
  rw[hh b hbp];exact w.same b o h
 ·obtain⟨z1,z2⟩:=(hmem b).mp hb;rw[hh b z2];exact w.ok.live b z1
 ·rcases BZ h with ⟨hj,hz,_⟩ | ⟨hj,hz⟩
  ·cases hz;subst hj;exact⟨_,h1,rp⟩
  ·obtain⟨v,q1,q2⟩:=w.ok.fz j e hz;exact⟨v,q1,q2.mono sm⟩
 ·rcases BZ h with ⟨_,hz,_⟩ | ⟨hj,hz⟩
  ·cases hz
  ·obtain⟨q,q1,q2,q3⟩:=w.ok.ow j e hz;have nq:q≠p:=λ z=>hj (w.ok.inj j i e d p hz hi (z▸q1) h1);refine⟨q,q1,(hmem q).mpr ⟨q2,nq⟩,?_⟩;cases e with
   | lst ds=>obtain⟨xs,a1,a2⟩:=q3;exact⟨xs,by rw[hh q nq];exact a1,a2.mono sm⟩
   | dk ds=>obtain⟨xs,a1,a2,a3⟩:=q3;exact⟨xs,by rw[hh q nq];exact a1,a2,a3.mono sm⟩
   | dt ds=>obtain⟨xs,a1,a2,a3⟩:=q3;exact⟨xs,by rw[hh q nq];exact a1,a2,a3.mono sm⟩
   | ob c gs=>obtain⟨C,dx,xs,a1,a2,a3⟩:=q3;exact⟨C,dx,xs,by rw[hh q nq];exact a1,a2,a3.mono sm⟩
   | _=>exact q3.elim
 ·rcases BZ g1 with ⟨_,hz,_⟩ | ⟨_,z1⟩
  ·cases hz
  ·rcases BZ g2 with ⟨_,hz,_⟩ | ⟨_,z2⟩
   ·cases hz
   ·exact w.ok.inj j k e f q z1 z2 g3 g4
 ·rcases BZ g1 with ⟨_,hz,_⟩ | ⟨_,z1⟩
  ·cases hz
  ·exact w.ow0 j e q z1 g2
 ·rcases BZ h0 with ⟨_,hz,_⟩ | ⟨_,z1⟩
  ·cases hz
  ·exact w.lt x e hx z1
theorem OkS.frz {ρ:Rho}(I:Inv X π σ H s) (w:OkS G A0 He σ H ρ) (i:Nat):∃ H',Inv X π σ H' s/\OkS G A0 He σ H' (frz1 ρ i):=by
 unfold frz1;split
 ·rename_i d hi;obtain⟨A,w⟩:=w;obtain⟨p,h1,hA,t⟩:=w.ok.ow i d hi;cases d with
  | lst ds=>
   obtain⟨xs,a1,a2⟩:=t;exact⟨H,I,w.frzC hi h1 hA (λ _ _=>rfl) λ sm hp=>.lst (.of (by rw[hp];exact a1)) (a2.mono sm).1 (a2.mono sm).2⟩
  | dk ds=>
   obtain⟨xs,a1,a2,a3⟩:=t;obtain⟨o,I'⟩:=Inv.frzK I a1;exact⟨_,I',w.frzC hi h1 hA (λ b hb=>Ad hb) λ sm hp=>.dk (by rw[hp];exact Ae) a2 (a3.mono sm).2⟩
  | dt ds=>
   obtain⟨xs,a1,a2,a3⟩:=t;obtain⟨o,I'⟩:=Inv.frzT I a1;exact⟨_,I',w.frzC hi h1 hA (λ b hb=>Ad hb) λ sm hp=>.dt (by rw[hp];exact Ae) a2 (a3.mono sm).2⟩
  | ob c gs=>
   obtain⟨C,dx,xs,a1,a2,a3⟩:=t;exact⟨H,I,w.frzC hi h1 hA (λ _ _=>rfl) λ sm hp=>.ob a2.1 (by rw[hp];exact a1) a2.2 (a3.mono sm).2⟩
  | _=>exact t.elim
 ·exact⟨H,I,w⟩
theorem V_ {π:zP}{s:Shared}{A0:List Addr}{He:Hp}{σ:St}:∀ (is:List Nat) {H:Hp}{ρ:Rho},Inv X π σ H s->OkS G A0 He σ H ρ->∃ H',Inv X π σ H' s/\OkS G A0 He σ H' (is.foldl frz1 ρ)
 | [],H,_,I,w=>⟨H,I,w⟩
 | i::r,_,_,I,w=>let ⟨_,I1,w1⟩:=w.frz I i;V_ r I1 w1
theorem Nq {g:FS}(is:List Nat) (h:PSD X G st g):PSD X G st (fzS is g):=λ A0 He π s σ H D I ⟨ρ,o,ok,e,k⟩=>
 let ⟨H',I',ok'⟩:=V_ is I ok
 @h A0 He π s σ H' D I' ⟨is.foldl frz1 ρ,o,ok',e,k⟩
end
section
variable {G:Gx}{a b c:Expr}{fa fb fc:FE}{p2 px:Pos}{t:Str}{elt iter:Expr}{ifs:List Expr}{ga:FT}{fe:FE}{src:FI}
end
end PV
namespace PV
open PySem PySem.Spec
section
variable {A:Around}
def btx (w:World):Bool:=w.params.followText "set-order"
def keyOf (e:Int×Value):Str:=match e.2 with | .str k _=>k | _=>Str.empty
def EntS (w:World) (e:Int×Value) (k:Str):Prop:=e.1=hashStr w k/\∃ t,e.2=.str k t
structure FX (w:World) (es:Array (Int×Value)) (t:SetTable) (ks:List Str):Prop where
 ent:∀ e∈es.toList,EntS w e (keyOf e)
 perm:(es.toList.map keyOf).Perm ks
 nd:ks.Nodup
 sz:es.size<scanBound
 fits:t.fits es.size=true
 led:btx w=false->t.led=true
 plain:es.size≠0->t.plain=false
def ObX (h:Heap) (a:Addr) (es:Array (Int×Value)) (t:SetTable):Prop:=∃ o ep,h.get? a=some o/\o.ExactSet/\o.data=.set es ep t
def SetX (w:World) (h:Heap) (a:Addr) (ks:List Str):Prop:=∃ es t,ObX h a es t/\FX w es t ks
theorem SetX.keep (x:SetX w h a ks) (e:∀ o,h.get? a=some o->h'.get? a=some o):SetX w h' a ks:=by
 obtain⟨es,t,⟨o,ep,g,q⟩,f⟩:=x;exact⟨es,t,⟨o,ep,e o g,q⟩,f⟩
theorem SetX.typeIs (x:SetX w s.heap a ks):s.TypeIs (.ref a) "set":=
 let ⟨_,_,⟨o,_,g,q,_⟩,_⟩:=x;⟨o,g,q.1⟩
theorem FX.len {es:Array (Int×Value)}{t:SetTable}(f:FX w es t ks):es.size=ks.length:=by simpa using f.perm.length_eq
theorem Uu {es es':Array (Int×Value)}{t t':SetTable}{Q:Unit->Shared->Prop}(x:ObX s.heap a es t) (z:es'.size<scanBound) (k:∀ h',Heap.SameBut a s.heap h'->ObX h' a es' t'->Q () { s with heap:=h' }):wpAny (model prog w) A (storeSet a es' t') Q E s:=by
 obtain⟨o,ep,g,q,d⟩:=x;refine wpAny_storeSet_of g d (k _ (Heap.SameBut.update _ _ _) ⟨{ o with data:=.set es' (ep+1) t' },ep+1,?_,q,rfl⟩) (fits_of_scanBound z);have u:=z1n (Obj.putSet es' t') g (by rw[putSet_of es' t' d];rfl)
 rwa [putSet_of es' t' d] at u
def addK (ks:List Str) (k:Str):List Str:=if k∈ks then ks else ks++[k]
theorem FX.more {es es1:Array (Int×Value)}{t t1:SetTable}{k:Str}{u:Tok}(f:FX w es t ks) (nk:k∉ks) (p:es1.toList.Perm (es.toList++[(hashStr w k,.str k u)])) (r:ks.length+1<scanBound) (q1:t1.fits es1.size=true) (q2:t1.led=t.led) (q3:t1.plain=false):FX w es1 t1 (addK ks k):=by
 have l:es1.size=es.size+1:=by simpa using p.length_eq
 unfold addK;rw[if_neg nk];refine⟨λ e m=>(z0y.mp (p.mem_iff.mp m)).elim (f.ent e) λ m=>?_,?_,List.nodup_append.mpr ⟨f.nd,by simp,λ x hx y hy e=>nk ?_⟩,by rw[l,f.len];exact r,q1,λ b=>q2.trans (f.led b),λ _=>q3⟩
 ·cases z1i.mp m;exact⟨rfl,u,rfl⟩
 ·have:=p.map keyOf;rw[z0Q] at this;exact this.trans (f.perm.append_right _)
 ·cases z1i.mp hy;rw[<-e];exact hx
end
section
variable {A:Around}{R:Result->Shared->Prop}{I:Addr}{wr:List Addr}{n:Nat}{P:Nat->Value->Prop}{Sx:Nat->Heap->Prop}
end
section
variable {A:Around}
end
section
variable {A:Around}{I T:Addr}{first:Value}{n:Nat}{es:Array (Int×Value)}{t:SetTable}
def ItX (h:Heap) (I q:Addr) (first:Value) (j n ep:Nat):Prop:=∃ o,h.get? I=some o/\o.cls=.type "set_iterator"/\o.data=.fields #[first,.int j 0,.ref q,.int n 0,.int ep 0]
def Zh (h:Heap) (q:Addr) (es:Array (Int×Value)) (ep:Nat) (t:SetTable):Prop:=∃ o,h.get? q=some o/\o.ExactSet/\o.data=.set es ep t
theorem ItX.ty (x:ItX s.heap I q first j n ep):s.TypeIs (.ref I) "set_iterator":=let ⟨o,g,c,_⟩:=x;⟨o,g,c⟩
end
section
variable {A:Around}{I T:Addr}{first:Value}{n:Nat}{es:Array (Int×Value)}{t:SetTable}
theorem Zh.keep (y:Zh h q es ep t) (e:∀ o,h.get? q=some o->h'.get? q=some o):Zh h' q es ep t:=let ⟨o,g,r⟩:=y;⟨o,e o g,r⟩
theorem ItX.keep (x:ItX h I q first j n ep) (e:∀ o,h.get? I=some o->h'.get? I=some o):ItX h' I q first j n ep:=let ⟨o,g,r⟩:=x;⟨o,e o g,r⟩
end
section
variable {A:Around}{I T:Addr}{first:Value}{n:Nat}{es:Array (Int×Value)}{t:SetTable}
end
section
variable {A:Around}{I T:Addr}
end
section
variable {A:Around}
end
open L2
section
variable {G:Gx}{a:Expr}{fa:FE}
end
end PV
namespace PV
open PySem PySem.Spec L2
open PyProof.Rows hiding St
def getK {κ:Type} [DecidableEq κ] (k:κ):List (κ×D)->Option D
 | []=>none
 | p::r=>if p.1=k then some p.2 else getK k r
def repK {κ:Type} [DecidableEq κ] (k:κ) (v:D):List (κ×D)->List (κ×D)
 | []=>[]
 | p::r=>(p.1,if p.1=k then v else p.2)::repK k v r
def putL {κ:Type} [DecidableEq κ] (k:κ) (v:D) (kds:List (κ×D)):List (κ×D):=if (getK k kds).isSome then repK k v kds else kds++[(k,v)]
def keyD:D->Option Key
 | .int i=>some (.inl i)
 | .str x=>some (.inr x)
 | _=>none
def Hn:List D->Option (List Key)
 | []=>some []
 | d::r=>(keyD d).bind λ k=>(Hn r).map (k::·)
section
variable {κ:Type} [DecidableEq κ] {G:Gx}
theorem Ik {k:κ}:∀ {kds:List (κ×D)}{kvs:List (κ×V)},kvs.map (·.1)=kds.map (·.1)->RepL G H (kvs.map (·.2)) (kds.map (·.2))->(∀ d,getK k kds=some d->∃ v,valV kvs k=some v/\Rep G H v d)/\(valV kvs k).isSome=(getK k kds).isSome
 | [],kvs,e,r=>by
  cases kvs with
  | nil=>exact⟨λ d h=>by simp[getK] at h,rfl⟩
  | cons p q=>simp at e
 | p::kds,kvs,e,r=>by
  cases kvs with
  | nil=>simp at e
  | cons q kvs=>
   rw[z04,z04] at e;injection e with e1 e2
   rw[z04,z04] at r;obtain⟨x,ys,e3,r1,r2⟩:=r.uncons;injection e3 with e4 e5
   subst e4 e5;have ih:=Ik (k:=k) e2 r2
   by_cases h:p.1=k
   ·have h':q.1=k:=e1.trans h;rw[Jb h'];refine⟨λ d hd=>?_,?_⟩
    ·simp only[getK,if_pos h] at hd;cases hd;exact⟨_,rfl,r1⟩
    ·simp[getK,if_pos h]
   ·have h':¬ q.1=k:=λ z=>h (e1.symm.trans z);rw[Jc h'];simp only[getK,if_neg h];exact ih
theorem WD {k:κ}{v:V}{d:D}(rv:Rep G H v d):∀ {kds:List (κ×D)}{kvs:List (κ×V)},kvs.map (·.1)=kds.map (·.1)->RepL G H (kvs.map (·.2)) (kds.map (·.2)) ->
  (kvs.map λ kv=>if kv.1=k then (kv.1,v) else kv).map (·.1)=(repK k d kds).map (·.1)/\RepL G H ((kvs.map λ kv=>if kv.1=k then (kv.1,v) else kv).map (·.2)) ((repK k d kds).map (·.2))
 | [],kvs,e,r=>by
  cases kvs with
  | nil=>exact⟨rfl,RepL.nil⟩
  | cons p q=>simp at e
 | p::kds,kvs,e,r=>by
  cases kvs with
  | nil=>simp at e
  | cons q kvs=>
   rw[z04,z04] at e;injection e with e1 e2
   rw[z04,z04] at r;obtain⟨x,ys,e3,r1,r2⟩:=r.uncons;injection e3 with e4 e5
   subst e4 e5;have ih:=WD rv (k:=k) e2 r2
   by_cases h:p.1=k
   ·have h':q.1=k:=e1.trans h;refine⟨?_,?_⟩
    ·simp only[z04,if_pos h',repK];rw[ih.1,e1]
    ·simp only[z04,if_pos h',repK,if_pos h];exact .cons rv ih.2
   ·have h':¬ q.1=k:=λ z=>h (e1.symm.trans z);refine⟨?_,?_⟩
    ·simp only[z04,if_neg h',repK];rw[ih.1,e1]
    ·simp only[z04,if_neg h',repK,if_neg h];exact .cons r1 ih.2
theorem Mj {k:κ}{d:D}(rv:Rep G H v d) {kds:List (κ×D)}{kvs:List (κ×V)}(e:kvs.map (·.1)=kds.map (·.1)) (r:RepL G H (kvs.map (·.2)) (kds.map (·.2))) :
  (putK kvs k v).map (·.1)=(putL k d kds).map (·.1)/\RepL G H ((putK kvs k v).map (·.2)) ((putL k d kds).map (·.2)):=by
 unfold putK putL;rw[NP,(Ik (k:=k) e r).2];split
 ·exact WD rv e r
 ·rw[z0Q,z0Q,z0Q,z0Q,e];exact⟨rfl,r.append (.cons rv .nil)⟩
end
theorem S7 {G:Gx}{d:D}{k:Key}(r:RepT G A H v d) (h:keyD d=some k):v=kV k:=by
 cases d with
 | int i=>cases h;exact r.int
 | str x=>cases h;exact r.str
 | _=>cases h
theorem Gn {G:Gx}{d:D}{k:Key}(r:Rep G H v d) (h:keyD d=some k):v=kV k:=by
 cases d with
 | int i=>cases h;cases r;rfl
 | str x=>cases h;cases r;rfl
 | _=>cases h
theorem KZ {G:Gx}{H:Hp}:∀ {ds:List D}{vs:List V}{ks:List Key},RepL G H vs ds->Hn ds=some ks->vs=ks.map kV
 | [],vs,ks,r,h=>by cases h;exact r.nil_inv
 | d::ds,vs,ks,r,h=>by
  obtain⟨x,ys,rfl,r1,r2⟩:=r.uncons;cases e1:keyD d with
  | none=>simp[Hn,e1] at h
  | some k=>
   cases e2:Hn ds with
   | none=>simp[Hn,e1,e2] at h
   | some ks'=>
    simp[Hn,e1,e2] at h;subst h;rw[Gn r1 e1,KZ r2 e2];rfl
section
variable {G:Gx}{a b c:Expr}{fa fb fc:FE}{p2 px:Pos}{fs:FA}
theorem Nr:PN X G (.Dict [] [] pos) (kF (.dk [])):=λ A=>By Yu λ σ H Q ⟨ρ,d,o,e,k⟩=>by
 cases e;exact λ p hp=>k p _ (Ay hp _) hp ⟨[],Ae,rfl,RepL.nil⟩
theorem oN:PN X G (.Dict [] [] pos) (kF (.dt [])):=λ A=>By Yv λ σ H Q ⟨ρ,d,o,e,k⟩=>by
 cases e;exact λ p hp=>k p _ (Ay hp _) hp ⟨[],Ae,rfl,RepL.nil⟩
theorem PN.pf (h:PN X G a fa):PF X G a fa:=λ A π s σ H Q I ⟨ρ,d,o,e,k⟩=>
 thn (@h A π s σ H (λ v H'=>∃ p,v=.ref p/\Same H H'/\H p=none/\Top G (p::A) H' p d) I ⟨ρ,d,o,e,λ p H' sm hp t=>⟨p,rfl,sm,hp,t⟩⟩) λ u s1 ⟨v,H1,I1,r1,p,ev,sm,hp,t⟩=>by
  subst ev;have hpA:p∉A:=λ z=>(o.live p z).ne hp;have up:∀ ob,Same (hid (p::A) H1) (hid A (upd H1 p ob)):=λ ob=>by
   rw[<-Cm (A:=p::A) (H:=H1) (o:=ob) (z0k ..)];exact Ck λ b hb=>z07 _ hb
  have sm':∀ ob,Same H (upd H1 p ob):=λ ob b u hb=>by
   rw[Ad (λ z:b=p=>by rw[z,hp] at hb;cases hb)];exact sm b u hb
  cases d with
  | lst ds=>
   obtain⟨xs,a1,a2⟩:=t;have q:=a2.mono (Ck (A:=A) (B:=p::A) (H:=H1) λ b hb=>z07 _ hb);exact⟨_,H1,I1,r1,k _ H1 sm (.lst (.of (by rw[Ao hpA];exact a1)) q.1 q.2)⟩
  | dk ds=>
   obtain⟨xs,a1,a2,a3⟩:=t;obtain⟨ob,I2⟩:=Inv.frzK I1 a1;exact⟨_,_,I2,r1,k _ _ (sm' _) (.dk (by rw[Ao hpA];exact Ae) a2 (a3.mono (up _)).2)⟩
  | dt ds=>
   obtain⟨xs,a1,a2,a3⟩:=t;obtain⟨ob,I2⟩:=Inv.frzT I1 a1;exact⟨_,_,I2,r1,k _ _ (sm' _) (.dt (by rw[Ao hpA];exact Ae) a2 (a3.mono (up _)).2)⟩
  | ob c gs=>
   obtain⟨C,dx,xs,a1,a2,a3⟩:=t;have q:=a3.mono (Ck (A:=A) (B:=p::A) (H:=H1) λ b hb=>z07 _ hb);exact⟨_,H1,I1,r1,k _ H1 sm (.ob a2.1 (by rw[Ao hpA];exact a1) a2.2 q.2)⟩
  | _=>exact t.elim
theorem oO:PF X G (.Dict [] [] pos) (kF (.dk [])):=PN.pf Nr
def rDIn (neg:Bool):R2:=λ x y H Q=>∃ a kvs k,y=.ref a/\Rd H a (.dK kvs)/\x=kV k/\Q (.bl (if neg then !(valV kvs k).isSome else (valV kvs k).isSome)) H
theorem Uv (hu:X.A.units+1<cLine):OpR X (compareOp .In) (rDIn false):=by
 intro π s σ H x y v u Q I rx ry h;obtain⟨a,kvs,k,rfl,e,rfl,q⟩:=h;cases ry;exact d_in hu I (.inl ⟨kvs,k,e,rfl,rfl⟩) rx λ s' I'=>⟨.bl _,H,I',rfl,q⟩
theorem Xz (hu:X.A.units+1<cLine):OpR X (compareOp .NotIn) (rDIn true):=by
 intro π s σ H x y v u Q I rx ry h;obtain⟨a,kvs,k,rfl,e,rfl,q⟩:=h;cases ry;exact cR hu I (.inl ⟨kvs,k,e,rfl,rfl⟩) rx λ s' I'=>⟨.bl _,H,I',rfl,q⟩
def inE (neg:Bool) (x y:D):Option D:=match y with
 | .dk kds=>(keyD x).map λ k=>.bl (if neg then !(getK k kds).isSome else (getK k kds).isSome)
 | _=>inD neg x y
theorem dU (neg:Bool):DG G (λ x y H Q=>rInA G.K neg x y H Q∨rDIn neg x y H Q) (inE neg):=by
 intro A H x y dx dy d Q lv rx ry h k;unfold inE at h;split at h
 ·rename_i kds;cases e:keyD dx with
  | none=>simp[e] at h
  | some q=>
   obtain⟨p,kvs,rfl,h1,h2,r⟩:=ry.dk;have h3:=(Ik (k:=q) h2 r).2;rw[e] at h;cases h;refine .inr ⟨p,kvs,q,rfl,h1,S7 rx e,?_⟩;rw[h3];exact k _ H (Same.refl H) (.bl _)
 ·exact .inl (j9 neg A H x y dx dy d Q lv rx ry h k)
def rDIx:R2:=λ x y H Q=>∃ a kvs k v,x=.ref a/\Rd H a (.dK kvs)/\y=kV k/\valV kvs k=some v/\Q v H
theorem oR (hu:X.A.units+1<cLine):IxR X rDIx:=by
 intro value slice π s σ H x y v u Q I rx ry h hs;obtain⟨a,kvs,k,z,rfl,e,rfl,l,q⟩:=h;cases rx;have g:DGet H a (kV k) (some z):=.inl ⟨kvs,k,e,rfl,l.symm⟩;have hT:=Sd I g;unfold subscriptTail;refine z00 ?_;rw[getitemInPython_of_ne hT.not_modules];refine z00 (wpAny_specialOf hT PySem.F.slot_dict_getitem.lookup ?_);have fin:wpAny (model X.prog X.w) X.A (subscripted slice false (.ref a) u) (λ r s₃=>wpAny (model X.prog X.w) X.A (letTemporaryGo value (.ref a) r >>= λ _=>pure r) (EP X π σ Q) X.xe s₃) X.xe s:=by
  rw[hs];exact wpAny_operating (Xn hu I g ry λ w' s3 I3 rw'=>z00 (wpAny_letTemporaryGo (z02 ⟨z,H,I3,rw',q⟩)))
 first
  | exact z02 (z00 fin)
  | exact z00 (z02 (z00 fin))
  | exact z00 fin
def ixE (x y:D):Option D:=match x with
 | .dk kds=>(keyD y).bind λ k=>getK k kds
 | _=>ixD x y
theorem dW:DG G (λ x y H Q=>rIx G.K x y H Q∨rDIx x y H Q) ixE:=by
 intro A H x y dx dy d Q lv rx ry h k;unfold ixE at h;split at h
 ·rename_i kds;cases e:keyD dy with
  | none=>simp[e] at h
  | some q=>
   obtain⟨p,kvs,rfl,h1,h2,r⟩:=rx.dk;simp[e] at h;obtain⟨v,h3,r3⟩:=(Ik (k:=q) h2 r).1 d h;exact .inr ⟨p,kvs,q,v,rfl,h1,S7 ry e,h3,k v H (Same.refl H) r3⟩
 ·exact .inl (ZK A H x y dx dy d Q lv rx ry h k)
theorem kW (hu:X.A.units+1<cLine) (hG:G.K=X.K) (ha:PU X G a fa) (hb:PU X G b fb) (hs:JZ b):PF X G (.Subscript a b pos) (bF ixE fa fb):=
 λ A=>By (gf (r:=λ x y H Q=>rIx X.K x y H Q∨rDIx x y H Q) (Yo.or (oR hu)) (@ha A) (@hb A) hs) λ _ _ _ h=>Ng (by rw[<-hG];exact dW) h
def Df (x y v:D):Option D:=match x with
 | .dk kds=>(keyD y).bind λ k=>if kds.length<sizeLine then some (.dk (putL k v kds)) else none
 | _=>none
def putF (i:Nat) (fk fv:FE):FS:=λ ρ=>(fv ρ).bind λ v=>(fk ρ).bind λ y=>(ownO ρ i).bind λ x=>(Df x y v).map λ z=>.nx (ρ.set i (.ow z))
theorem X3 {ρ:Rho}{o:Out}(h:putF i fa fb ρ=some o):∃ v y x z,fb ρ=some v/\fa ρ=some y/\ρ[i]?=some (.ow x)/\Df x y v=some z/\o=.nx (ρ.set i (.ow z)):=by
 unfold putF at h;cases e1:fb ρ with
 | none=>simp[e1] at h
 | some v=>
  cases e2:fa ρ with
  | none=>simp[e1,e2] at h
  | some y=>
   cases e3:ownO ρ i with
   | none=>simp[e1,e2,e3] at h
   | some x=>
    cases e4:Df x y v with
    | none=>simp[e1,e2,e3,e4] at h
    | some z=>
     simp[e1,e2,e3,e4] at h;exact⟨v,y,x,z,rfl,rfl,KY e3,e4,h.symm⟩
theorem RX {x:Str}(hu:X.A.units+1<cLine) (hv:PE X (.Name x xpos) (tVar i)) (ha:PF X G a fa) (hb:PF X G b fb)
  (hs:swapsWith b (some (.Subscript (.Name x xpos) a spos)) pos.line X.env=pure false:=by rfl):PSD X G (.Assign [.Subscript (.Name x xpos) a spos] b pos) (putF i fa fb):=λ A0 He π s σ H D I ⟨ρ,o,⟨A,w⟩,e,k⟩=>by
 obtain⟨v,y,x0,z,e1,e2,hi,e3,rfl⟩:=X3 e;refine Ih hu hv (@ha A) (@hb A) hs π s σ H D I ?_;unfold Df at e3;split at e3
 ·rename_i kds;cases e4:keyD y with
  | none=>simp[e4] at e3
  | some q=>
   simp only[e4,z0a] at e3;split at e3
   ·rename_i hz;cases e3;obtain⟨p,h1,hA,kvs,h2,hk,r⟩:=w.ok.ow i _ hi;refine⟨ρ,v,w.ok,e1,λ u H1 s1 r1=>⟨_,h1,ρ,y,(w.mono s1).ok,e2,λ yv H2 s2 r2=>?_⟩⟩;have ek:=Gn r2 e4;subst ek;have hl:kvs.length<sizeLine:=by
     have:=congrArg List.length hk;rw[z01,z01] at this;omega
    refine⟨p,_,rfl,DPut.k (s2 _ _ (s1 _ _ h2)) hl,?_⟩;have w2:=(w.mono s1).mono s2;have pk:=Mj (k:=q) (r1.mono (Aq s2)) hk (r.mono (Aq (s1.trans s2)));refine k _ _ ⟨A,w2.wr hi h1 ⟨_,Ae,pk.1,?_⟩⟩;rw[Cm hA];exact pk.2
   ·cases e3
 ·cases e3
end
theorem G6 {α β:Type}{R:α->β->Prop}:∀ {xs:List α}{ys:List β}{i:Nat}{x:α}{y:β},Paired R xs ys->xs[i]?=some x->ys[i]?=some y->R x y
 | _,_,i,x,y,.nil,h,_=>by simp at h
 | _,_,0,x,y,.cons r _,h1,h2=>by
  simp at h1 h2;rw[<-h1,<-h2];exact r
 | _,_,i+1,x,y,.cons _ t,h1,h2=>G6 t (by simpa using h1) (by simpa using h2)
def Itd (a:Addr) (o:Obj) (kvs:List (Key×V)):It:=
 ⟨λ i H=>H a=some (.frz o (.dK kvs))/\i<kvs.length,λ i H x H'=>H'=H/\∃ p,kvs[i]?=some p/\x=kV p.1,λ i H=>H a=some (.frz o (.dK kvs))/\kvs.length<=i⟩
theorem relK {k:Key}(h:(BK P w).is k u=true):RelV (kV k) u:=by
 rcases Bo h with ⟨i,t,rfl,rfl⟩ | ⟨x,t,rfl,rfl⟩
 ·exact⟨t,rfl⟩
 ·exact⟨t,rfl⟩
theorem Ka {o:Obj}{kvs:List (Key×V)}{es:Array DictEntry}(I:Inv X π σ H s) (e:H a=some (.frz o (.dK kvs))) (hd:o.data=.dict es ep) :
  (a==sysModules)=false/\∃ vs,KV kvs vs/\s.heap.DictAt (BK X.prog X.w) a vs ep:=by
 obtain⟨ho,z,hm,vs,rel,o',es',ep',ho',h1,h2,h3⟩:=(show Bg X.prog X.w H s.heap a (.frz o (.dK kvs)) from I.hok a _ e);rw[ho] at ho';cases ho';rw[hd] at h2;cases h2;exact⟨hm,vs,rel,o,es,ho,h1,hd,h3⟩
theorem X4 {K:zFr}(a it:Addr) {o:Obj}{es:Array DictEntry}{ep:Nat}(hd:o.data=.dict es ep) (kvs:List (Key×V)):Turn P w K tg (Itd a o kvs) [it] it (λ i h=>h.IsKeyIter it a i kvs.length ep) where
 mem:=by simp
 obj:=λ i h st b hb=>by
  have e:b=it:=by simpa using hb
  subst e;obtain⟨o,e,c,d⟩:=st;exact⟨o,e,λ v z=>by rw[d] at z;cases z⟩
 keep:=λ i h h' st k=>let ⟨o,e,c,d⟩:=st;⟨o,k it (by simp) o e,c,d⟩
 item:=by
  intro X hP hw hK hc i π s σ H E I hf st hg;subst hP hw hK;obtain⟨he,hi⟩:=hg;obtain⟨hm,vs,rel,dd⟩:=Ka I he hd;have hl:kvs.length=vs.length:=rel.length;obtain⟨f0,f1,f2,f3,f4,f5⟩:=hf it (by simp);have hv:vs[i]?=some (vs[i]'(by omega)):=by simp[show i<vs.length by omega]
  have hk:kvs[i]?=some (kvs[i]'hi):=by simp[hi]
  have hkk:(kvs[i]'hi).1=(vs[i]'(by omega)).1:=(G6 rel hk hv).1;refine wpAny_pyNext_dict_item (knd:=BK X.prog X.w) (kvs:=vs) (k:=(vs[i]'(by omega)).1) (v:=(vs[i]'(by omega)).2) (by rw[<-hl];exact st) dd hv λ key h' hkey st' sb=>?_;rw[<-hl] at st';have I1:Inv X π σ H { s with heap:=h' }:=I.turned (t':=s.toks) (λ b o hb e=>(sb.2 b hb).trans e) f0 f1 f3 f4 f5;obtain⟨o1,e1,c1,d1⟩:=id st';exact⟨key,rfl,SM (s:={ s with heap:=h' }) e1 c1 d1 (by decide) ⟨kV (kvs[i]'hi).1,H,I1,by rw[hkk];exact relK hkey,⟨rfl,_,hk,rfl⟩,st',λ b hb=>(hf b hb).1⟩⟩
 done:=by
  intro X hP hw hK hc i π s σ H E I hf st hg;subst hP hw hK;obtain⟨he,hi⟩:=hg;obtain⟨hm,vs,rel,dd⟩:=Ka I he hd;have hl:kvs.length=vs.length:=rel.length;obtain⟨f0,f1,f2,f3,f4,f5⟩:=hf it (by simp);exact wpAny_pyNext_dict_end (I.ok.hd hc) (by rw[<-hl];exact st) dd (by rw[z1h];omega) λ h' eb=>⟨rfl,I.turned (t':=s.toks) (λ b o hb e=>eb b o hb e) f0 f1 f3 f4 f5⟩
 self:=λ _ _ _ _ _ st h=>wpAny_pyIter_keyiter st h
section
variable {G:Gx}{a b c:Expr}{fa fb fc:FE}{p2:Pos}{tl:TE}
def oU (tl:TE):TI:=λ σ H R=>tl σ H λ x H1=>∃ a o kvs,x=.ref a/\H1 a=some (.frz o (.dK kvs))/\R (Itd a o kvs) H1
theorem dX (hl:PE X l tl):PI X tg l (oU tl):=by
 intro π s σ H R I h;refine thn (hl π s σ H _ I h) λ v s1 ⟨x,H1,I1,r1,q1⟩=>?_;obtain⟨a,o,kvs,e,hq,q⟩:=q1;subst e;cases r1;obtain⟨_,_,_,_,_,o',es,ep,ho',h1,h2,_⟩:=(show Bg X.prog X.w H1 s1.heap a (.frz o (.dK kvs)) from I1.hok a _ hq);obtain⟨ho,_⟩:=(show Bg X.prog X.w H1 s1.heap a (.frz o (.dK kvs)) from I1.hok a _ hq);rw[ho] at ho';cases ho';obtain⟨hm,vs,rel,dd⟩:=Ka I1 hq h2;have hl':kvs.length=vs.length:=rel.length;refine wpAny_pyIter_dict hm dd ?_;refine⟨s1.heap.objs.size,[s1.heap.objs.size],_,_,H1,rfl,I1.kept (t':=s1.toks) λ b o e=>z08 _ e,X4 a _ h2 kvs,⟨_,z0l _ rfl,rfl,by rw[hl'];rfl⟩,λ b hb=>?_,q⟩;have e:b=s1.heap.objs.size:=by simpa using hb
 subst e;exact I1.fpOk (z03 _) (I1.hok.fresh (z03 _))
def kDt:Key->D
 | .inl i=>.int i
 | .inr x=>.str x
theorem Ml (k:Key):Rep G H (kV k) (kDt k):=by
 cases k with
 | inl i=>exact .int i
 | inr x=>exact .str x
def seqE (f:FE):FI:=λ ρ=>match f ρ with | some (.lst ds)=>some ds | some (.tup ds)=>some ds | some (.dk kds)=>some (kds.map λ p=>kDt p.1) | _=>none
theorem Zi {o:Obj}{kvs:List (Key×V)}{kds:List (Key×D)}(h:F1 p=some (.frz o (.dK kvs))) (e:kvs.map (·.1)=kds.map (·.1)):Src G (Itd p o kvs) (kds.map λ p=>kDt p.1) F1 F2:=by
 have hl:kvs.length=kds.length:=by have:=congrArg List.length e;rwa [z01,z01] at this
 refine⟨λ i H s hi=>⟨s _ _ h,by rw[hl];rwa [z01] at hi⟩,λ i H x H' d s hd y=>?_,λ i H s hi=>⟨s _ _ h,by rw[hl];rwa [z01] at hi⟩⟩;obtain⟨y1,q,y2,y3⟩:=y;refine Nk ⟨y1,?_⟩;have e1:(kvs.map (·.1))[i]?=some q.1:=by rw[z0c,y2];rfl
 rw[e,z0c] at e1;rw[z0c] at hd;cases e2:kds[i]? with
 | none=>rw[e2] at hd;cases hd
 | some z=>
  rw[e2] at e1 hd;cases hd;injection e1 with e1
  rw[y3,<-e1];exact Ml _
theorem Zj (hG:G.K=X.K) (h:PF X G a fa):PFI X G false tg a (seqE fa):=λ A=>Pb (piOr (dM hG h (A:=A)) (dX (@h A))) λ σ H R ⟨ρ,ds,o,e,k⟩=>by
 unfold seqE at e;split at e
 ·rename_i ds' e1;cases e;exact .inl ⟨ρ,_,o,by unfold seqI;rw[e1],k⟩
 ·rename_i ds' e1;cases e;exact .inl ⟨ρ,_,o,by unfold seqI;rw[e1],k⟩
 ·rename_i kds e1;cases e;refine .inr ⟨ρ,_,o,e1,λ v H1 s1 r1=>?_⟩;cases r1 with
  | dk h l r=>exact⟨_,_,_,rfl,Ai _ _ h,k _ H1 s1 (Zi h l)⟩
 ·cases e
end
section
variable {A:Around}
theorem oV {l:Addr}{its:Array Value}(ne:l≠it):∀ (m i:Nat) (s:Shared) (Q:List Value->Shared->Prop),s.heap.IsListIter it l i->s.heap.IsList l its->i+m=its.size ->
  (∀ h',h'.IsListIter it l its.size->Heap.SameBut it s.heap h'->Q (its.toList.drop i) { s with heap:=h' })->wpAny (model prog w) A (draw (.ref it) m) Q E s:=by
 intro m
 induction m with
 | zero=>
  intro i s Q hi hl hm k;refine z02 ?_;have hz:i=its.size:=by omega
  have e:its.toList.drop i=[]:=by rw[List.drop_eq_nil_iff];simp[hz]
  rw[<-e];exact k s.heap (hz▸hi) (Heap.SameBut.refl ..)
 | succ m ih=>
  intro i s Q hi hl hm k;have lt:i<its.size:=by omega
  refine z00 (m:=pyNext (.ref it)) (wpAny_pyNext_list_item hi hl (x:=its[i]) (by simp[lt]) λ h1 hi1 sb1=>?_);have hl1:h1.IsList l its:=let ⟨o,e,r⟩:=hl;⟨o,(sb1.2 l ne).trans e,r⟩;refine z00 (z0X (ih (i+1) _ _ hi1 hl1 (by omega) λ h2 hi2 sb2=>z02 ?_));have e:its.toList.drop i=its[i]::its.toList.drop (i+1):=by simp[z1k,lt]
  rw[<-e];exact k h2 hi2 (sb1.trans sb2)
theorem dY {l:Addr}{its:Array Value}{Q:List Value->Shared->Prop}(hh:A.handled=none) (hl:s.heap.IsList l its)
  (k:∀ h',Heap.ExtBut s.heap.objs.size s.heap h'->Q its.toList { s with heap:=h' }):wpAny (model prog w) A (unpackItems (.ref l) its.size none) Q E s:=by
 have ne:l≠s.heap.objs.size:=by obtain⟨o,ho,_⟩:=hl;exact z0e (z05 ho)
 have ty:s.TypeIs (.ref l) "list":=let ⟨o,e,c,_⟩:=hl;⟨o,e,c⟩;unfold unpackItems notIterableAtAll;refine z00 (z00 (wpAny_specialOf ty PySem.F.slot_list_iter.lookup (z02 ?_)));simp only[Bool.false_eq_true,if_false];refine z00 (z0X (wpAny_pyIter_list hl ?_));have hl0:(s.heap.push { cls:=.type "list_iterator",data:=.fields #[.ref l,.int 0 0] }).IsList l its:=let ⟨o,e,r⟩:=hl;⟨o,z08 _ e,r⟩;refine z00 (z0X (oV ne its.size 0 _ _ ⟨_,z0l _ rfl,rfl,rfl⟩ hl0 (by omega) λ h1 hi1 sb1=>?_));rw[List.drop_zero,if_neg (by simp)];have hl1:h1.IsList l its:=let ⟨o,e,r⟩:=hl0;⟨o,(sb1.2 l ne).trans e,r⟩;refine z00 (z0X (wpAny_pyNext_list_end hh hi1 hl1 (by simp) λ h2 eb=>?_));simp only[Option.isSome_none,Bool.false_eq_true,if_false];exact z02 (k h2 λ b o hb e=>eb b o hb ((sb1.2 b hb).trans (z08 _ e)))
end
section
variable {G:Gx}{a b c:Expr}{fa fb fc:FE}{p2:Pos}
def gLst (K:zFr) (n:Nat) (t:TGs):TG:=λ v σ H Q=>∃ a xs,v=.ref a/\SqL K H a xs/\xs.length=n/\t xs σ H Q
theorem kZ {k:Nat}{t:TGs}{n:Nat}(hc:X.calm=true) (h:PGs X es t)
  (hn:(assignEach es X.env).length=n:=by rfl) (hst:(assignEach es X.env).findIdx? (·.1)=none:=by rfl):PG X (.Tuple es k pos) (gLst X.K n t):=by
 intro π s σ H v u Q I r hw;obtain⟨a,xs,rfl,hq,hl,hw⟩:=hw;cases r;obtain⟨its,rv,ht,hz⟩:=I.list hq;rw[assign_Tuple];refine z00 (wpAny_standAt ?_);unfold unpack;have e:(assignEach es X.env).length=its.toArray.size:=by simp[hn,<-hl,rv.length]
 rw[e,hst];refine z00 (z0X (dY (I.ok.hd hc) ht.isList λ h' hx=>?_));have I1:Inv X π σ H { s with heap:=h' }:=I.kept (t':=s.toks) λ b o e=>hx b o (z0e (z05 e)) e;exact h π _ σ H xs _ Q I1 (by simpa using rv) hw
theorem PG.or {t t':TG}(h:PG X tg t) (h':PG X tg t'):PG X tg (λ v σ H Q=>t v σ H Q∨t' v σ H Q):=λ π s σ H v u Q I r q=>by
 rcases q with q | q
 ·exact h π s σ H v u Q I r q
 ·exact h' π s σ H v u Q I r q
abbrev FGs:=List D->Rho->Option Rho
def nilG:FGs:=λ ds ρ=>match ds with | []=>some ρ | _=>none
def Bq (i:Nat) (g:FGs):FGs:=λ ds ρ=>match ds with | d::r=>g r (ρ.set i (.fz d)) | []=>none
def tupG (n:Nat) (g:FGs):FG:=λ d ρ=>match d with
 | .tup ds=>if ds.length=n then g ds ρ else none
 | .lst ds=>if ds.length=n then g ds ρ else none
 | _=>none
def tGDs (G:Gx) (A0:List Addr) (He:Hp) (g:FGs):TGs:=λ vs σ H Q=>∃ A ρ ds ρ',OkW G A0 He A σ H ρ/\RepL G (hid A H) vs ds/\g ds ρ=some ρ'/\∀ σ' H',OkS G A0 He σ' H' ρ'->Q σ' H'
def PGDs (X:Cx) (G:Gx) (es:List Expr) (g:FGs):Prop:=∀ ⦃A0⦄ He,PGs X es (tGDs G A0 He g)
theorem Jj:PGDs X G [] nilG:=λ A0 He π s σ H vs us Q I r ⟨A,ρ,ds,ρ',w,rv,e,k⟩=>by
 unfold nilG at e;split at e
 ·cases e;exact cB π s σ H vs us Q I r ⟨rv.nil_inv,k _ _ ⟨A,w⟩⟩
 ·cases e
theorem DR {g:FGs}(h1:PG X e (GK i)) (h2:PGDs X G es g)
  (hs:(assignEach (e::es) X.env).map (·.2)=assign e X.env::(assignEach es X.env).map (·.2):=by rfl):PGDs X G (e::es) (Bq i g):=λ A0 He π s σ H vs us Q I r ⟨A,ρ,ds,ρ',w,rv,e,k⟩=>by
 unfold Bq at e;split at e
 ·rename_i d ds';obtain⟨x,ys,rfl,r1,r2⟩:=rv.uncons;exact Yb h1 (@h2 A0 He) hs π s σ H _ us Q I r ⟨x,ys,rfl,A,_,ds',ρ',w.set r1 i,r2,e,k⟩
 ·cases e
theorem Mm {k n:Nat}{g:FGs}(hG:G.K=X.K) (hc:X.calm=true) (h:PGDs X G es g)
  (hn:(assignEach es X.env).length=n:=by rfl) (hst:(assignEach es X.env).findIdx? (·.1)=none:=by rfl):PGD X G (.Tuple es k pos) (tupG n g):=λ A0 He π s σ H v u Q I r ⟨A,ρ,d,ρ',w,rv,e,k⟩=>by
 refine PG.or (jZ hc (@h A0 He) hn hst) (kZ hc (@h A0 He) hn hst) π s σ H v u Q I r ?_;unfold tupG at e;split at e
 ·rename_i ds;split at e
  ·rename_i hl;cases rv with
   | tup h1 l1 r1=>exact .inl ⟨_,_,rfl,by rw[<-hG];exact Fp Ai h1,by rw[l1];exact hl,A,ρ,ds,ρ',w,⟨l1,r1⟩,e,k⟩
  ·cases e
 ·rename_i ds;split at e
  ·rename_i hl;cases rv with
   | lst h1 l1 r1=>exact .inr ⟨_,_,rfl,by rw[<-hG];exact Ai.seq h1,by rw[l1];exact hl,A,ρ,ds,ρ',w,⟨l1,r1⟩,e,k⟩
  ·cases e
 ·cases e
def asgF (f:FE) (g:FG):FS:=λ ρ=>(f ρ).bind λ d=>(g d ρ).map .nx
theorem dZ {g:FG}(hg:PGD X G tg g) (ha:PF X G a fa) (hs:swapsWithSole [tg] a pos.line X.env=pure false:=by rfl) (hw:swappedStores [tg] a X.env=pure none:=by rfl)
  (h1:(assignEach [tg] X.env).map (·.2)=[assign tg X.env]:=by rfl):PSD X G (.Assign [tg] a pos) (asgF fa g):=λ A0 He π s σ H D I ⟨ρ,o,⟨A,w⟩,e,k⟩=>by
 unfold asgF at e;cases e1:fa ρ with
 | none=>simp[e1] at e
 | some d=>
  cases e2:g d ρ with
  | none=>simp[e1,e2] at e
  | some ρ'=>
   simp[e1,e2] at e;subst e;exact jb (@ha A) (@hg A0 He) hs hw h1 π s σ H D I ⟨ρ,d,w.ok,e1,λ v H1 s1 r1=>⟨A,ρ,d,ρ',w.mono s1,r1,e2,λ σ' H' ok=>k σ' H' ok⟩⟩
theorem Bk:Dn X (.builtin "len") (λ xs H Q=>∃ a kvs,xs=[V.ref a]/\Rd H a (.dK kvs)/\Q (.int kvs.length) H):=by
 intro π s σ H xs us Q I rs h;obtain⟨a,kvs,rfl,e,q⟩:=h;obtain⟨u,rfl,ru⟩:=rs.one;cases ru;exact n_ I e λ t s' I'=>⟨.int kvs.length,H,I',⟨t,rfl⟩,q⟩
def lenE:D->Option D
 | .dk kds=>some (.int kds.length)
 | d=>lenD d
theorem Cv:SndC G (λ xs H Q=>(∃ x n,xs=[x]/\LenV G.K x H n/\Q (.int n) H)∨∃ a kvs,xs=[V.ref a]/\Rd H a (.dK kvs)/\Q (.int kvs.length) H) lenE:=by
 intro A H x dx d Q lv rx h k;unfold lenE at h;split at h
 ·cases h;obtain⟨p,kvs,rfl,h1,h2,r⟩:=rx.dk;have hl:=congrArg List.length h2;rw[z01,z01] at hl;refine .inr ⟨p,kvs,rfl,h1,?_⟩;rw[hl];exact k _ H (Same.refl H) (.int _)
 ·exact .inl (V7 A H x dx d Q lv rx h k)
end
def Iti (a:Addr) (o:Obj) (kvs:List (Key×V)):It:=
 ⟨λ i H=>H a=some (.frz o (.dK kvs))/\i<kvs.length,λ i H x H'=>∃ T p,H T=none/\kvs[i]?=some p/\x=.ref T/\H'=upd H T (.tup [kV p.1,p.2]),λ i H=>H a=some (.frz o (.dK kvs))/\kvs.length<=i⟩
theorem Uw {K:zFr}(a it:Addr) {o:Obj}{es:Array DictEntry}{ep:Nat}(hd:o.data=.dict es ep) (kvs:List (Key×V)) :
  Turn P w K (.Tuple elts x1 tp) (Iti a o kvs) [it] it (λ i h=>∃ ok ov,IsItemIter h it a i kvs.length ep ok ov) where
 mem:=by simp
 obj:=λ i h st b hb=>by
  have e:b=it:=by simpa using hb
  subst e;obtain⟨ok,ov,e⟩:=st;exact⟨_,e,λ v z=>by
   have z':Data.fields _=Data.cell v:=z;cases z'⟩
 keep:=λ i h h' st k=>let ⟨ok,ov,e⟩:=st;⟨ok,ov,k it (by simp) _ e⟩
 item:=by
  intro X hP hw hK hc i π s σ H E I hf st hg;subst hP hw hK;obtain⟨he,hi⟩:=hg;obtain⟨ok,ov,st⟩:=st;obtain⟨hm,vs,rel,dd⟩:=Ka I he hd;have hl:kvs.length=vs.length:=rel.length;obtain⟨f0,f1,f2,f3,f4,f5⟩:=hf it (by simp);have hv:vs[i]?=some (vs[i]'(by omega)):=by simp[show i<vs.length by omega]
  have hk:kvs[i]?=some (kvs[i]'hi):=by simp[hi]
  obtain⟨hkk,hvv⟩:=G6 rel hk hv;have hlt:it<s.heap.objs.size:=z05 st;refine wpAny_pyNext_items_item (knd:=BK X.prog X.w) (kvs:=vs) (k:=(vs[i]'(by omega)).1) (v:=(vs[i]'(by omega)).2) (by rw[<-hl];exact st) dd hv λ key h1 hkey out ht hz kk=>?_;refine⟨_,rfl,wpAny_letOwnedTupleGo_items (s:={ s with heap:=h1 }) out λ h2 st2 sb=>?_⟩;have hT:H s.heap.objs.size=none:=I.hok.fresh (z03 _);have rk:RelV (kV (kvs[i]'hi).1) key:=by rw[hkk];exact relK hkey
  have I1:Inv X π σ (upd H s.heap.objs.size (.tup [kV (kvs[i]'hi).1,(kvs[i]'hi).2])) { s with heap:=s.heap.push { cls:=.type "tuple",data:=.seq #[key,(vs[i]'(by omega)).2] } }:=
   I.laid (a:=s.heap.objs.size) (t':=s.toks) (λ b u e=>z08 _ e) (z03 _) ⟨by show 2<=sizeLine;decide,[key,(vs[i]'(by omega)).2],.cons rk (.cons hvv .nil),_,z0l _ rfl,rfl,_,rfl⟩
  have kp:∀ b u,b≠it->(s.heap.push { cls:=.type "tuple",data:=.seq #[key,(vs[i]'(by omega)).2] }).get? b=some u->h2.get? b=some u:=λ b u hb e=>by
   refine (sb.2 b hb).trans ?_
   rcases Heap.get?_push_cases e with ⟨rfl,rfl⟩ | e'
   ·exact ht
   ·exact kk b u hb e'
  have I2:=L2.Inv.turned (t':=s.toks) (it:=it) (h':=h2) I1 kp (by rw[Ad (z0e hlt)];exact f0) f1 f3 f4 f5;refine⟨.ref s.heap.objs.size,_,I2,rfl,⟨_,_,hT,hk,rfl,rfl⟩,⟨key,(vs[i]'(by omega)).2,by rw[hl];exact st2⟩,λ b hb=>?_⟩;have e:b=it:=by simpa using hb
  subst e;rw[Ad (z0e hlt)];exact f0
 done:=by
  intro X hP hw hK hc i π s σ H E I hf st hg;subst hP hw hK;obtain⟨he,hi⟩:=hg;obtain⟨ok,ov,st⟩:=st;obtain⟨hm,vs,rel,dd⟩:=Ka I he hd;have hl:kvs.length=vs.length:=rel.length;obtain⟨f0,f1,f2,f3,f4,f5⟩:=hf it (by simp);exact wpAny_pyNext_items_end (I.ok.hd hc) (by rw[<-hl];exact st) dd (by rw[z1h];omega) λ h' eb=>⟨rfl,I.turned (t':=s.toks) (λ b o hb e=>eb b o hb e) f0 f1 f3 f4 f5⟩
 self:=λ _ _ _ _ _ ⟨ok,ov,st⟩ h=>PySem.W.kcp_self st h
section
variable {G:Gx}{a b c:Expr}{fa fb fc:FE}{p2:Pos}{tl:TE}
def kh (tl:TE):TI:=λ σ H R=>tl σ H λ x H1=>∃ a o kvs,x=.ref a/\H1 a=some (.frz o (.dK kvs))/\R (Iti a o kvs) H1
theorem Zk {cpos:Pos}(hl:PE X l tl) (hbase:attributeBase l "items" X.env (eval l X.env)=eval l X.env:=by rfl) (hline:(apos.endLine==cpos.line)=true:=by rfl) :
  PI X (.Tuple elts x1 tp) (.Call (.Attribute l "items" apos) [] [] cpos) (kh tl):=by
 intro π s σ H R I h;refine wpAny_Call_method (T:="dict") (id:="dict.items") hbase rfl hline F.plainAttrs_dict F.slot_dict_items F.type_dict_items (thn (hl π s σ H _ I h) λ v s1 ⟨x,H1,I1,r1,q1⟩=>?_);obtain⟨a,o,kvs,e,hq,q⟩:=q1;subst e;cases r1;obtain⟨_,_,_,_,_,o',es,ep,ho',h1,h2,_⟩:=(show Bg X.prog X.w H1 s1.heap a (.frz o (.dK kvs)) from I1.hok a _ hq);obtain⟨ho,_⟩:=(show Bg X.prog X.w H1 s1.heap a (.frz o (.dK kvs)) from I1.hok a _ hq);rw[ho] at ho';cases ho';obtain⟨hm,vs,rel,dd⟩:=Ka I1 hq h2;have hl':kvs.length=vs.length:=rel.length;have hm1:=dd.dictOf;refine⟨hm1.typeIs,hm1.mapOf.noDict,?_⟩;show wpAny _ _ (callWith cpos (.builtin "dict.items") [.ref a] [] []) _ _ s1;refine method_meetsIn F.slot_dict_items F.entry_dict_items rfl (PySem.evalArgs_none ⟨rfl,hm1.typeIs,F.args_dict_items_1 _,_,meets_dict_items (BK X.prog X.w) a hm,⟨vs,hm1⟩,?_⟩);have I2:Inv X π σ H1 { s1 with heap:=s1.heap.push { cls:=.type "dict_items",data:=.fields #[.ref a] } }:=I1.kept (t':=s1.toks) λ b o e=>z08 _ e;refine wpAny_pyIter_items (knd:=BK X.prog X.w) (kvs:=vs) (s:={ s1 with heap:=s1.heap.push { cls:=.type "dict_items",data:=.fields #[.ref a] } }) ⟨_,z0l _ rfl,rfl,rfl⟩ (dd.push _) ?_;refine⟨(s1.heap.push { cls:=.type "dict_items",data:=.fields #[.ref a] }).objs.size,[(s1.heap.push { cls:=.type "dict_items",data:=.fields #[.ref a] }).objs.size],_,_,H1,rfl,I2.kept (t':=s1.toks) λ b o e=>z08 _ e,Uw a _ h2 kvs,⟨.none,.none,?_⟩,λ b hb=>?_,q⟩
 ·rw[hl'];exact z0l _ rfl
 ·have e:b=(s1.heap.push { cls:=.type "dict_items",data:=.fields #[.ref a] }).objs.size:=by simpa using hb
  subst e;exact I2.fpOk (z03 _) (I2.hok.fresh (z03 _))
def JQ (f:FE):FI:=λ ρ=>match f ρ with | some (.dk kds)=>some (kds.map λ p=>.tup [kDt p.1,p.2]) | _=>none
theorem Zm {α β:Type}{f:α->β}{l:List α}{y:β}(h:(l.map f)[i]?=some y):∃ x,l[i]?=some x/\f x=y:=by
 rw[z0c] at h;exact Option.map_eq_some_iff.mp h
theorem X5 {o:Obj}{kvs:List (Key×V)}{kds:List (Key×D)}(h:F1 p=some (.frz o (.dK kvs))) (e:kvs.map (·.1)=kds.map (·.1)) (r:RepL G F2 (kvs.map (·.2)) (kds.map (·.2))) :
  Src G (Iti p o kvs) (kds.map λ p=>.tup [kDt p.1,p.2]) F1 F2:=by
 have hl:kvs.length=kds.length:=by have:=congrArg List.length e;rwa [z01,z01] at this
 refine⟨λ i H s hi=>⟨s _ _ h,by rw[hl];rwa [z01] at hi⟩,λ i H x H' d s hd y=>?_,λ i H s hi=>⟨s _ _ h,by rw[hl];rwa [z01] at hi⟩⟩;obtain⟨T,q,hT,y2,rfl,rfl⟩:=y;obtain⟨z,hz,rfl⟩:=Zm hd;have e1:(kvs.map (·.1))[i]?=some q.1:=by rw[z0c,y2];rfl
 rw[e,z0c,hz] at e1;injection e1 with e1
 have rz:Rep G F2 q.2 z.2:=r.2 i q.2 z.2 (by rw[z0c,y2];rfl) (by rw[z0c,hz];rfl);refine⟨Ay hT _,λ B lv sm=>?_⟩;have rr:RepL G (hid B H) [kV q.1,q.2] [kDt z.1,z.2]:=.cons (by rw[<-e1];exact Ml _) (.cons (rz.mono sm) .nil);exact Hk lv hT rr
theorem Ph {top:Bool}{cpos:Pos}(h:PF X G a fa) (hbase:attributeBase a "items" X.env (eval a X.env)=eval a X.env:=by rfl) (hline:(apos.endLine==cpos.line)=true:=by rfl) :
  PFI X G false (.Tuple elts x1 tp) (.Call (.Attribute a "items" apos) [] [] cpos) (JQ fa):=λ A=>Pb (Zk (@h A) hbase hline) λ σ H R ⟨ρ,ds,o,e,k⟩=>by
 unfold JQ at e;split at e
 ·rename_i kds e1;cases e;refine⟨ρ,_,o,e1,λ v H1 s1 r1=>?_⟩;cases r1 with
  | dk h l r=>exact⟨_,_,_,rfl,Ai _ _ h,k _ H1 s1 (X5 h l ⟨by have:=congrArg List.length l;rwa [z01,z01] at this ⊢,r⟩)⟩
 ·cases e
end
section
variable {G:Gx}{a b c:Expr}{fa fb fc:FE}{p2:Pos}{fs:FA}
theorem WF {P:Program}{w:World}:∀ {kvs:List (Key×V)}{us:List Value},us.length=kvs.length->(∀ (j:Nat) u,us[j]?=some u->∃ p,kvs[j]?=some p/\(BK P w).is p.1 u=true)->Vals (kvs.map λ p=>kV p.1) us
 | [],us,hl,_=>by
  have:us=[]:=List.eq_nil_of_length_eq_zero hl;subst this;exact .nil
 | p::kvs,[],hl,_=>by simp at hl
 | p::kvs,u::us,hl,h=>by
  obtain⟨q,h1,h2⟩:=h 0 u rfl;simp at h1;subst h1;exact .cons (relK h2) (WF (P:=P) (w:=w) (by simpa using hl) λ j v hv=>by simpa using h (j+1) v (by simpa using hv))
theorem Jk (hc:X.calm=true):Dn X (.type "list") (λ xs H Q=>∃ p kvs,xs=[.ref p]/\Rd H p (.dK kvs)/\∀ l,H l=none->Q (.ref l) (upd H l (.lst (kvs.map λ q=>kV q.1)))):=by
 intro π s σ H xs us Q I r h;obtain⟨p,kvs,rfl,e,q⟩:=h;obtain⟨u,rfl,ru⟩:=r.one;cases ru;obtain⟨z,hd,vs,rel,dd⟩:=Hh I.hok e;obtain⟨ep,dd⟩:=dd.dictAt;have hl:kvs.length=vs.length:=rel.length;refine PySem.W.kdl_call (PySem.W.kdl_dict (knd:=BK X.prog X.w) (kvs:=vs) (ep:=ep) hd) (I.ok.hd hc) dd (by omega) λ h' tk acc c' kp hn hi=>?_;have va:Vals (kvs.map λ q=>kV q.1) acc.toList:=by
  refine WF (P:=X.prog) (w:=X.w) (by simp[hi.1,hl]) λ j u hu=>?_;obtain⟨k,x,h1,h2⟩:=hi.2 j u (by simpa using hu);have hj:j<kvs.length:=by rw[hl];exact (z0z.mp h1).1
  refine⟨kvs[j],by simp[hj],?_⟩;rw[(G6 rel (by simp[hj]) h1).1];exact h2
 exact⟨.ref s.heap.objs.size,_,I.laid (t':=tk) kp (z03 _) (show Bg X.prog X.w _ h' _ (.lst (kvs.map λ q=>kV q.1)) from⟨by rw[z01];exact z,acc.toList,c',va,by simpa using hn⟩),rfl,q _ (I.hok.fresh (z03 _))⟩
def listE:D->Option D
 | .dk kds=>some (.lst (kds.map λ p=>kDt p.1))
 | d=>Yy d
theorem iQ {H:Hp}:∀ {kvs:List (Key×V)}{kds:List (Key×D)},kvs.map (·.1)=kds.map (·.1)->RepL G H (kvs.map λ q=>kV q.1) (kds.map λ p=>kDt p.1)
 | [],[],_=>RepL.nil
 | [],_::_,h=>by simp at h
 | _::_,[],h=>by simp at h
 | p::kvs,q::kds,h=>by
  rw[z04,z04] at h;injection h with h1 h2
  exact .cons (by show Rep G H (kV p.1) (kDt q.1);rw[h1];exact Ml _) (iQ h2)
theorem X6:SndC G (λ xs H Q=>(∃ p ys,xs=[.ref p]/\(SqL G.K H p ys∨SqT G.K H p ys)/\∀ l,H l=none->Q (.ref l) (upd H l (.lst ys)))∨∃ p kvs,xs=[.ref p]/\Rd H p (.dK kvs)/\∀ l,H l=none->Q (.ref l) (upd H l (.lst (kvs.map λ q=>kV q.1)))) listE:=by
 intro A H x dx d Q lv rx h k;unfold listE at h;split at h
 ·cases h;obtain⟨p,kvs,rfl,h1,h2,r⟩:=rx.dk;exact .inr ⟨p,kvs,rfl,h1,λ l hl=>k _ _ (Ay hl _) (C_ lv hl (iQ h2))⟩
 ·exact .inl (ZX A H x dx d Q lv rx h k)
def Nu (x:D) (ds:List D) (v:D):Option D:=match x with
 | .dt kds=>(Hn ds).bind λ k=>if kds.length<sizeLine/\ds.length<=sizeLine then some (.dt (putL k v kds)) else none
 | _=>none
def S8 (i:Nat) (fk:FA) (fv:FE):FS:=λ ρ=>(fv ρ).bind λ v=>(fk ρ).bind λ y=>(ownO ρ i).bind λ x=>(Nu x y v).map λ z=>.nx (ρ.set i (.ow z))
theorem Ux {ρ:Rho}{o:Out}(h:S8 i fs fb ρ=some o):∃ v y x z,fb ρ=some v/\fs ρ=some y/\ρ[i]?=some (.ow x)/\Nu x y v=some z/\o=.nx (ρ.set i (.ow z)):=by
 unfold S8 at h;cases e1:fb ρ with
 | none=>simp[e1] at h
 | some v=>
  cases e2:fs ρ with
  | none=>simp[e1,e2] at h
  | some y=>
   cases e3:ownO ρ i with
   | none=>simp[e1,e2,e3] at h
   | some x=>
    cases e4:Nu x y v with
    | none=>simp[e1,e2,e3,e4] at h
    | some z=>
     simp[e1,e2,e3,e4] at h;exact⟨v,y,x,z,rfl,rfl,KY e3,e4,h.symm⟩
theorem Zn {x:Str}(hu:X.A.units+1<cLine) (hv:PE X (.Name x xpos) (tVar i)) (ha:PFA X G es fs) (hb:PF X G b fb)
  (hs:swapsWith b (some (.Subscript (.Name x xpos) (.Tuple es x1 tp) spos)) pos.line X.env=pure false:=by rfl):PSD X G (.Assign [.Subscript (.Name x xpos) (.Tuple es x1 tp) spos] b pos) (S8 i fs fb):=λ A0 He π s σ H D I ⟨ρ,o,⟨A,w⟩,e,k⟩=>by
 obtain⟨v,y,x0,z,e1,e2,hi,e3,rfl⟩:=Ux e;refine Ih hu hv (QR (@ha A)) (@hb A) hs π s σ H D I ?_;unfold Nu at e3;split at e3
 ·rename_i kds;cases e4:Hn y with
  | none=>simp[e4] at e3
  | some q=>
   simp only[e4,z0a] at e3;split at e3
   ·rename_i hz;cases e3;obtain⟨p,h1,hA,kvs,h2,hk,r⟩:=w.ok.ow i _ hi;refine⟨ρ,v,w.ok,e1,λ u H1 s1 r1=>⟨_,h1,ρ,y,(w.mono s1).ok,e2,λ vs H2 s2 r2=>⟨by rw[r2.1];exact hz.2,λ T hT=>?_⟩⟩⟩;have ek:=KZ r2 e4;subst ek;have hl:kvs.length<sizeLine:=by
     have:=congrArg List.length hk;rw[z01,z01] at this;omega
    have s3:Same H2 (upd H2 T (.tup (q.map kV))):=Ay hT _;refine⟨p,_,rfl,DPut.t (s3 _ _ (s2 _ _ (s1 _ _ h2))) Ae hl,?_⟩;have w2:=((w.mono s1).mono s2).mono s3;have pk:=Mj (k:=q) (r1.mono (Aq (s2.trans s3))) hk (r.mono (Aq (s1.trans (s2.trans s3))));refine k _ _ ⟨A,w2.wr hi h1 ⟨_,Ae,pk.1,?_⟩⟩;rw[Cm hA];exact pk.2
   ·cases e3
 ·cases e3
end
section
variable {G:Gx}{a b c:Expr}{fa fb fc:FE}{p2:Pos}{fs:FA}{src:FI}
theorem PFI.top (h:PFI X G false tg a src):PFI X G true tg a src:=λ A=>Pb (@h A) λ σ H R ⟨ρ,ds,o,e,k⟩=>
 ⟨ρ,ds,o,e,λ J H1 s1 sr=>k J H1 s1 ⟨λ i H s hi=>sr.go i H (Ai.trans s) hi,λ i H x H' d s hd y=>sr.yld i H x H' d (Ai.trans s) hd y,λ i H s hi=>sr.stop i H (Ai.trans s) hi⟩⟩
theorem RepT.ob {A:List Addr}{H:Hp}{v:V}{c:Str}{gs:List (Str×D)}(r:RepT G A H v (.ob c gs)):∃ a C dx fs,v=.ref a/\G.cl c=some C/\H a=some (.ins C dx fs)/\fs.map (·.1)=gs.map (·.1)/\RepL G (hid A H) (fs.map (·.2)) (gs.map (·.2)):=by
 rcases r with r | ⟨a,e,C,dx,fs,h,k,r⟩
 ·cases r with
  | ob hc h l r=>
   have hl:=congrArg List.length l;rw[z01,z01] at hl;exact⟨_,_,_,_,rfl,hc,Ai _ _ h,l,by rw[z01,z01];exact hl,r⟩
 ·exact⟨a,C,dx,fs,e,k.1,h,k.2,r⟩
def fldD (f:Str):D->Option D
 | .ob _ gs=>gs.lookup f
 | _=>none
theorem Pj {H:Hp}{f:Str}{d:D}:∀ {gs:List (Str×D)}{fs:List (Str×V)},fs.map (·.1)=gs.map (·.1)->RepL G H (fs.map (·.2)) (gs.map (·.2))->gs.lookup f=some d->∃ v,fs.lookup f=some v/\Rep G H v d
 | [],fs,e,r,h=>by simp at h
 | p::gs,[],e,r,h=>by simp at e
 | p::gs,q::fs,e,r,h=>by
  rw[z04,z04] at e r;injection e with e1 e2
  obtain⟨x,ys,e3,r1,r2⟩:=r.uncons;injection e3 with e4 e5
  subst e4 e5;obtain⟨p1,p2⟩:=p;obtain⟨q1,q2⟩:=q;simp only at e1 r1;subst e1
  by_cases hf:f=q1
  ·subst hf;simp only[z09,z1j,Option.some.injEq] at h ⊢;subst h;exact⟨q2,rfl,r1⟩
  ·have hb:(f==q1)=false:=z0p.mpr hf;simp only[z09,hb] at h ⊢;exact Pj e2 r2 h
theorem JR (hcl:∀ c C,G.cl c=some C->Cls X.K C/\Av X.K C f) (he:PU X G a fa) (hb:attributeBase a f X.env (eval a X.env)=eval a X.env:=by rfl):PF X G (.Attribute a f pos) (uF (fldD f) fa):=
 λ A=>By (Ue (@he A) hb) λ σ H Q ⟨ρ,d,o,e,k⟩=>by
  obtain⟨x0,e1,e2⟩:=Mi e;unfold fldD at e2;split at e2
  ·rename_i cn gs;refine⟨ρ,_,o,e1,λ v H1 s1 r1=>?_⟩;obtain⟨p,C,dx,fs,rfl,hc,h,l,r⟩:=r1.ob;obtain⟨v,h1,h2⟩:=Pj (f:=f) (d:=d) l r e2;exact⟨_,_,_,_,v,rfl,h,(hcl _ _ hc).1,(hcl _ _ hc).2,h1,k v H1 s1 h2⟩
  ·cases e2
end
def Its (x:Str):It:=⟨λ i _=>i<x.cps.size,λ i H y H'=>H'=H/\∃ c,x.cps[i]?=some c/\y=.str ⟨#[c]⟩,λ i _=>x.cps.size<=i⟩
theorem S9 {K:zFr}(it:Addr) (x:Str) (t:Tok) (ty:String) (W:∀ A:Around,A.handled=none->Walks P w A it [it] [it] x.cps.size (SignAt x) (λ i h=>h.IsStrIter it ty x t i))
  (hn:["enumerate","zip","dict_itemiterator","dict_reverseitemiterator","odict_iterator","itertools.zip_longest","itertools.pairwise"].contains ty=false)
  (fin:∀ (A:Around),A.handled=none->∀ (i:Nat) (s:Shared) (Q:Option Value->Shared->Prop) (E:zQ),s.heap.IsStrIter it ty x t i->x.cps[i]?=none->(∀ h',Heap.ExtBut it s.heap h'->Q none { s with heap:=h' })->wpAny (model P w) A (pyNext (.ref it)) Q E s)
  (self:∀ (A:Around) (i:Nat) (s:Shared) (Q:zQ) (E:zQ),s.heap.IsStrIter it ty x t i->Q (.ref it) s->wpAny (model P w) A (pyIter (.ref it)) Q E s) :
  Turn P w K tg (Its x) [it] it (λ i h=>h.IsStrIter it ty x t i) where
 mem:=by simp
 obj:=λ i h st b hb=>by
  have e:b=it:=by simpa using hb
  subst e;obtain⟨o,e,c,d⟩:=st;exact⟨o,e,λ v z=>by rw[d] at z;cases z⟩
 keep:=λ i h h' st k=>let ⟨o,e,c,d⟩:=st;⟨o,k it (by simp) o e,c,d⟩
 item:=by
  intro X hP hw hK hc i π s σ H E I hf st hg;subst hP hw hK;obtain⟨f0,f1,f2,f3,f4,f5⟩:=hf it (by simp);refine (W X.A (I.ok.hd hc)).item i s _ _ hg st λ v h' tk hv st' kk=>?_;obtain⟨c,u,e1,rfl⟩:=hv;have I1:Inv X π σ H { s with heap:=h',toks:=tk }:=I.turned (λ b o hb e=>kk b o (by simpa using hb) e) f0 f1 f3 f4 f5;obtain⟨o1,e2,c1,d1⟩:=id st';exact⟨_,rfl,SM (s:={ s with heap:=h',toks:=tk }) e2 c1 d1 hn ⟨.str ⟨#[c]⟩,H,I1,⟨u,rfl⟩,⟨rfl,c,e1,rfl⟩,st',λ b hb=>(hf b hb).1⟩⟩
 done:=by
  intro X hP hw hK hc i π s σ H E I hf st hg;subst hP hw hK;obtain⟨f0,f1,f2,f3,f4,f5⟩:=hf it (by simp);exact fin X.A (I.ok.hd hc) i s _ _ st (by rw[Array.getElem?_eq_none_iff];exact hg) λ h' eb=>⟨rfl,I.turned (t':=s.toks) (λ b o hb e=>eb b o hb e) f0 f1 f3 f4 f5⟩
 self:=λ A i s Q E st h=>self A i s Q E st h
section
variable {G:Gx}{a b c:Expr}{fa fb fc:FE}{p2:Pos}{tl:TE}
def iStr (tl:TE):TI:=λ σ H R=>tl σ H λ x H1=>∃ y,x=.str y/\R (Its y) H1
theorem k_ (hl:PE X l tl):PI X tg l (iStr tl):=by
 intro π s σ H R I h;refine thn (hl π s σ H _ I h) λ v s1 ⟨x,H1,I1,r1,q1⟩=>?_;obtain⟨y,e,q⟩:=q1;subst e;obtain⟨t,e⟩:=(show ∃ t,v=Value.str y t from r1);subst e;have fp:∀ b∈[s1.heap.objs.size],FpOk X π H1 b:=λ b hb=>by
  have e:b=s1.heap.objs.size:=by simpa using hb
  subst e;exact I1.fpOk (z03 _) (I1.hok.fresh (z03 _))
 cases ha:y.cps.all (·<128)
 ·exact wpAny_pyIter_wide ha ⟨s1.heap.objs.size,[s1.heap.objs.size],_,_,H1,rfl,I1.kept (t':=s1.toks) λ b o e=>z08 _ e,
   S9 _ y t "str_iterator" (λ A hA=>Walks.strWide hA _ y t) (by decide) (λ _ hh _ _ _ _ st hx k=>wpAny_pyNext_wide_end hh st hx k) (λ _ _ _ _ _ st h=>wpAny_pyIter_striter_wide st h),⟨_,z0l _ rfl,rfl,rfl⟩,fp,q⟩
 ·exact wpAny_pyIter_ascii ha ⟨s1.heap.objs.size,[s1.heap.objs.size],_,_,H1,rfl,I1.kept (t':=s1.toks) λ b o e=>z08 _ e,
   S9 _ y t "str_ascii_iterator" (λ A hA=>Walks.strAscii hA _ y t) (by decide) (λ _ hh _ _ _ _ st hx k=>wpAny_pyNext_ascii_end hh st hx k) (λ _ _ _ _ _ st h=>wpAny_pyIter_striter_ascii st h),⟨_,z0l _ rfl,rfl,rfl⟩,fp,q⟩
def S_ (x:Str):List D:=x.cps.toList.map λ c=>.str ⟨#[c]⟩
theorem dg {x:Str}:Src G (Its x) (S_ x) F1 F2:=by
 have hl:(S_ x).length=x.cps.size:=by unfold S_;simp
 refine⟨λ i H s hi=>by rw[hl] at hi;exact hi,λ i H y H' d s hd q=>?_,λ i H s hi=>by rw[hl] at hi;exact hi⟩;obtain⟨q1,c,q2,q3⟩:=q;refine Nk ⟨q1,?_⟩;obtain⟨z,hz,rfl⟩:=Zm hd;have e:x.cps[i]?=some z:=by simpa using hz
 rw[e] at q2;cases q2;rw[q3];exact .str _
def seqA (f:FE):FI:=λ ρ=>match f ρ with | some (.str x)=>some (S_ x) | _=>seqE f ρ
theorem CJ (hG:G.K=X.K) (h:PF X G a fa):PFI X G false tg a (seqA fa):=λ A=>Pb (piOr (Zj hG h (A:=A)) (k_ (@h A))) λ σ H R ⟨ρ,ds,o,e,k⟩=>by
 unfold seqA at e;split at e
 ·rename_i x e1;cases e;refine .inr ⟨ρ,_,o,e1,λ v H1 s1 r1=>?_⟩;cases r1;exact⟨_,rfl,k _ H1 s1 dg⟩
 ·exact .inl ⟨ρ,_,o,e,k⟩
def blsD:List D->Option (List Bool)
 | []=>some []
 | .bl i::r=>(blsD r).map (i::·)
 | _::_=>none
theorem WK {H:Hp}:∀ {ds:List D}{xs:List V}{bs:List Bool},RepL G H xs ds->blsD ds=some bs->xs=bs.map V.bl
 | [],xs,bs,r,h=>by cases h;exact r.nil_inv
 | d::ds,xs,bs,r,h=>by
  obtain⟨x,ys,rfl,r1,r2⟩:=r.uncons;cases d with
  | bl i=>
   cases e:blsD ds with
   | none=>simp[blsD,e] at h
   | some bs'=>
    simp[blsD,e] at h;subst h;cases r1;rw[WK r2 e];rfl
  | _=>simp[blsD] at h
theorem X7 (hc:X.calm=true):Dn X (.builtin "all") (λ xs H Q=>∃ (p:Addr) (bs:List Bool),xs=[.ref p]/\SqL X.K H p (bs.map V.bl)/\Q (.bl (bs.all id)) H):=by
 intro π s σ H xs us Q I r h;obtain⟨p,bs,rfl,hs,k⟩:=h;obtain⟨u,rfl,ru⟩:=r.one;cases ru;obtain⟨its,rv,pl,hz⟩:=I.list hs;have hl:=pl.isList;have hlt:p≠s.heap.objs.size:=by obtain⟨o,ho,_⟩:=hl;exact z0e (z05 ho)
 have hlen:bs.length=its.length:=by have:=rv.length;rwa [z01] at this
 refine call_all_walk (wpAny_pyIter_list hl ?_);refine⟨_,_,_,_,_,_,λ i=>bs.getD i true,rfl,Walks.list (A:=X.A.in1) (I.ok.hd hc) s.heap.objs.size p hlt its.toArray,⟨⟨_,z0l _ rfl,rfl,rfl⟩,hl.push _⟩,?_,λ h' tk kk=>?_⟩
 ·intro i v s' Q' E' hv hq;have hi:its[i]?=some v:=by simpa using hv
  have hlt':i<bs.length:=by rw[hlen];exact (z0z.mp hi).1
  obtain⟨u',hu,ru⟩:=rv.get (i:=i) (x:=.bl (bs[i]'hlt')) (by rw[z0c];simp[hlt']);rw[hi] at hu;cases hu;cases (show v=Value.bool (bs[i]'hlt') from ru);have e:bs.getD i true=bs[i]'hlt':=by simp[List.getD,hlt']
  have hq':Q' (bs.getD i true) s':=hq;rw[e] at hq';exact wpAny_truthy_bool hq'
 ·refine⟨.bl (bs.all id),H,I.kept (λ b o e=>kk b o ?_ (z08 _ e)),?_,k⟩
  ·intro hb;have:b=s.heap.objs.size:=by simpa using hb
   exact absurd (z05 e) (by rw[this];exact z15 _)
  ·show Value.bool _=Value.bool _;congr 1;rw[z0g,<-hlen];rw[z0S,z0C,z0C];constructor
   ·intro q b hb;obtain⟨i,hi,rfl⟩:=z1o hb;have:=q i (z0R.mpr hi);simpa [List.getD,hi] using this
   ·intro q i hi;have hi':=z0R.mp hi;have:=q (bs[i]'hi') (List.getElem_mem hi');simpa [List.getD,hi'] using this
def allD:D->Option D
 | .lst ds=>(blsD ds).map λ bs=>.bl (bs.all id)
 | _=>none
theorem dh:SndC G (λ xs H Q=>∃ (p:Addr) (bs:List Bool),xs=[.ref p]/\SqL G.K H p (bs.map V.bl)/\Q (.bl (bs.all id)) H) allD:=by
 intro A H x dx d Q lv rx h k;unfold allD at h;split at h
 ·rename_i ds;cases e:blsD ds with
  | none=>simp[e] at h
  | some bs=>
   rw[e] at h;cases h;obtain⟨p,xs,rfl,h1,r⟩:=rx.lst;have e2:=WK r e;subst e2;exact⟨p,bs,rfl,h1,k _ H (Same.refl H) (.bl _)⟩
 ·cases h
theorem lA:bootBuiltins "all"=some (.builtin "all"):=by decide +kernel
end
section
variable {G:Gx}{a b c:Expr}{fa fb fc:FE}{p2:Pos}
end
section
variable {G:Gx}{a b c:Expr}{fa fb fc:FE}{p2:Pos}
def eqTo (x d:D):Bool:=match eqK 62 d x with | some b=>b | none=>false
def knows (x d:D):Bool:=(eqK 62 d x).isSome
def rInP (G:Gx) (neg:Bool):R2:=λ x y H Q=>∃ (A:List Addr) (as ds:List D),RepT G A H x (.tup as)/\RepT G A H y (.lst ds)/\ds.all (knows (.tup as))=true/\Q (.bl (if neg then !ds.any (eqTo (.tup as)) else ds.any (eqTo (.tup as)))) H
open Classical in
theorem WL (hG:G.K=X.K) (hu:X.A.units+64<cLine) {π:zP}{s:Shared}{σ:St}{H:Hp}{A:List Addr}{x:V}{u:Value}{as ds:List D}{xs:List V}{its:List Value}(I:Inv X π σ H s) (rx:RepT G A H x (.tup as)) (ru:RelV x u)
  (r:RepL G (hid A H) xs ds) (v:Vals xs its) (hk:ds.all (knows (.tup as))=true) :
  ∃ e:Value->Bool,(∀ y,y∈its.toArray->SeqAt.EqAt X.A.in1 s y u (e y))/\its.toArray.any e=ds.any (eqTo (.tup as)):=by
 have rx':Rep G H x (.tup as):=by
  rcases rx with q | ⟨p,_,q⟩
  ·exact q.mono Ai
  ·exact q.elim
 have one:∀ (i:Nat) y,its[i]?=some y->∃ d,ds[i]?=some d/\SeqAt.EqAt X.A.in1 s y u (eqTo (.tup as) d):=λ i y hy=>by
  have hi:i<its.length:=(z0z.mp hy).1;have hx:i<xs.length:=by rw[v.length];exact hi
  have hd:i<ds.length:=by rw[<-r.1];exact hx
  obtain⟨y',h1,h2⟩:=v.get (i:=i) (x:=xs[i]) (by simp[hx]);rw[hy] at h1;cases h1;refine⟨ds[i],by simp[hd],?_⟩;have kn:knows (.tup as) ds[i]=true:=z0C.mp hk _ (List.getElem_mem hd);unfold knows at kn;obtain⟨b,hb⟩:=Option.isSome_iff_exists.mp kn;have eb:eqTo (.tup as) ds[i]=b:=by unfold eqTo;rw[hb]
  rw[eb];exact KR I hG 62 X.A.in1 (by show X.A.units+1+62<cLine;omega) hb ((r.2 i _ _ (by simp[hx]) (by simp[hd])).mono Ai) rx' h2 ru
 refine⟨λ y=>decide (∃ (i:Nat) (d:D),its[i]?=some y/\ds[i]?=some d/\eqTo (.tup as) d=true),λ y hy=>?_,?_⟩
 ·by_cases h:∃ (i:Nat) (d:D),its[i]?=some y/\ds[i]?=some d/\eqTo (.tup as) d=true
  ·obtain⟨i,d,h1,h2,h3⟩:=id h;obtain⟨d',h4,h5⟩:=one i y h1;rw[h2] at h4;cases h4;rw[h3] at h5;show SeqAt.EqAt X.A.in1 s y u (decide (∃ (i:Nat) (d:D),its[i]?=some y/\ds[i]?=some d/\eqTo (.tup as) d=true));rw[z0h h];exact h5
  ·obtain⟨i,hi,rfl⟩:=z1o (show y∈its by simpa using hy);have hii:its[i]?=some its[i]:=z0D hi;obtain⟨d,h4,h5⟩:=one i _ hii;have h6:eqTo (.tup as) d=false:=by
    cases q:eqTo (.tup as) d with
    | false=>rfl
    | true=>exact absurd ⟨i,d,hii,h4,q⟩ h
   rw[h6] at h5;show SeqAt.EqAt X.A.in1 s its[i] u (decide (∃ (j:Nat) (d:D),its[j]?=some its[i]/\ds[j]?=some d/\eqTo (.tup as) d=true));rw[z0d h];exact h5
 ·rw[z0S,List.any_eq_true];rw[show its.toArray.any (λ y=>decide (∃ (i:Nat) (d:D),its[i]?=some y/\ds[i]?=some d/\eqTo (.tup as) d=true))=its.any (λ y=>decide (∃ (i:Nat) (d:D),its[i]?=some y/\ds[i]?=some d/\eqTo (.tup as) d=true)) by simp,List.any_eq_true];constructor
  ·rintro⟨y,hy,h⟩;obtain⟨i,d,h1,h2,h3⟩:=z0Z h;exact⟨d,List.mem_of_getElem? h2,h3⟩
  ·rintro⟨d,hd,h⟩;obtain⟨i,hi,rfl⟩:=z1o hd;have hx:i<its.length:=by rw[<-v.length,r.1];exact hi
   exact⟨its[i],List.getElem_mem hx,z0h ⟨i,_,z0D hx,z0D hi,h⟩⟩
theorem Zo (hG:G.K=X.K) (hu:X.A.units+64<cLine):OpR X (compareOp .In) (rInP G false):=by
 intro π s σ H x y v u Q I rx ry h;obtain⟨A,as,ds,r1,r2,hk,k⟩:=h;obtain⟨c,ys,rfl,h2,q2⟩:=r2.lst;cases ry;obtain⟨jts,v2,p2,_⟩:=I.list (by rw[<-hG];exact h2);obtain⟨e,he,ea⟩:=WL hG hu I r1 rx q2 v2 hk;exact SeqAt.in_listAt e p2.isList he ⟨.bl _,H,I,rfl,by rw[ea];exact k⟩
theorem X8 (hG:G.K=X.K) (hu:X.A.units+64<cLine):OpR X (compareOp .NotIn) (rInP G true):=by
 intro π s σ H x y v u Q I rx ry h;obtain⟨A,as,ds,r1,r2,hk,k⟩:=h;obtain⟨c,ys,rfl,h2,q2⟩:=r2.lst;cases ry;obtain⟨jts,v2,p2,_⟩:=I.list (by rw[<-hG];exact h2);obtain⟨e,he,ea⟩:=WL hG hu I r1 rx q2 v2 hk;exact SeqAt.notIn_listAt e p2.isList he ⟨.bl _,H,I,rfl,by rw[ea];exact k⟩
def inF (neg:Bool) (x y:D):Option D:=match x,y with
 | .tup as,.lst ds=>if ds.all (knows (.tup as))=true then some (.bl (if neg then !ds.any (eqTo (.tup as)) else ds.any (eqTo (.tup as)))) else none
 | x,y=>inE neg x y
theorem RZ (neg:Bool):DG G (λ x y H Q=>(rInA G.K neg x y H Q∨rDIn neg x y H Q)∨rInP G neg x y H Q) (inF neg):=by
 intro A H x y dx dy d Q lv rx ry h k;unfold inF at h;split at h
 ·split at h
  ·rename_i hk;cases h;exact .inr ⟨A,_,_,rx,ry,hk,k _ H (Same.refl H) (.bl _)⟩
  ·cases h
 ·exact .inl (dU neg A H x y _ _ d Q lv rx ry h k)
end
end PV
namespace PySem
open PySem.Spec
theorem Zq {A:Around}{Q:zQ}(h:∀ h' e,(∀ b o,s.heap.get? b=some o->h'.get? b=some o)->Shared.TypeIs { s with heap:=h' } (.ref e) "StopIteration"->Q (.ref e) { s with heap:=h' }):wpAny (model prog w) A (newExc (.type "StopIteration") []) Q E s:=by
 unfold newExc newTuple
 wp_walk
 exact h _ _ (λ b o e=>z08 _ (z08 _ e)) ⟨_,z0l _ rfl,rfl⟩
theorem Zr (it d:Addr) (i ep:Nat) (es:Array DictEntry) (od:Obj) (hod:od.data=.dict es ep) (hi:i<es.size) :
  Meets (Builtin.«dict_keyiterator.__next__» ⟨[.ref it],[]⟩) (λ _ R s=>s.heap.get? it=some { cls:=.type "dict_keyiterator",data:=.fields #[.ref d,.int i 0,.int es.size 0,.int ep 0] }/\s.heap.get? d=some od/\R (.ok (.ret (es[i]'hi).key)) { s with heap:=s.heap.update it (Obj.mapFields (·.setIfInBounds 1 (rawInt ((i:Int)+1)))),toks:=s.toks }):=
 .of_wp λ prog w A R s h=>by
  obtain⟨hp,g,dr,tk,os⟩:=s;obtain⟨h1,h2,h⟩:=h
  wp_walk using wpAny_dictEntries h2 hod,wpAny_dictEpoch h2 hod,wpAny_fieldsOf h1 rfl,z0Y h1 rfl
  have e0:(if (i:Int)<0 then none else es[(i:Int).toNat]?)=some (es[i]'hi):=by rw[if_neg (by omega),z11,Array.getElem?_eq_getElem hi]
  rw[e0];dsimp only
  wp_walk using z0Y h1 rfl
  ·rw[if_neg (show ¬ Builtin.Dict_items.ownsTuple ((Manifest.find? "dict_keyiterator").elim "dict_keyiterator" λ x=>x.tpName)=true by decide +kernel)];show 1<4;decide
  ·rw[if_neg (show ¬ Builtin.Dict_items.ownsTuple ((Manifest.find? "dict_keyiterator").elim "dict_keyiterator" λ x=>x.tpName)=true by decide +kernel)];rw[if_neg]
   case hnc=>decide +kernel
   rw[z0G];have ti:Shared.TypeIs { heap:=hp.update it (Obj.mapFields λ x=>x.setIfInBounds 1 (rawInt ((i:Int)+1))),gens:=g,drawn:=dr,toks:=tk,os:=os } (.ref it) "dict_keyiterator":=
    ⟨_,z1n _ h1 (Obj.isFreed_of_fields (Obj.data_mapFields rfl _)),Obj.cls_mapFields ..⟩
   wp_walk using wpAny_isOneOf_keyiter ti
   exact⟨_,rfl,h⟩
theorem Uy {A:Around}{d:Addr}{es:Array DictEntry}{od:Obj}{Q:Option Value->Shared->Prop}(hod:od.data=.dict es ep) (hi:i<es.size)
  (h1:s.heap.get? it=some { cls:=.type "dict_keyiterator",data:=.fields #[.ref d,.int i 0,.int es.size 0,.int ep 0] }) (h2:s.heap.get? d=some od)
  (h:Q (some (es[i]'hi).key) { s with heap:=s.heap.update it (Obj.mapFields (·.setIfInBounds 1 (rawInt ((i:Int)+1)))) }):wpAny (model prog w) A (pyNext (.ref it)) Q E s:=by
 have ti:s.TypeIs (.ref it) "dict_keyiterator":=⟨_,h1,rfl⟩;unfold pyNext;refine z00 (wpAny_attempt (wpAny_callSpecial?_slot (name:=Str.ofString "__next__") ti z1p ?_));refine call_meets z1p ti F.entry_dict_keyiterator_next (F.args_dict_keyiterator_next_1 _) (Zr it d i ep es od hod hi) ⟨h1,h2,?_⟩;exact z02 h
theorem Ou {A:Around}{d:Addr}{es:Array DictEntry}{od:Obj}{Q:Option Value->Shared->Prop}(hh:A.handled=none) (hod:od.data=.dict es ep) (hi:es.size<=i)
  (h1:s.heap.get? it=some { cls:=.type "dict_keyiterator",data:=.fields #[.ref d,.int i 0,.int es.size 0,.int ep 0] }) (h2:s.heap.get? d=some od)
  (h:∀ h',Heap.ExtBut it s.heap h'->Q none { s with heap:=h' }):wpAny (model prog w) A (pyNext (.ref it)) Q E s:=by
 have ti:s.TypeIs (.ref it) "dict_keyiterator":=⟨_,h1,rfl⟩;unfold pyNext;refine z00 (wpAny_attempt (wpAny_callSpecial?_slot (name:=Str.ofString "__next__") ti z1p
  (wpAny_call_entry z1p ti F.entry_dict_keyiterator_next ?_ (F.args_dict_keyiterator_next_1 _))))
 have hh1:A.in1.handled=none:=hh
 wp_walk using wpAny_dictEntries h2 hod,wpAny_dictEpoch h2 hod,wpAny_fieldsOf h1 rfl,z0Y h1 rfl
 have e0:(if (i:Int)<0 then none else es[(i:Int).toNat]?)=none:=by rw[if_neg (by omega),z11,Array.getElem?_eq_none hi]
 rw[e0];dsimp only
 wp_walk using z0Y h1 rfl
 ·rw[if_neg (show ¬ Builtin.Dict_items.ownsTuple ((Manifest.find? "dict_keyiterator").elim "dict_keyiterator" λ x=>x.tpName)=true by decide +kernel)];show 0<4;decide
 ·refine z00 ?_;refine Zq λ h' e kp ty=>wpAny_raiseNew_none hh1 ?_;refine z00 (wpAny_isInstance ty isSubtype_stop (z02 (h h' λ b o hb z=>kp b o ?_)));exact ((Heap.SameBut.update ..).2 b hb).trans z
theorem Uz {A:Around}{d:Addr}{es:Array DictEntry}{od:Obj}{Q:zQ}(hd:(d==sysModules)=false) (hx:od.ExactDict) (hod:od.data=.dict es ep) (h2:s.heap.get? d=some od)
  (h:Q (.ref s.heap.objs.size) { s with heap:=s.heap.push { cls:=.type "dict_keyiterator",data:=.fields #[.ref d,.int 0 0,.int es.size 0,.int ep 0] } }):wpAny (model prog w) A (pyIter (.ref d)) Q E s:=by
 have ti:s.TypeIs (.ref d) "dict":=⟨_,h2,hx.1⟩;refine wpAny_pyIter_slot ti F.slot_dict_iter (wpAny_call_entry F.slot_dict_iter ti F.entry_dict_iter ?_ (F.args_dict_iter_1 _));unfold Builtin.«dict.__iter__»
 wp_walk using wpAny_dictEntries h2 hod,wpAny_dictEpoch h2 hod,wpAny_notOrdered_dict ti
 exact⟨_,rfl,"dict_keyiterator",_,⟨_,z0l _ rfl,rfl⟩,z1p.lookup,h⟩
end PySem
namespace PV
open PySem PySem.Spec L2
open PyProof.Rows hiding St
section
variable {G:Gx}{x:Addr}
theorem Top.sub {d:D}(t:Top G B H a d) (h:∀ a∈A,a∈B):Top G A H a d:=by
 cases d with
 | lst ds=>obtain⟨xs,q1,q2⟩:=t;exact⟨xs,q1,q2.mono (Ck h)⟩
 | dk ds=>obtain⟨xs,q1,q2,q3⟩:=t;exact⟨xs,q1,q2,q3.mono (Ck h)⟩
 | dt ds=>obtain⟨xs,q1,q2,q3⟩:=t;exact⟨xs,q1,q2,q3.mono (Ck h)⟩
 | ob c gs=>obtain⟨C,dx,xs,q1,q2,q3⟩:=t;exact⟨C,dx,xs,q1,q2,q3.mono (Ck h)⟩
 | _=>exact t.elim
def JB (x:Addr) (H H':Hp):Prop:=∀ b o,b≠x->H b=some o->H' b=some o
theorem Fi (hx:x∈A) (s:JB x H H'):Same (hid A H) (hid A H'):=λ b o h=>by
 unfold hid at h ⊢;split at h
 ·cases h
 ·rename_i hb;rw[if_neg hb];exact s b o (λ z=>hb (z▸hx)) h
theorem Top.other {d:D}(t:Top G A H q d) (nq:q≠x) (hx:x∈A) (s:JB x H H'):Top G A H' q d:=by
 have sm:=Fi hx s;cases d with
 | lst ds=>obtain⟨xs,q1,q2⟩:=t;exact⟨xs,s _ _ nq q1,q2.mono sm⟩
 | dk ds=>obtain⟨xs,q1,q2,q3⟩:=t;exact⟨xs,s _ _ nq q1,q2,q3.mono sm⟩
 | dt ds=>obtain⟨xs,q1,q2,q3⟩:=t;exact⟨xs,s _ _ nq q1,q2,q3.mono sm⟩
 | ob c gs=>obtain⟨C,dx,xs,q1,q2,q3⟩:=t;exact⟨C,dx,xs,s _ _ nq q1,q2,q3.mono sm⟩
 | _=>exact t.elim
end
def tX (G:Gx) (A0:List Addr) (He:Hp) (h:FZ):TE:=λ σ H Q=>∃ ρ d ρ' A,OkW G A0 He A σ H ρ/\h ρ=some (d,ρ')/\∀ v H' A',OkW G A0 He A' σ H' ρ'->Same (hid A H) (hid A' H')->Rep G (hid A' H') v d->Q v H'
def PX (X:Cx) (G:Gx) (e:Expr) (h:FZ):Prop:=∀ ⦃A0⦄ He,PE X e (tX G A0 He h)
section
variable {G:Gx}{a b c:Expr}{fa fb fc:FE}{p2 px rp p:Pos}{fs:FA}{h:FZ}{hs:FZA}
end
end PV
namespace PV
open PySem L2
abbrev Ef:=List (Str×Bool×D)
abbrev FEs:=Rho->Ef->Option (Rho×Ef)
abbrev FTE:=Rho->Ef->Option Bool
def noOw (ρ:Rho):Bool:=ρ.all λ z=>match z with | .ow _=>false | _=>true
def WM (f:Str) (fe:FE):FEs:=λ ρ ε=>(fe ρ).bind λ d=>if (ε.lookup f).isNone=true/\ε.length<1000 then some (ρ,ε++[(f,false,d)]) else none
def Kz (f:Str) (fe:FE):FEs:=λ ρ ε=>(fe ρ).bind λ d=>if (ε.lookup f).isNone=true/\ε.length<1000 then some (ρ,ε++[(f,true,d)]) else none
def repE (f:Str) (d:D):Ef->Ef
 | []=>[]
 | (g,b,x)::r=>if g=f then (g,b,d)::r else (g,b,x)::repE f d r
def Pk (f:Str) (fk fv:FE):FEs:=λ ρ ε=>(fv ρ).bind λ v=>(fk ρ).bind λ k=>match ε.lookup f with | some (true,d)=>(Df d k v).map λ d'=>(ρ,repE f d' ε) | _=>none
def Jl (t:FT):FTE:=λ ρ _=>t ρ
def inTE (f:Str) (fk:FE):FTE:=λ ρ ε=>(fk ρ).bind λ k=>match ε.lookup f with | some (true,.dk kds)=>(keyD k).map λ q=>(getK q kds).isSome | _=>none
def orTE (a b:FTE):FTE:=λ ρ ε=>match a ρ ε with | some true=>some true | some false=>b ρ ε | none=>none
def Ra (n:Nat) (x:Addr) (ds:List D):Rho:=Bm n (.adr x::ds)
def finE (c:Str) (ε:Ef):D:=.ob c (ε.map λ p=>(p.1,p.2.2))
end PV
variable {src:PV.FI}{ga:PV.FT}{fe:PV.FE}{ρ ρ':PV.Rho}{ds:List PV.D}{G:PV.Gx}{kds:List (L2.Key×PV.D)}{g:List PV.D->Option PV.D}{fg:PV.FG}{gs:List (PySem.Str×PV.D)}{ε:PV.Ef}
namespace PV
open PySem PySem.Spec L2
open PyProof.Rows hiding St
theorem CK (h:noOw ρ=true) (i:Nat) (d:D):ρ[i]?≠some (.ow d):=λ e=>by
 unfold noOw at h;rw[z0C] at h;have:=h _ (List.mem_of_getElem? e);cases this
inductive FsOk (G:Gx) (A0 A:List Addr) (H:Hp) (x:Addr):List (Str×V)->Ef->List Addr->Prop
 | nil:FsOk G A0 A H x [] [] []
 | pl {f:Str}{v:V}{d:D}{fs:List (Str×V)}{ε:Ef}{as:List Addr}:Rep G (hid A H) v d->FsOk G A0 A H x fs ε as->FsOk G A0 A H x ((f,v)::fs) ((f,false,d)::ε) as
 | ow {f:Str}{a:Addr}{d:D}{fs:List (Str×V)}{ε:Ef}{as:List Addr}:a∈A->a∉A0->a≠x->a∉as->Top G A H a d->FsOk G A0 A H x fs ε as->FsOk G A0 A H x ((f,.ref a)::fs) ((f,true,d)::ε) (a::as)
section
variable {A':List Addr}{x:Addr}{fs:List (Str×V)}{as:List Addr}
theorem FsOk.mp (h:FsOk G A0 A H x fs ε as) (r:∀ v d,Rep G (hid A H) v d->Rep G (hid A' H') v d) (t:∀ a∈as,∀ d,Top G A H a d->Top G A' H' a d) (s:∀ a∈as,a∈A->a∈A'):FsOk G A0 A' H' x fs ε as:=by
 induction h with
 | nil=>exact .nil
 | pl rv _ ih=>exact .pl (r _ _ rv) (ih t s)
 | ow h1 h2 h3 h4 h5 _ ih=>exact .ow (s _ z0k h1) h2 h3 h4 (t _ z0k _ h5) (ih (λ a ha=>t a (z07 _ ha)) (λ a ha=>s a (z07 _ ha)))
theorem FsOk.names (h:FsOk G A0 A H x fs ε as):fs.map (·.1)=ε.map (·.1):=by
 induction h with
 | nil=>rfl
 | pl _ _ ih=>simp[ih]
 | ow _ _ _ _ _ _ ih=>simp[ih]
theorem FsOk.len (h:FsOk G A0 A H x fs ε as):fs.length=ε.length:=by
 have:=congrArg List.length h.names;simpa using this
theorem FsOk.ne (h:FsOk G A0 A H x fs ε as):∀ a∈as,a∈A/\a∉A0/\a≠x:=by
 induction h with
 | nil=>intro a ha;cases ha
 | pl _ _ ih=>exact ih
 | ow h1 h2 h3 _ _ _ ih=>
  intro a ha
  rcases z06.mp ha with z | z
  ·subst z;exact⟨h1,h2,h3⟩
  ·exact ih a z
theorem Kc {f:Str}{v:V}:∀ {fs:List (Str×V)},fs.lookup f=none->L2.putF f v fs=fs++[(f,v)]
 | [],_=>rfl
 | (g,y)::r,h=>by
  by_cases hf:f=g
  ·subst hf;simp[z09] at h
  ·have hb:(f==g)=false:=z0p.mpr hf;simp only[z09,hb] at h;show (if g=f then (g,v)::r else (g,y)::L2.putF f v r)=_;rw[if_neg (λ z=>hf z.symm),Kc h];rfl
theorem FsOk.none (h:FsOk G A0 A H x fs ε as) (e:ε.lookup f=none):fs.lookup f=none:=by
 induction h with
 | nil=>rfl
 | @pl g v d fs ε as _ _ ih=>
  by_cases hf:f=g
  ·subst hf;simp[z09] at e
  ·have hb:(f==g)=false:=z0p.mpr hf;simp only[z09,hb] at e ⊢;exact ih e
 | @ow g a d fs ε as _ _ _ _ _ _ ih=>
  by_cases hf:f=g
  ·subst hf;simp[z09] at e
  ·have hb:(f==g)=false:=z0p.mpr hf;simp only[z09,hb] at e ⊢;exact ih e
theorem FsOk.snocP {d:D}(h:FsOk G A0 A H x fs ε as) (r:Rep G (hid A H) v d):FsOk G A0 A H x (fs++[(f,v)]) (ε++[(f,false,d)]) as:=by
 induction h with
 | nil=>exact .pl r .nil
 | pl rv _ ih=>exact .pl rv ih
 | ow h1 h2 h3 h4 h5 _ ih=>exact .ow h1 h2 h3 h4 h5 ih
theorem FsOk.snocO {d:D}(h:FsOk G A0 A H x fs ε as) (h1:a∈A) (h2:a∉A0) (h3:a≠x) (h4:a∉as) (t:Top G A H a d):FsOk G A0 A H x (fs++[(f,.ref a)]) (ε++[(f,true,d)]) (as++[a]):=by
 induction h with
 | nil=>exact .ow h1 h2 h3 (λ z=>nomatch z) t .nil
 | pl rv _ ih=>exact .pl rv (ih h4)
 | @ow g b e fs ε as q1 q2 q3 q4 q5 _ ih=>
  have hb:a≠b:=λ z=>h4 (by simp[z]);refine .ow q1 q2 q3 (λ z=>?_) q5 (ih λ z=>h4 (z07 _ z))
  rcases z0y.mp z with z | z
  ·exact q4 z
  ·simp at z;exact hb z.symm
theorem FsOk.get {d:D}(h:FsOk G A0 A H x fs ε as) (e:ε.lookup f=some (true,d)):∃ a,fs.lookup f=some (.ref a)/\a∈as/\a∈A/\a∉A0/\a≠x/\Top G A H a d:=by
 induction h with
 | nil=>cases e
 | @pl g v d' fs ε as _ _ ih=>
  by_cases hf:f=g
  ·subst hf;simp[z09] at e
  ·have hb:(f==g)=false:=z0p.mpr hf;simp only[z09,hb] at e ⊢;exact ih e
 | @ow g a d' fs ε as h1 h2 h3 _ h5 _ ih=>
  by_cases hf:f=g
  ·subst hf;simp only[z09,z1j,Option.some.injEq,Prod.mk.injEq,true_and] at e ⊢;subst e;exact⟨a,rfl,z0k,h1,h2,h3,h5⟩
  ·have hb:(f==g)=false:=z0p.mpr hf;simp only[z09,hb] at e ⊢;obtain⟨a',q1,q2,q3⟩:=ih e;exact⟨a',q1,z07 _ q2,q3⟩
theorem FsOk.wr {d d':D}(h:FsOk G A0 A H x fs ε as) (e:ε.lookup f=some (true,d)) (ea:fs.lookup f=some (.ref a)) (sx:JB a H H') (hA:a∈A) (t:Top G A H' a d'):FsOk G A0 A H' x fs (repE f d' ε) as:=by
 have sm:=Fi hA sx
 induction h with
 | nil=>cases e
 | @pl g v d2 fs ε as rv hr ih=>
  by_cases hf:f=g
  ·subst hf;simp[z09] at e
  ·have hb:(f==g)=false:=z0p.mpr hf;simp only[z09,hb] at e ea;unfold repE;rw[if_neg (λ z=>hf z.symm)];exact .pl (rv.mono sm) (ih e ea)
 | @ow g b d2 fs ε as h1 h2 h3 h4 h5 hr ih=>
  by_cases hf:f=g
  ·subst hf;simp only[z09,z1j,Option.some.injEq,V.ref.injEq] at ea;subst ea;unfold repE;rw[if_pos rfl];refine .ow h1 h2 h3 h4 t (hr.mp (λ v d r=>r.mono sm) (λ c hc d t'=>t'.other (λ z=>h4 (by rw[<-z];exact hc)) hA sx) λ _ _ z=>z)
  ·have hb:(f==g)=false:=z0p.mpr hf;simp only[z09,hb] at e ea;obtain⟨a',q1,q2,_⟩:=hr.get e;rw[ea] at q1;cases q1;unfold repE;rw[if_neg (λ z=>hf z.symm)];exact .ow h1 h2 h3 h4 (h5.other (λ z=>h4 (z▸q2)) hA sx) (ih e ea)
end
structure EOk (G:Gx) (c:Str) (A0:List Addr) (He:Hp) (x:Addr) (A:List Addr) (σ:St) (H:Hp) (ρ:Rho) (ε:Ef):Prop where
 w:OkW G A0 He A σ H ρ
 no:noOw ρ=true
 xA:x∈A
 x0:x∉A0
 s0:ρ[0]?=some (.fz (.adr x))
 ob:∃ C dx fs as,H x=some (.ins C dx fs)/\G.cl c=some C/\FsOk G A0 A H x fs ε as
def EOkS (G:Gx) (c:Str) (A0:List Addr) (He:Hp) (x:Addr) (σ:St) (H:Hp) (ρ:Rho) (ε:Ef):Prop:=∃ A,EOk G c A0 He x A σ H ρ ε
section
variable {c:Str}{x:Addr}
theorem EOk.at0 (o:EOk G c A0 He x A σ H ρ ε):σ[0]?=some (some (.ref x)):=by
 obtain⟨v,h1,h2⟩:=o.w.ok.fz 0 _ o.s0;cases h2;exact h1
theorem EOk.mono (o:EOk G c A0 He x A σ H ρ ε) (s:Same H H'):EOk G c A0 He x A σ H' ρ ε:=by
 obtain⟨C,dx,fs,as,h1,h2,h3⟩:=o.ob;exact⟨o.w.mono s,o.no,o.xA,o.x0,o.s0,C,dx,fs,as,s _ _ h1,h2,h3.mp (λ v d r=>r.mono (Aq s)) (λ a ha d t=>t.mono s) λ _ _ z=>z⟩
theorem Zt (s:Same H H') (fr:∀ a∈B,a∈A∨H a=none):Same (hid A H) (hid B H'):=λ b u h=>by
 unfold hid at h;split at h
 ·cases h
 ·rename_i hb;rw[Ao]
  ·exact s b u h
  ·intro z
   rcases fr b z with q | q
   ·exact hb q
   ·rw[q] at h;cases h
theorem Top.plain {d:D}(t:Top G A H a d) (s:Same H H') (p:Same (hid A H) (hid B H')):Top G B H' a d:=by
 cases d with
 | lst ds=>obtain⟨xs,q1,q2⟩:=t;exact⟨xs,s _ _ q1,q2.mono p⟩
 | dk ds=>obtain⟨xs,q1,q2,q3⟩:=t;exact⟨xs,s _ _ q1,q2,q3.mono p⟩
 | dt ds=>obtain⟨xs,q1,q2,q3⟩:=t;exact⟨xs,s _ _ q1,q2,q3.mono p⟩
 | ob c gs=>obtain⟨C,dx,xs,q1,q2,q3⟩:=t;exact⟨C,dx,xs,s _ _ q1,q2,q3.mono p⟩
 | _=>exact t.elim
theorem EOk.frame (o:EOk G c A0 He x A σ H ρ ε):OkS G A H σ H ρ:=⟨A,Same.refl H,λ _ h=>h,λ a h=>.inl h,λ a ha=>(o.w.ok.live a ha).ne,o.w.ok,λ i d a h _=>absurd h (CK o.no i d),λ y d _ h=>absurd h (CK o.no 0 d)⟩
theorem EOk.unframe {σ':St}(o:EOk G c A0 He x A σ H ρ ε) (w:OkS G A H σ' H' ρ') (no:noOw ρ'=true) (s0:ρ'[0]?=some (.fz (.adr x))):EOkS G c A0 He x σ' H' ρ' ε:=by
 obtain⟨B,w⟩:=w;have pl:Same (hid A H) (hid B H'):=Zt w.same w.fr;obtain⟨C,dx,fs,as,h1,h2,h3⟩:=o.ob;refine⟨B,⟨o.w.same.trans w.same,λ a ha=>w.sub a (o.w.sub a ha),λ a ha=>?_,o.w.l0,w.ok,λ i d a h _=>absurd h (CK no i d),λ y d _ h=>absurd h (CK no 0 d)⟩,no,w.sub x o.xA,o.x0,s0,C,dx,fs,as,w.same _ _ h1,h2,h3.mp (λ v d r=>r.mono pl) (λ a ha d t=>t.plain w.same pl) λ a _ ha=>w.sub a ha⟩
 rcases w.fr a ha with q | q
 ·exact o.w.fr a q
 ·exact .inr (o.w.same.free q)
theorem EOk.wr {ε':Ef}(o:EOk G c A0 He x A σ H ρ ε) (hp:p∈A) (h0:p∉A0) (sx:JB p H H') (lv:Nt (H' p)) (ob:∃ C dx fs as,H' x=some (.ins C dx fs)/\G.cl c=some C/\FsOk G A0 A H' x fs ε' as):EOk G c A0 He x A σ H' ρ ε':=by
 have hep:He p=none:=(o.w.fr p hp).resolve_left h0;have sm:=Fi hp sx;refine⟨⟨λ b u h=>sx b u (Ak h hep) (o.w.same b u h),o.w.sub,o.w.fr,o.w.l0,⟨o.w.ok.len,λ b hb=>?_,λ j e h=>?_,λ j e h=>absurd h (CK o.no j e),λ i j d e a h _ _ _=>absurd h (CK o.no i d)⟩,λ i d a h _=>absurd h (CK o.no i d),λ y d _ h=>absurd h (CK o.no 0 d)⟩,o.no,o.xA,o.x0,o.s0,ob⟩
 ·by_cases z:b=p
  ·rw[z];exact lv
  ·exact (o.w.ok.live b hb).mono λ u e=>sx b u z e
 ·obtain⟨v,q1,q2⟩:=o.w.ok.fz j e h;exact⟨v,q1,q2.mono sm⟩
end
def tE (G:Gx) (c:Str) (A0:List Addr) (He:Hp) (x:Addr) (g:FEs):TS:=λ D σ H=>∃ ρ ε r,EOkS G c A0 He x σ H ρ ε/\g ρ ε=some r/\∀ σ' H',EOkS G c A0 He x σ' H' r.1 r.2->D.nx σ' H'
def PSE (X:Cx) (G:Gx) (c:Str) (st:Stmt) (g:FEs):Prop:=∀ ⦃A0⦄ He x,PS X st (tE G c A0 He x g)
def tTE (G:Gx) (c:Str) (A0:List Addr) (He:Hp) (x:Addr) (t:FTE):TT:=λ σ H Q=>∃ A ρ ε b,EOk G c A0 He x A σ H ρ ε/\t ρ ε=some b/\∀ H',Same H H'->Q b H'
def PTE (X:Cx) (G:Gx) (c:Str) (e:Expr) (t:FTE):Prop:=∀ ⦃A0⦄ He x,PT X e (tTE G c A0 He x t)
def PWE (X:Cx) (G:Gx) (c:Str) (e:Expr) (t:FTE):Prop:=∀ ⦃A0⦄ He x,PW X e (tTE G c A0 He x t)
section
variable {c:Str}{a b k it:Expr}{fa fb fk:FE}{p2 p px:Pos}{rest:List Stmt}{g gs:FEs}{gp:FS}{ta tb:FTE}{tp:FT}
theorem TF (h:PFT X G e tp):PTE X G c e (Jl tp):=λ A0 He x=>λ π s σ H Q I ⟨A,ρ,ε,b,o,e,k⟩=>@h A π s σ H Q I ⟨ρ,b,o.w.ok,e,k⟩
theorem di (h:PTE X G c a ta):PWE X G c (.BoolOp .Or [a] pos) ta:=λ A0 He x=>YW (@h A0 He x)
theorem lB {rest:List Expr}(ha:PTE X G c a ta) (hb:PWE X G c (.BoolOp .Or (b::rest) pos) tb):PWE X G c (.BoolOp .Or (a::b::rest) pos) (orTE ta tb):=λ A0 He x=>ZD (gZ (@ha A0 He x) (@hb A0 He x)) λ σ H Q ⟨A,ρ,ε,d,o,e,k⟩=>by
 unfold orTE at e;split at e
 ·rename_i e1;cases e;exact⟨A,ρ,ε,_,o,e1,λ H1 s1=>iteT (k H1 s1)⟩
 ·rename_i e1;exact⟨A,ρ,ε,_,o,e1,λ H1 s1=>iteF ⟨A,ρ,ε,d,o.mono s1,e,λ H2 s2=>k H2 (s1.trans s2)⟩⟩
 ·cases e
theorem PWE.pt (h:PWE X G c a ta):PTE X G c a ta:=λ A0 He x=>(@h A0 He x).pt
theorem lC {x:Str}{ap:Pos}(hu:X.A.units+1<cLine) (hcl:∀ c C,G.cl c=some C->Cls X.K C/\Av X.K C f) (hv:PE X (.Name x px) (tVar 0)) (ha:PF X G a fa) (hb:attributeBase (.Name x px) f X.env (eval (.Name x px) X.env)=eval (.Name x px) X.env:=by rfl)
  (hm:behindInMarks .In (.Attribute (.Name x px) f ap)=false:=by rfl):PTE X G c (.Compare a [.In] [.Attribute (.Name x px) f ap] pos) (inTE f fa):=λ A0 He y π s σ H Q I ⟨A,ρ,ε,d,o,e,k⟩=>by
 refine Vc (Uv hu) (@ha A) (Ue hv hb) hm π s σ H Q I ?_;unfold inTE at e;cases e1:fa ρ with
 | none=>simp[e1] at e
 | some kd=>
  simp only[e1,z0a] at e;split at e
  ·rename_i kds e2;cases e3:keyD kd with
   | none=>simp[e3] at e
   | some q=>
    simp only[e3,z0w] at e;cases e;refine⟨ρ,kd,o.w.ok,e1,λ v H1 s1 r1=>?_⟩;obtain⟨C,dx,fs,as,h1,h2,h3⟩:=(o.mono s1).ob;obtain⟨p,q1,q2,q3,q4,q5,kvs,t1,t2,t3⟩:=h3.get e2;refine⟨_,o.at0,y,C,dx,fs,_,rfl,h1,(hcl _ _ h2).1,(hcl _ _ h2).2,q1,p,kvs,q,rfl,.of t1,Gn r1 e3,?_⟩;rw[(Ik (k:=q) t2 t3).2];exact⟨_,rfl,k H1 s1⟩
  ·cases e
theorem Zu {x:Str}(hcl:∀ c C,G.cl c=some C->Cls X.K C/\Av X.K C f) (hv:PE X (.Name x px) (tVar 0)) (ha:PF X G a fa) (hsw:swapsWith a (some (.Attribute (.Name x px) f pos')) pos.line X.env=pure false:=by rfl) :
  PSE X G c (.Assign [.Attribute (.Name x px) f pos'] a pos) (WM f fa):=λ A0 He y π s σ H D I ⟨ρ,ε,r,⟨A,o⟩,e,k⟩=>by
 refine Yj hv (@ha A) hsw π s σ H D I ?_;unfold WM at e;cases e1:fa ρ with
 | none=>simp[e1] at e
 | some d=>
  simp only[e1,z0a] at e;split at e
  ·rename_i hz;cases e;refine⟨ρ,d,o.w.ok,e1,λ u H1 s1 r1=>?_⟩;have o1:=o.mono s1;obtain⟨C,dx,fs,as,h1,h2,h3⟩:=o1.ob;have hn:=h3.none (Option.isNone_iff_eq_none.mp hz.1);refine⟨_,o.at0,y,C,dx,fs,rfl,h1,(hcl _ _ h2).1,(hcl _ _ h2).2,by rw[h3.len];exact hz.2,?_⟩;rw[Kc hn];have sx:JB y H1 (upd H1 y (.ins C dx (fs++[(f,u)]))):=λ b w hb hw=>by rw[Ad hb];exact hw
   have sm:=Fi o1.xA sx;refine k _ _ ⟨A,o1.wr o1.xA o1.x0 sx (by rw[Ae];exact Nt.ins) ⟨C,dx,_,as,Ae,h2,?_⟩⟩;exact (h3.mp (λ v d r=>r.mono sm) (λ p hp d t=>t.other (h3.ne p hp).2.2 o1.xA sx) λ _ _ z=>z).snocP (r1.mono sm)
  ·cases e
theorem TJ {x:Str}(hcl:∀ c C,G.cl c=some C->Cls X.K C/\Av X.K C f) (hv:PE X (.Name x px) (tVar 0)) (ha:PN X G a fa) (hsw:swapsWith a (some (.Attribute (.Name x px) f pos')) pos.line X.env=pure false:=by rfl) :
    PSE X G c (.Assign [.Attribute (.Name x px) f pos'] a pos) (Kz f fa):=λ A0 He y π s σ H D I ⟨ρ,ε,r,⟨A,o⟩,e,k⟩=>by
  refine Yj hv (@ha A) hsw π s σ H D I ?_;unfold Kz at e;cases e1:fa ρ with
  | none=>simp[e1] at e
  | some d=>
    simp only[e1,z0a] at e;split at e
    · rename_i hz
      cases e;refine⟨ρ,d,o.w.ok,e1,λ q H1 s1 hq t=>?_⟩;obtain⟨C,dx,fs,as,h1,h2,h3⟩:=o.ob;have nqA:q∉A:=λ z=>(o.w.ok.live q z).ne hq;have pl:Same (hid A H) (hid (q::A) H1):=Ij s1 hq;have hn:=h3.none (Option.isNone_iff_eq_none.mp hz.1);have nq0:q∉A0:=λ z=>nqA (o.w.sub q z);have nqy:q≠y:=λ z=>nqA (z▸o.xA);have nqs:q∉as:=λ z=>nqA (h3.ne q z).1;have o1:EOk G c A0 He y (q::A) σ H1 ρ ε:=⟨⟨o.w.same.trans s1,λ a ha=>z07 _ (o.w.sub a ha),λ a ha=>by
          rcases z06.mp ha with z | z
          · rw[z];exact .inr (o.w.same.free hq)
          · exact o.w.fr a z,o.w.l0,o.w.ok.fill s1 hq t.live,λ i d a h _=>absurd h (CK o.no i d),λ y d _ h=>absurd h (CK o.no 0 d)⟩,o.no,z07 _ o.xA,o.x0,o.s0,C,dx,fs,as,s1 _ _ h1,h2,
          h3.mp (λ v d r=>r.mono pl) (λ p hp d t=>t.plain s1 pl) λ p _ hp=>z07 _ hp⟩
      have g1:=s1 _ _ h1;have g2:=h2;have g3:FsOk G A0 (q::A) H1 y fs ε as:=h3.mp (λ v d r=>r.mono pl) (λ p hp d t=>t.plain s1 pl) λ p _ hp=>z07 _ hp;have hn':=g3.none (Option.isNone_iff_eq_none.mp hz.1);refine⟨_,o.at0,y,C,dx,fs,rfl,g1,(hcl _ _ g2).1,(hcl _ _ g2).2,by rw[g3.len];exact hz.2,?_⟩;rw[Kc hn'];have sx:JB y H1 (upd H1 y (.ins C dx (fs++[(f,.ref q)]))):=λ b w hb hw=>by rw[Ad hb];exact hw
      have sm:=Fi o1.xA sx;refine k _ _ ⟨q::A,o1.wr o1.xA o1.x0 sx (by rw[Ae];exact Nt.ins) ⟨C,dx,_,as++[q],Ae,g2,?_⟩⟩;exact (g3.mp (λ v d r=>r.mono sm) (λ p hp d t=>t.other (g3.ne p hp).2.2 o1.xA sx) λ _ _ z=>z).snocO z0k nq0 nqy nqs (t.other nqy o1.xA sx)
    · cases e
theorem EOk.frameW {x:Addr}(o:EOk G c A0 He x A σ H ρ ε):OkW G A H A σ H ρ:=⟨Same.refl H,λ _ h=>h,λ a h=>.inl h,λ a ha=>(o.w.ok.live a ha).ne,o.w.ok,λ i d a h _=>absurd h (CK o.no i d),λ y d _ h=>absurd h (CK o.no 0 d)⟩
end
theorem Jm:b∈A.filter (λ b=>decide (b≠p))↔b∈A/\b≠p:=by simp[z0s]
theorem WN {d:D}(I:Inv X π σ H s) (hA:a∈A) (t:Top G A H a d) :
  ∃ H',Inv X π σ H' s/\(∀ b,b≠a->H' b=H b)/\Same (hid A H) (hid (A.filter λ b=>decide (b≠a)) H')/\Rep G (hid (A.filter λ b=>decide (b≠a)) H') (.ref a) d:=by
 have key:∀ H':Hp,(∀ b,b≠a->H' b=H b)->Same (hid A H) (hid (A.filter λ b=>decide (b≠a)) H'):=λ H' hh b u h=>by
  unfold hid at h;split at h
  ·cases h
  ·rename_i hb;rw[Ao (λ z=>hb (Jm.mp z).1),hh b (λ z=>hb (z▸hA))];exact h
 have at0:∀ H':Hp,hid (A.filter λ b=>decide (b≠a)) H' a=H' a:=λ H'=>Ao (λ z=>(Jm.mp z).2 rfl);cases d with
 | lst ds=>
  obtain⟨xs,a1,a2⟩:=t;have sm:=key H λ _ _=>rfl;exact⟨H,I,λ _ _=>rfl,sm,.lst (.of (by rw[at0];exact a1)) (a2.mono sm).1 (a2.mono sm).2⟩
 | dk ds=>
  obtain⟨xs,a1,a2,a3⟩:=t;obtain⟨o,I'⟩:=Inv.frzK I a1;have sm:=key _ λ b hb=>Ad (o:=.frz o (.dK xs)) hb;exact⟨_,I',λ b hb=>Ad hb,sm,.dk (by rw[at0];exact Ae) a2 (a3.mono sm).2⟩
 | dt ds=>
  obtain⟨xs,a1,a2,a3⟩:=t;obtain⟨o,I'⟩:=Inv.frzT I a1;have sm:=key _ λ b hb=>Ad (o:=.frz o (.dT xs)) hb;exact⟨_,I',λ b hb=>Ad hb,sm,.dt (by rw[at0];exact Ae) a2 (a3.mono sm).2⟩
 | ob c gs=>
  obtain⟨C,dx,xs,a1,a2,a3⟩:=t;have sm:=key H λ _ _=>rfl;exact⟨H,I,λ _ _=>rfl,sm,.ob a2.1 (by rw[at0];exact a1) a2.2 (a3.mono sm).2⟩
 | _=>exact t.elim
theorem FsOk.frz {x:Addr}{fs:List (Str×V)}{as:List Addr}(h:FsOk G A0 A H x fs ε as) (I:Inv X π σ H s) :
  ∃ H' A',Inv X π σ H' s/\(∀ b,b∉as->H' b=H b)/\(∀ b,b∈A'↔b∈A/\b∉as)/\Same (hid A H) (hid A' H')/\RepL G (hid A' H') (fs.map (·.2)) (ε.map λ p=>p.2.2):=by
 induction h with
 | nil=>exact⟨H,A,I,λ _ _=>rfl,λ b=>by simp,Same.refl _,.nil⟩
 | pl rv _ ih=>
  obtain⟨H',A',i1,i2,i3,i4,i5⟩:=ih;exact⟨H',A',i1,i2,i3,i4,.cons (rv.mono i4) i5⟩
 | @ow f a d fs ε as h1 h2 h3 h4 t _ ih=>
  obtain⟨H1,A1,i1,i2,i3,i4,i5⟩:=ih;have ha:a∈A1:=(i3 a).mpr ⟨h1,h4⟩;have e1:H1 a=H a:=i2 a h4;have t1:Top G A1 H1 a d:=by
   cases d with
   | lst ds=>obtain⟨xs,q1,q2⟩:=t;exact⟨xs,by rw[e1];exact q1,q2.mono i4⟩
   | dk ds=>obtain⟨xs,q1,q2,q3⟩:=t;exact⟨xs,by rw[e1];exact q1,q2,q3.mono i4⟩
   | dt ds=>obtain⟨xs,q1,q2,q3⟩:=t;exact⟨xs,by rw[e1];exact q1,q2,q3.mono i4⟩
   | ob c gs=>obtain⟨C,dx,xs,q1,q2,q3⟩:=t;exact⟨C,dx,xs,by rw[e1];exact q1,q2,q3.mono i4⟩
   | _=>exact t.elim
  obtain⟨H2,j1,j2,j3,j4⟩:=WN i1 ha t1;refine⟨H2,A1.filter λ b=>decide (b≠a),j1,λ b hb=>?_,λ b=>?_,i4.trans j3,.cons j4 (i5.mono j3)⟩
  ·rw[j2 b (λ z=>hb (by simp[z])),i2 b (λ z=>hb (z07 _ z))]
  ·rw[Jm,i3 b];simp only[z06,not_or];exact⟨λ ⟨⟨p1,p2⟩,p3⟩=>⟨p1,p3,p2⟩,λ ⟨p1,p3,p2⟩=>⟨⟨p1,p2⟩,p3⟩⟩
theorem EOk.whole {c:Str}{x:Addr}(o:EOk G c A0 He x A σ H ρ ε) (I:Inv X π σ H s) :
  ∃ H',Inv X π σ H' s/\Same He H'/\Rep G (hid A0 H') (.ref x) (finE c ε):=by
 obtain⟨C,dx,fs,as,h1,h2,h3⟩:=o.ob;obtain⟨H',A',i1,i2,i3,i4,i5⟩:=h3.frz I;have nx:x∉as:=λ z=>(h3.ne x z).2.2 rfl;refine⟨H',i1,λ b u hb=>?_,?_⟩
 ·rw[i2 b (λ z=>?_)]
  ·exact o.w.same b u hb
  ·obtain⟨q1,q2,_⟩:=h3.ne b z;rw[(o.w.fr b q1).resolve_left q2] at hb;cases hb
 ·have sb:∀ a∈A0,a∈A':=λ a ha=>(i3 a).mpr ⟨o.w.sub a ha,λ z=>(h3.ne a z).2.1 ha⟩;have en:fs.map (·.1)=(ε.map λ p=>(p.1,p.2.2)).map (·.1):=by
   rw[h3.names,z0i];rfl
  have es:(ε.map λ p=>(p.1,p.2.2)).map (·.2)=ε.map λ p=>p.2.2:=by rw[z0i];rfl
  refine .ob h2 (by rw[Ao o.x0,i2 x nx];exact h1) en ?_;rw[es];exact (i5.mono (Ck sb)).2
theorem JS (n:Nat) (ds:List D):noOw (Bm n ds)=true:=by
 unfold noOw Bm;rw[z0C];intro z hz
 rcases z0y.mp hz with q | q
 ·obtain⟨d,_,rfl⟩:=z0b.mp q;rfl
 ·rw[(List.mem_replicate.mp q).2]
section
variable {a b:Expr}{fa fb:FE}{p2 p:Pos}{fs:FA}
end
def K0s (g:FGs):Prop:=∀ ds ρ ρ',g ds ρ=some ρ'->ρ'[0]?=ρ[0]?
theorem Zv:K0s nilG:=λ ds ρ ρ' h=>by
 unfold nilG at h;split at h
 ·cases h;rfl
 ·cases h
theorem Mp {g:FGs}(hi:i≠0) (hg:K0s g):K0s (Bq i g):=λ ds ρ ρ' h=>by
 unfold Bq at h;split at h
 ·rw[hg _ _ _ h,z0n hi]
 ·cases h
theorem Zw {n:Nat}{g:FGs}(hg:K0s g) (d:D) (ρ ρ':Rho) (h:tupG n g d ρ=some ρ'):ρ'[0]?=ρ[0]?:=by
 unfold tupG at h;split at h
 ·split at h
  ·exact hg _ _ _ h
  ·cases h
 ·split at h
  ·exact hg _ _ _ h
  ·cases h
 ·cases h
end PV
namespace PV
open PySem PySem.W PySem.Calls PyProof.Rows L2
theorem U0:∀ (ns:List Int) (i:Int),i∈ns->Builtin.Int.intBits i<=WData.weightAll (ns.map WData.int):=by
 intro ns
 induction ns with
 | nil=>intro i h;cases h
 | cons n r ih=>
  intro i h;rw[z04];show Builtin.Int.intBits i<=WData.weight (.int n)+1+WData.weightAll (r.map WData.int)
  rcases z06.mp h with q | q
  ·subst q;have:WData.weight (.int i)=Builtin.Int.intBits i:=by unfold WData.weight Builtin.Int.intBits;rfl
   omega
  ·have:=ih i q;omega
theorem dj {l:OpenLaw}{n:Nat}{q:Program}{XP:(Str->Option Value)->Heap->Prop}{YP:World->Heap->Prop}{d:DefRec}(hn:l.most=some n) (hdf:d.params.defaults=[])
  (call:∀ (w:World) (s₀ s₁:Shared) (mg mb:Str->Option Value) (fa:Addr) (o:Obj) (pm cd doc:Value) (a:Addr) (vs:List Value) (ns:List Int),
   Ground q loose [] XP w s₀ mg mb s₁.heap->YP w s₁.heap ->
   s₁.heap.get? fa=some o->o.data=.func (docDef d.name d.params d.body d.scope pm cd doc)->s₁.heap.CodeRec cd d.name->mg d.name=some (.ref fa) ->
   s₁.heap.get? a=some { cls:=.type "list",data:=.seq vs.toArray }->IntsAre vs ns->ns.length<=n->(∀ i∈ns,Builtin.Int.intBits i<=1048576)->s₁.gens=#[] ->
   codeAny (model l.prog w) callerA (.call (.ref fa) ⟨[.ref a],[]⟩) (λ r s'=>r=.ok (.ret (.bool true))/\OldK s₁.heap s'.heap/\s'.os=s₁.os/\AllBare s'.gens) s₁) :
  WalkO q loose XP YP l.row.toRowW d [] (λ f vs=>PySem.call f vs):=by
 intro w s₀ s₁ mg mb G Y fa o pm cd doc dV kV ho hd hcd hD hmg hg args vals as hpre hlay hrd hwl hlo;obtain rfl:dV=.none:=Dflts.none hD hdf;obtain rfl:kV=.none:=Dflts.noKw hD;obtain⟨a,vs,ns,rfl,rfl,hobj,hints,hlen⟩:=Att.Xp hn hpre hwl;have hb:∀ i∈ns,Builtin.Int.intBits i<=1048576:=λ i hi=>by
  have h1:=U0 ns i hi;have h2:WData.weightAll (ns.map WData.int)<=1048576:=by
   have h3:WData.layable (.list (ns.map WData.int))=true:=z0C.mp hlay _ (z0k ..);unfold WData.layable at h3;rw[z0q] at h3;exact z0Z h3.2
  omega
 refine enter_call (z0N (call w s₀ s₁ mg mb fa o pm cd doc a vs ns G Y ho (fd_plain hd) hcd hmg hobj hints hlen hb hg) λ r s' hq=>?_);obtain⟨rfl,h2,h3,h4⟩:=hq;exact⟨.inl ⟨.bool true,.bool true,[],rfl,λ _=>rfl,.bool true,Att.Xq l _,λ _=>⟨List.Pairwise.nil,λ _ hm=>(nomatch hm)⟩⟩,h2,h3,h4⟩
theorem Zx {l:PySem.W.OpenLaw}{n k:Nat}{q:Program}{XP:(Str->Option Value)->Heap->Prop}{YP:World->Heap->Prop}{d:DefRec}{K:Params->PySem.W.Frag}{CX:World->CXT}{sp:World->Sp}{x:Str}(hn:l.most=some n) (hn2:n<=sizeLine) (hdf:d.params.defaults=[]) (hr:Room k callerA)
  (hY:∀ (w:World) (h:Heap),YP w h->(K w.params).In h)
  (F:∀ (w:World) (mg:Str->Option Value) (fa:Addr) (h:Heap),(K w.params).In h->h.Ns mainGlobals mg->mg d.name=some (.ref fa) ->
   ∃ fd:FuncData,(∀ (s:Shared) (u:Value),BindsTo s fd ⟨[u],[]⟩ [(x,u)]) ∧
    ∀ base:Heap,(K w.params).In base->base.Ns mainGlobals mg->FnOk l.prog w (K w.params) mg base (CX w) k fa fd [x] (sp w))
  (hsp:∀ (w:World) (H:Hp) (a:Addr) (ns:List Int),ns.length<=n->(∀ i∈ns,Builtin.Int.intBits i<=1048576)->Only H->SqL (K w.params) H a (ns.map V.int)->sp w [.ref a] H (λ v _=>v=.bl true) λ _ _ _=>False)
  (hCX:∀ (w:World) (H:Hp) (s:Shared) (e:Value) (s':Shared),CX w [] H s (λ _ _ _=>False) e s'->False) :
  PySem.W.WalkO q loose XP YP l.row.toRowW d [] (λ f vs=>PySem.call f vs):=by
 refine dj hn hdf λ w s₀ s₁ mg mb fa o pm cd doc a vs ns G Y ho hd hcd hmg hobj hints hlen hbits hg=>?_;have KX:=hY w _ Y;obtain⟨fd,hb,hF⟩:=F w mg fa _ KX G.T.g hmg;exact Yw KX G.T.g G.T.b G.T.builtins G.T.nolimit hg hobj hints (z0j hlen hn2) hr hF hb (λ H hO hS=>hsp w H a ns hlen hbits hO hS) λ H e s'=>hCX w H s₁ e s'
end PV
namespace PySem
open PySem.Spec
section
variable {A:Around}{I d:Addr}{es:Array DictEntry}{od:Obj}
def oW (h:Heap) (I d:Addr) (i n ep:Nat) (od:Obj):Prop:=h.get? I=some { cls:=.type "dict_keyiterator",data:=.fields #[.ref d,.int i 0,.int n 0,.int ep 0] }/\h.get? d=some od
theorem Walks.raw (hh:A.handled=none) (hne:d≠I) (hod:od.data=.dict es ep):Walks prog w A I [I,d] [I] es.size (λ i v=>∃ hi:i<es.size,v=(es[i]'hi).key) (λ i h=>oW h I d i es.size ep od) where
 sub:=λ b hb=>by simp at hb;simp[hb]
 frame:=λ _ _ _ st hk=>⟨hk I (by simp) _ st.1,hk d (by simp) _ st.2⟩
 item:=λ i s Q E hi st hQ=>by
  refine Uy hod hi st.1 st.2 ?_;have e1:(s.heap.update I (Obj.mapFields (·.setIfInBounds 1 (rawInt ((i:Int)+1))))).get? I=some { cls:=.type "dict_keyiterator",data:=.fields #[.ref d,.int ((i+1:Nat):Int) 0,.int es.size 0,.int ep 0] }:=z1n _ st.1 rfl;exact hQ _ _ s.toks ⟨hi,rfl⟩ ⟨e1,(z1e _ _ (Ne.symm hne)).trans st.2⟩ λ b o hb e=>(z1e _ _ (λ z=>hb (by simp[<-z]))).trans e
 done:=λ s Q E st hQ=>Ou hh hod (z03 _) st.1 st.2 λ h' he=>hQ h' s.toks λ b o hb e=>he b o (λ z=>hb (by simp[z])) e
 self:=λ _ _ _ _ st hQ=>wpAny_pyIter_keyiter ⟨_,st.1,rfl,rfl⟩ hQ
theorem dm (hd:(d==sysModules)=false) (hx:od.ExactDict) (hod:od.data=.dict es ep):PySem.W.KdlSrc prog w "dict" d d es.size (λ i v=>∃ hi:i<es.size,v=(es[i]'hi).key) (λ h=>h.get? d=some od) where
 type:=λ _ hm=>⟨_,hm,hx.1⟩
 there:=λ _ hm=>⟨z05 hm,z05 hm⟩
 keep:=λ _ _ hm hk=>hk d (.inl rfl) _ hm
 notList:=by decide
 notTuple:=by decide
 hint:=λ _ _ _ _ hm hq=>PySem.W.kdl_hint_dict ⟨_,hm,hx.1⟩ hq
 iter:=λ A s hh hm=>⟨_,_,λ E Q hq=>Uz hd hx hod hm hq,Walks.raw hh (z0e (z05 hm)) hod,z0l _ rfl,z08 _ hm⟩
end
end PySem
namespace PV
open PySem PySem.Spec L2
open PyProof.Rows hiding St
section
theorem Jo (hc:X.calm=true):Dn X (.type "list") (λ xs H Q=>∃ p kvs,xs=[.ref p]/\Rd H p (.dT kvs)/\∀ l (cs:List Addr),H l=none->cs.length=kvs.length->(∀ (i:Nat) (c:Addr) (q:List Key×V),cs[i]?=some c->kvs[i]?=some q->H c=some (.tup (q.1.map kV)))->Q (.ref l) (upd H l (.lst (cs.map V.ref)))):=by
 intro π s σ H xs us Q I r h;obtain⟨p,kvs,rfl,e,q⟩:=h;obtain⟨u,rfl,ru⟩:=r.one;cases ru;obtain⟨z,hd,ys,rel,o,es,ep,ho,hx,hod,hes,nd⟩:=(show Bg X.prog X.w H s.heap p (.dT kvs) from Yr I.hok e);have hl:kvs.length=ys.length:=rel.length;have hn:es.size=ys.length:=by rw[<-z1l,hes,z01]
 refine PySem.W.kdl_call (PySem.dm hd hx hod) (I.ok.hd hc) ho (by omega) λ h' tk acc c' kp hnew hi=>?_;have va:Vals ((ys.map (·.2.1)).map V.ref) acc.toList:=by
  have hla:acc.toList.length=ys.length:=by rw[z1l,hi.1,hn]
  have g:∀ (j:Nat) u,acc.toList[j]?=some u->∃ y,ys[j]?=some y/\u=.ref y.2.1:=λ j u hu=>by
   obtain⟨h1,h2⟩:=hi.2 j u (by simpa using hu);have hj:j<ys.length:=by omega
   refine⟨ys[j],by simp[hj],?_⟩;have e1:es[j]=entryOfKey (tupleKind (BK X.prog X.w)) ys[j]:=by
    have:es.toList[j]?=some (entryOfKey (tupleKind (BK X.prog X.w)) ys[j]):=by rw[hes];simp[hj]
    have h3:es.toList[j]?=some es[j]:=by simp[h1]
    rw[h3] at this;exact z0f this
   rw[h2,e1];rfl
  have build:∀ {ys:List (List Key×Addr×Value)}{us:List Value},us.length=ys.length->(∀ (j:Nat) u,us[j]?=some u->∃ y,ys[j]?=some y/\u=.ref y.2.1)->Vals ((ys.map (·.2.1)).map V.ref) us:=by
   intro ys
   induction ys with
   | nil=>intro us h1 _;rw[List.eq_nil_of_length_eq_zero h1];exact .nil
   | cons y r ih=>
    intro us h1 h2;cases us with
    | nil=>simp at h1
    | cons u us=>
     obtain⟨y',a1,a2⟩:=h2 0 u rfl;simp at a1;subst a1;exact .cons a2 (ih (by simpa using h1) λ j v hv=>by simpa using h2 (j+1) v (by simpa using hv))
  exact build hla g
 refine⟨.ref s.heap.objs.size,_,I.laid (t':=tk) kp (z03 _) (show Bg X.prog X.w _ h' _ (.lst ((ys.map (·.2.1)).map V.ref)) from⟨by rw[z01,z01];omega,acc.toList,c',va,by simpa using hnew⟩),rfl,q _ _ (I.hok.fresh (z03 _)) (by rw[z01];exact hl.symm) λ i c qq h1 h2=>?_⟩;rw[z0c] at h1;cases e3:ys[i]? with
 | none=>rw[e3] at h1;cases h1
 | some y=>
  rw[e3] at h1;cases h1;exact (G6 rel h2 e3).2.1
def Pn:D->Option D
 | .dt kds=>some (.lst (kds.map λ p=>.tup (p.1.map kDt)))
 | d=>listE d
theorem TQ {H:Hp}:∀ (k:List Key),RepL G H (k.map kV) (k.map kDt)
 | []=>.nil
 | k::r=>.cons (Ml k) (TQ r)
theorem RepT.dt {A:List Addr}{H:Hp}{v:V}{kds:List (List Key×D)}(r:RepT G A H v (.dt kds)):∃ a kvs,v=.ref a/\Rd H a (.dT kvs)/\kvs.map (·.1)=kds.map (·.1)/\RepL G (hid A H) (kvs.map (·.2)) (kds.map (·.2)):=by
 rcases r with r | ⟨a,e,kvs,h,k,r⟩
 ·cases r with
  | dt h k r=>
   refine⟨_,_,rfl,.inr ⟨_,Ai _ _ h⟩,k,?_,r⟩;have:=congrArg List.length k;rw[z01,z01] at this ⊢;exact this
 ·exact⟨a,kvs,e,.of h,k,r⟩
theorem Pq:SndC G (λ xs H Q=>((∃ p ys,xs=[.ref p]/\(SqL G.K H p ys∨SqT G.K H p ys)/\∀ l,H l=none->Q (.ref l) (upd H l (.lst ys)))∨∃ p kvs,xs=[.ref p]/\Rd H p (.dK kvs)/\∀ l,H l=none->Q (.ref l) (upd H l (.lst (kvs.map λ q=>kV q.1)))) ∨
  ∃ p kvs,xs=[.ref p]/\Rd H p (.dT kvs)/\∀ l (cs:List Addr),H l=none->cs.length=kvs.length->(∀ (i:Nat) (c:Addr) (q:List Key×V),cs[i]?=some c->kvs[i]?=some q->H c=some (.tup (q.1.map kV)))->Q (.ref l) (upd H l (.lst (cs.map V.ref)))) Pn:=by
 intro A H x dx d Q lv rx h k;unfold Pn at h;split at h
 ·rename_i kds;cases h;obtain⟨p,kvs,rfl,h1,h2,r⟩:=rx.dt;have hl:kvs.length=kds.length:=by have:=congrArg List.length h2;rwa [z01,z01] at this
  refine .inr ⟨p,kvs,rfl,h1,λ l cs hfree hcs hc=>k _ _ (Ay hfree _) (C_ lv hfree ⟨by rw[z01,z01];omega,λ i v dd e1 e2=>?_⟩)⟩;rw[z0c] at e1 e2;cases g1:cs[i]? with
  | none=>rw[g1] at e1;cases e1
  | some c=>
   cases g2:kds[i]? with
   | none=>rw[g2] at e2;cases e2
   | some qd=>
    rw[g1] at e1;rw[g2] at e2;cases e1;cases e2;have hi:i<kvs.length:=by rw[hl];exact (z0z.mp g2).1
    have g3:kvs[i]?=some kvs[i]:=by simp[hi]
    have ek:(kvs[i]).1=qd.1:=by
     have a1:(kvs.map (·.1))[i]?=some (kvs[i]).1:=by rw[z0c,g3];rfl
     rw[h2,z0c,g2] at a1;exact (z0f a1).symm
    have ht:=hc i c _ g1 g3;rw[ek] at ht;have nA:c∉A:=λ z=>(lv c z).tup _ ht;have kr:=TQ (G:=G) (H:=hid A H) qd.1;exact .tup (.of (by rw[Ao nA];exact ht)) kr.1 kr.2
 ·exact .inl (X6 A H x dx d Q lv rx h k)
end
section
def dkEq (a b:List (Key×D)):Option Bool:=if a.length≠b.length then some false else if a.map (·.1)=b.map (·.1) then allO flD (a.map (·.2)) (b.map (·.2)) else none
theorem WP {A:Around}{s:Shared}{kb:List (Key×Value)}:∀ {ka:List (Key×Value)}{ds es:List D}{b:Bool},ka.length=ds.length ->
  (∀ (j:Nat) (k:Key) (v:Value) (d e:D) (c:Bool),ka[j]?=some (k,v)->ds[j]?=some d->es[j]?=some e->flD d e=some c->∃ y,valueAt kb k=some y/\SeqAt.EqAt A s v y c)->allO flD ds es=some b->PySem.W.KeqHits A s kb ka b
 | [],ds,es,b,hl,_,h=>by
  cases ds with
  | nil=>
   cases es with
   | nil=>cases h;exact .nil
   | cons e r=>cases h
  | cons d r=>simp at hl
 | (k,v)::ka,[],es,b,hl,_,h=>by simp at hl
 | (k,v)::ka,d::ds,[],b,hl,_,h=>by cases h
 | (k,v)::ka,d::ds,e::es,b,hl,g,h=>by
  unfold allO at h;cases e1:flD d e with
  | none=>rw[e1] at h;cases h
  | some c=>
   cases e2:allO flD ds es with
   | none=>rw[e1,e2] at h;cases h
   | some b'=>
    rw[e1,e2] at h;cases h;obtain⟨y,h1,h2⟩:=g 0 k v d e c rfl rfl rfl e1;exact .hit h1 h2 (WP (by simpa using hl) (λ j k v d e c a1 a2 a3 a4=>g (j+1) k v d e c (by simpa using a1) (by simpa using a2) (by simpa using a3) a4) e2)
def Zy (G:Gx) (neg:Bool):R2:=λ x y H Q=>∃ (A:List Addr) (a b:List (Key×D)) (c:Bool),RepT G A H x (.dk a)/\RepT G A H y (.dk b)/\dkEq a b=some c/\Q (.bl (if neg then !c else c)) H
theorem Pu (hG:G.K=X.K) (hu:X.A.units+64<cLine) (I:Inv X π σ H s) {A:List Addr}{a b:List (Key×D)}{c:Bool}{x y:V}(rx:RepT G A H x (.dk a)) (ry:RepT G A H y (.dk b)) (e:dkEq a b=some c) :
  ∃ p q ka kb,x=.ref p/\y=.ref q/\(p==sysModules)=false/\(q==sysModules)=false/\s.heap.DictOf (BK X.prog X.w) p ka/\s.heap.DictOf (BK X.prog X.w) q kb/\∃ c',(ka.length=kb.length->PySem.W.KeqHits X.A.in1 s kb ka c')/\((ka.length==kb.length)&&c')=c:=by
 obtain⟨p,kvs,rfl,h1,h2,r1⟩:=rx.dk;obtain⟨q,kws,rfl,h3,h4,r2⟩:=ry.dk;unfold dkEq at e;split at e
 ·rename_i hlen;cases e;obtain⟨z1,hd1,va,rela,da⟩:=Hh I.hok h1;obtain⟨z2,hd2,vb,relb,db⟩:=Hh I.hok h3;have la:kvs.length=va.length:=rela.length;have lb:kws.length=vb.length:=relb.length;have l1:kvs.length=a.length:=by have:=congrArg List.length h2;simpa using this
  have l2:kws.length=b.length:=by have:=congrArg List.length h4;simpa using this
  exact⟨p,q,va,vb,rfl,rfl,hd1,hd2,da,db,true,λ z=>absurd z (by omega),by rw[Bool.and_true];exact z0p.mpr (by omega)⟩
 split at e
 ·rename_i hk;obtain⟨z1,hd1,va,rela,da⟩:=Hh I.hok h1;obtain⟨z2,hd2,vb,relb,db⟩:=Hh I.hok h3;have la:kvs.length=va.length:=rela.length;have lb:kws.length=vb.length:=relb.length;have l1:kvs.length=a.length:=by have:=congrArg List.length h2;simpa using this
  have l2:kws.length=b.length:=by have:=congrArg List.length h4;simpa using this
  have l3:a.length=b.length:=by have:=congrArg List.length hk;simpa using this
  have nd:(vb.map (·.1)).Nodup:=by obtain⟨_,_,_,_,_,_,_,_,nd⟩:=db;exact nd
  refine⟨p,q,va,vb,rfl,rfl,hd1,hd2,da,db,c,λ _=>WP (ds:=a.map (·.2)) (es:=b.map (·.2)) (by rw[z01];omega) (λ j k v d e' c' g1 g2 g3 g4=>?_) e,by rw[z0u.mpr (show va.length=vb.length by omega),Bool.true_and]⟩;have hj:j<va.length:=(z0z.mp g1).1;have kj:kvs[j]?=some kvs[j]:=by simp[show j<kvs.length by omega]
  have wj:kws[j]?=some kws[j]:=by simp[show j<kws.length by omega]
  have bj:vb[j]?=some vb[j]:=by simp[show j<vb.length by omega]
  have p1:=G6 rela kj g1;have p2:=G6 relb wj bj;have ek:(kvs[j]).1=(kws[j]).1:=by
   have a1:(kvs.map (·.1))[j]?=some (kvs[j]).1:=by rw[z0c,kj];rfl
   have a2:(kws.map (·.1))[j]?=some (kws[j]).1:=by rw[z0c,wj];rfl
   rw[h2,hk,<-h4,a2] at a1;exact (z0f a1).symm
  have key:k=(vb[j]).1:=by rw[<-p2.1,<-ek];exact p1.1.symm
  refine⟨(vb[j]).2,valueAt_of_get nd (i:=j) (by rw[bj,key]),?_⟩;have rv1:Rep G (hid A H) (kvs[j]).2 d:=r1.2 j _ d (by rw[z0c,kj];rfl) g2;have rv2:Rep G (hid A H) (kws[j]).2 e':=r2.2 j _ e' (by rw[z0c,wj];rfl) g3;exact KR I hG 0 X.A.in1 (by show X.A.units+1+0<cLine;omega) (show eqK 0 d e'=some c' from g4) (rv1.mono Ai) (rv2.mono Ai) p1.2 p2.2
 ·cases e
theorem dq (hG:G.K=X.K) (hu:X.A.units+64<cLine):OpR X (compareOp .Eq) (Zy G false):=by
 intro π s σ H x y v u Q I rx ry h;obtain⟨A,a,b,c,r1,r2,e,k⟩:=h;obtain⟨p,q,ka,kb,rfl,rfl,m1,m2,da,db,c',hits,rfl⟩:=Pu hG hu I r1 r2 e;cases rx;cases ry;exact PySem.W.keq_eq m1 m2 da db (by omega) hits ⟨.bl _,H,I,rfl,k⟩
theorem dw (hG:G.K=X.K) (hu:X.A.units+64<cLine):OpR X (compareOp .NotEq) (Zy G true):=by
 intro π s σ H x y v u Q I rx ry h;obtain⟨A,a,b,c,r1,r2,e,k⟩:=h;obtain⟨p,q,ka,kb,rfl,rfl,m1,m2,da,db,c',hits,rfl⟩:=Pu hG hu I r1 r2 e;cases rx;cases ry;exact PySem.W.keq_ne m1 m2 da db (by omega) hits ⟨.bl _,H,I,rfl,k⟩
def eqF (neg:Bool) (x y:D):Option D:=match x,y with
 | .dk a,.dk b=>(dkEq a b).map λ c=>.bl (if neg then !c else c)
 | x,y=>eqD neg x y
theorem WQ (neg:Bool):DG G (λ x y H Q=>rEqA G neg x y H Q∨Zy G neg x y H Q) (eqF neg):=by
 intro A H x y dx dy d Q lv rx ry h k;unfold eqF at h;split at h
 ·rename_i a b;cases e:dkEq a b with
  | none=>simp[e] at h
  | some c=>
   simp only[e,z0w] at h;cases h;exact .inr ⟨A,a,b,c,rx,ry,e,k _ H (Same.refl H) (.bl _)⟩
 ·exact .inl (RN neg A H x y _ _ d Q lv rx ry h k)
end
structure FunD (K:zFr) (x qual:Str) (st:Stmt) (f:Addr) (fd:FuncData):Prop where
 ex:∃ (oc:Value) (od:Option Addr) (dV kV doc pm:Value) (an:Option Addr) (cdv ct:Value) (osl:Array (Option Value)),
  fd=PySem.W.fnOf x qual (Bv st) (Aw st) (Ab st) dV kV doc pm an cdv ct/\K.lookup f=some ⟨oc,od,.func fd,osl⟩/\PySem.W.codeIn K cdv qual=true
 kp:PySem.W.keepIn K (.ref f)=true
theorem dz {K:zFr}{x:Str}{f:Addr}{dV kV:Value}(l:K.lookup f=some ⟨oc,od,.func (PySem.W.fnOf x qual (Bv st) (Aw st) (Ab st) dV kV doc pm an cdv ct),osl⟩)
  (c:PySem.W.codeIn K cdv qual=true) (k:PySem.W.keepIn K (.ref f)=true):FunD K x qual st f (PySem.W.fnOf x qual (Bv st) (Aw st) (Ab st) dV kV doc pm an cdv ct):=⟨⟨oc,od,dV,kV,doc,pm,an,cdv,ct,osl,rfl,l,c⟩,k⟩
theorem FunD.binds {K:zFr}{x:Str}{f:Addr}(F:FunD K x qual st f fd)
  (h:∀ (dV kV doc pm:Value) (an:Option Addr) (cdv ct:Value) (us:List Value),us.length=ps.length->bindArgs (PySem.W.fnOf x qual (Bv st) (Aw st) (Ab st) dV kV doc pm an cdv ct) ⟨us,[]⟩=pure (ps.zip us)):Binds K fd ps []:=by
 obtain⟨oc,od,dV,kV,doc,pm,an,cdv,ct,osl,rfl,lk,hcd⟩:=F.ex;exact .all (h dV kV doc pm an cdv ct)
theorem oX {base:Heap}{x:Str}{f:Addr}{k:Nat}{b:FS}(F:FunD G.K x qual st f fd) (S:FnScope N ps (Ab st)) (hl:ps.length<=N.length)
  (hb:∀ (cdv:Value) (A:Around) (outer:List Env) (s:Shared) (H:Hp) (E:XK),Room k (A.deeper (envOfC qual (Ab st) s.heap.objs.size f cdv))->PSDs (cxOf CX0 P w G.K mg base N qual (Ab st) f cdv A outer s H E).nox G (Aw st) b) :
  FnOk P w G.K mg base CX0 (k+1) f fd ps (spD G (runF N.length ps.length b)):=by
 obtain⟨oc,od,dV,kV,doc,pm,an,cdv,ct,osl,rfl,lk,hcd⟩:=F.ex;refine O_ lk hcd S (λ vs H Q E h=>?_) (λ A outer s H vs Q E hr h=>?_)
 ·obtain⟨A,ds,d,lv,r,e,_⟩:=h;unfold runF at e;split at e
  ·rename_i hz;rw[r.1];exact hz
  ·cases e
 ·obtain⟨A0,ds,d,lv,r,e,k⟩:=h;unfold runF at e;split at e
  ·rename_i hz;have hzz:=hb cdv A outer s H E hr;refine⟨_,(@hzz A0 H).nox,Bm N.length ds,?_⟩;cases e1:b (Bm N.length ds) with
   | none=>simp[e1] at e
   | some o=>
    refine⟨o,Hl lv r (by rw[r.1,hz];exact hl),rfl,?_⟩;cases o with
    | nx ρ=>
     simp only[e1] at e;cases e;exact λ σ H' ⟨A,w⟩=>k _ H' w.same .non
    | rt d' ρ'=>
     simp only[e1] at e;cases e;exact λ v σ H' A w r'=>k v H' w.same (r'.mono (Ck w.sub))
    | bk ρ=>simp[e1] at e
    | ct ρ=>simp[e1] at e
  ·cases e
end PV
namespace PV
open PySem L2
theorem Zz (l:List D) (y:D):ixE (.lst l) y=ixD (.lst l) y:=zE_ _
theorem Z0 (l:List D) (y:D):ixE (.tup l) y=ixD (.tup l) y:=zE_ _
theorem Z1 (l:Str) (y:D):ixE (.str l) y=ixD (.str l) y:=zE_ _
theorem Mq (k:List (Key×D)) (x:Str):ixE (.dk k) (.str x)=getK (.inr x) k:=zE_ _
theorem WR (k:List (Key×D)) (x:Int):ixE (.dk k) (.int x)=getK (.inl x) k:=zE_ _
theorem WT (l:List D):lenE (.lst l)=some (.int l.length):=zE_ _
theorem WW (l:List (Key×D)):lenE (.dk l)=some (.int l.length):=zE_ _
theorem Jp (neg:Bool) (x:Str) (k:List (Key×D)):inF neg (.str x) (.dk k)=some (.bl (if neg then !(getK (.inr x) k).isSome else (getK (.inr x) k).isSome)):=zE_ _
theorem Rb (neg:Bool) (x:Int) (k:List (Key×D)):inF neg (.int x) (.dk k)=some (.bl (if neg then !(getK (.inl x) k).isSome else (getK (.inl x) k).isSome)):=zE_ _
theorem WX (neg:Bool) (x:Str) (l:List D):inF neg (.str x) (.tup l)=inD neg (.str x) (.tup l):=zE_ _
theorem WY (neg:Bool) (x:Str) (l:List D):inF neg (.str x) (.lst l)=inD neg (.str x) (.lst l):=zE_ _
theorem Wa (neg:Bool) (x:Int) (l:List D):inF neg (.int x) (.lst l)=inD neg (.int x) (.lst l):=zE_ _
def HR (o:Option D):Option (List D):=match o with | some (.str x)=>some (S_ x) | some (.lst ds)=>some ds | some (.tup ds)=>some ds | some (.dk kds)=>some (kds.map λ p=>kDt p.1) | _=>none
theorem Dh (f:FE) (ρ:Rho):seqA f ρ=HR (f ρ):=by
 unfold seqA seqE HR;cases f ρ with
 | none=>rfl
 | some d=>cases d<;>rfl
theorem Er (l:List D):HR (some (.lst l))=some l:=zE_ _
theorem Wb (l:List D):HR (some (.tup l))=some l:=zE_ _
theorem Mr (l:List (Key×D)):HR (some (.dk l))=some (l.map λ p=>kDt p.1):=zE_ _
def putO (i:Nat) (ρ:Rho) (x y v:Option D):Option Out:=v.bind λ v=>y.bind λ y=>x.bind λ x=>(Df x y v).map λ z=>.nx (ρ.set i (.ow z))
theorem Wc (i:Nat) (fk fv:FE) (ρ:Rho):putF i fk fv ρ=putO i ρ (getW ρ[i]?) (fk ρ) (fv ρ):=zE_ _
theorem Rc (i:Nat) (ρ:Rho) (x y v:D):putO i ρ (some x) (some y) (some v)=(Df x y v).map λ z=>.nx (ρ.set i (.ow z)):=zE_ _
def iR (i:Nat) (ρ:Rho) (x:Option D) (y:Option (List D)) (v:Option D):Option Out:=v.bind λ v=>y.bind λ y=>x.bind λ x=>(Nu x y v).map λ z=>.nx (ρ.set i (.ow z))
theorem Z2 (i:Nat) (fk:FA) (fv:FE) (ρ:Rho):S8 i fk fv ρ=iR i ρ (getW ρ[i]?) (fk ρ) (fv ρ):=zE_ _
theorem We (i:Nat) (ρ:Rho) (x:D) (y:List D) (v:D):iR i ρ (some x) (some y) (some v)=(Nu x y v).map λ z=>.nx (ρ.set i (.ow z)):=zE_ _
def frzO (ρ:Rho) (i:Nat) (o:Option Slot):Rho:=match o with | some (.ow d)=>ρ.set i (.fz d) | _=>ρ
theorem iT (g:FS) (ρ:Rho):fzS [] g ρ=g ρ:=zE_ _
theorem iU (i:Nat) (is:List Nat) (g:FS) (ρ:Rho):fzS (i::is) g ρ=fzS is g (frzO ρ i ρ[i]?):=zE_ _
theorem Z3 (ρ:Rho) (i:Nat) (d:D):frzO ρ i (some (.ow d))=ρ.set i (.fz d):=zE_ _
theorem Z4 (ρ:Rho) (i:Nat) (d:D):frzO ρ i (some (.fz d))=ρ:=zE_ _
def itO (o:Option D):Option (List D):=match o with | some (.dk kds)=>some (kds.map λ p=>.tup [kDt p.1,p.2]) | _=>none
theorem Wf (f:FE) (ρ:Rho):JQ f ρ=itO (f ρ):=zE_ _
theorem TV (kds:List (Key×D)):itO (some (.dk kds))=some (kds.map λ p=>.tup [kDt p.1,p.2]):=zE_ _
theorem Rg (i j:Nat) (a b:D) (ρ:Rho):tupG 2 (Bq i (Bq j nilG)) (.tup [a,b]) ρ=some ((ρ.set i (.fz a)).set j (.fz b)):=zE_ _
theorem K1 (x:Str):kDt (.inr x)=.str x:=zE_ _
theorem iV (x:Int):kDt (.inl x)=.int x:=zE_ _
theorem Px {κ:Type} [DecidableEq κ] {k:κ}:∀ {l:List (κ×D)},k∉l.map (·.1)->getK k l=none
 | [],_=>rfl
 | p::r,h=>by
  unfold getK;rw[z04,z06,not_or] at h;rw[if_neg (λ z=>h.1 z.symm)];exact Px h.2
theorem putL_new {κ:Type} [DecidableEq κ] {k:κ}{v:D}{l:List (κ×D)}(h:k∉l.map (·.1)):putL k v l=l++[(k,v)]:=by
 unfold putL;rw[Px h];rfl
theorem JT (k:List (Key×D)) (x:Str) (v:D) (hl:k.length<=1000000):Df (.dk k) (.str x) v=some (.dk (putL (.inr x) v k)):=by
 show (if k.length<sizeLine then some (D.dk (putL (.inr x) v k)) else none)=_;rw[if_pos (z18 hl (by decide))]
theorem lD (k:List (Key×D)) (x:Int) (v:D) (hl:k.length<=1000000):Df (.dk k) (.int x) v=some (.dk (putL (.inl x) v k)):=by
 show (if k.length<sizeLine then some (D.dk (putL (.inl x) v k)) else none)=_;rw[if_pos (z18 hl (by decide))]
theorem lE (k:List (List Key×D)) (x y:Int) (v:D) (hl:k.length<=1000000):Nu (.dt k) [.int x,.int y] v=some (.dt (putL [.inl x,.inl y] v k)):=by
 show (if k.length<sizeLine/\2<=sizeLine then some (D.dt (putL [.inl x,.inl y] v k)) else none)=_;rw[if_pos ⟨z18 hl (by decide),by decide⟩]
end PV
namespace PV
open PySem PySem.Spec L2
open PyProof.Rows hiding St
section
variable {a b c:Expr}{fa fb fc:FE}{p2 px:Pos}
theorem RepL.set (r:RepL G H xs ds) {v:V}{d:D}(q:Rep G H v d) (j:Nat):RepL G H (xs.set j v) (ds.set j d):=by
 refine⟨by rw[z0J,z0J];exact r.1,λ i x e h1 h2=>?_⟩
 by_cases h:j=i
 ·subst h;rw[List.getElem?_set] at h1 h2;simp only[if_true] at h1 h2;split at h1
  ·split at h2
   ·cases h1;cases h2;exact q
   ·cases h2
  ·cases h1
 ·rw[z0n h] at h1 h2;exact r.2 i x e h1 h2
end
section
variable {a b c:Expr}{fa fb fc:FE}{p2:Pos}{fs:FA}
theorem vr (i:Nat) {x:Str}(hN:X.N[i]?=some x:=by rfl) (hv:Vis X.env.scope x:=by first | exact Or.inl rfl | exact Or.inr (Or.inl rfl) | exact Or.inr (Or.inr rfl)) (hd:(x==("__debug__":Str))=false:=by decide) (hcd:(x==("__classdict__":Str))=false:=by decide):PF X G (.Name x pos) (vF i):=jt i (pv i hN hv hd hcd)
theorem vp (i:Nat) {x:Str}(hN:X.N[i]?=some x:=by rfl) (hv:Vis X.env.scope x:=by first | exact Or.inl rfl | exact Or.inr (Or.inl rfl) | exact Or.inr (Or.inr rfl)) (hd:(x==("__debug__":Str))=false:=by decide) (hcd:(x==("__classdict__":Str))=false:=by decide):PU X G (.Name x pos) (vF i):=PF.pu (vr i hN hv hd hcd)
theorem vq (i:Nat) {x:Str}(hN:X.N[i]?=some x:=by rfl) (hv:Vis X.env.scope x:=by first | exact Or.inl rfl | exact Or.inr (Or.inl rfl) | exact Or.inr (Or.inr rfl)) (hd:(x==("__debug__":Str))=false:=by decide) (hcd:(x==("__classdict__":Str))=false:=by decide):PU X G (.Name x pos) (vU i):=ju i (pv i hN hv hd hcd)
theorem pU {f:FE}(h:PF X G e f):PU X G e f:=PF.pu h
theorem iP {i j}:PU X G (.Constant (.int i) j pos) (kF (.int i)):=PF.pu Uq
theorem sP {x j}:PU X G (.Constant (.str x) j pos) (kF (.str x)):=PF.pu KN
theorem iX {k:Nat}(hr:Room k X.A) (ha:PU X G a fa) (hb:PU X G b fb) (hG:G.K=X.K:=by rfl) (hs:JZ b:=by exact λ _ _=>rfl):PF X G (.Subscript a b pos) (bF ixE fa fb):=kW (Ek hr) hG ha hb hs
theorem iD (ha:PU X G a fa) (hb:PU X G b fb) (hG:G.K=X.K:=by rfl) (hs:JZ b:=by exact λ _ _=>rfl):PF X G (.Subscript a b pos) (bF ixD fa fb):=oG hG ha hb hs
theorem bAdd (ha:PU X G a fa) (hb:PU X G b fb) (hG:G.K=X.K:=by rfl):PF X G (.BinOp a .Add b pos) (bF addD fa fb):=G5 dF (by rw[<-hG];exact dG) ha hb
theorem bSub (ha:PU X G a fa) (hb:PU X G b fb):PF X G (.BinOp a .Sub b pos) (bF subD fa fb):=G5 je cg ha hb
theorem bMul (ha:PU X G a fa) (hb:PU X G b fb):PF X G (.BinOp a .Mult b pos) (bF mulD fa fb):=G5 cj cz ha hb
theorem bDiv (ha:PU X G a fa) (hb:PU X G b fb):PF X G (.BinOp a .FloorDiv b pos) (bF Bp fa fb):=G5 cD ZJ ha hb
theorem bMod (ha:PU X G a fa) (hb:PU X G b fb):PF X G (.BinOp a .Mod b pos) (bF modD fa fb):=G5 jf dB ha hb
theorem cEq {k:Nat}(hr:Room k X.A) (ha:PU X G a fa) (hb:PU X G b fb) (hG:G.K=X.K:=by rfl):PF X G (.Compare a [.Eq] [b] pos) (bF (eqD false) fa fb):=ZF (Us hG hr.unitsW) (RN false) ha hb (HY _)
theorem tEq {k:Nat}(hr:Room k X.A) (ha:PU X G a fa) (hb:PU X G b fb) (hG:G.K=X.K:=by rfl):PFT X G (.Compare a [.Eq] [b] pos) (blF (bF (eqD false) fa fb)):=Dw (Us hG hr.unitsW) (RN false) ha hb (HY _)
theorem tNe {k:Nat}(hr:Room k X.A) (ha:PU X G a fa) (hb:PU X G b fb) (hG:G.K=X.K:=by rfl):PFT X G (.Compare a [.NotEq] [b] pos) (blF (bF (eqD true) fa fb)):=Dw (ZQ hG hr.unitsW) (RN true) ha hb (HY _)
theorem tEqF {k:Nat}(hr:Room k X.A) (ha:PU X G a fa) (hb:PU X G b fb) (hG:G.K=X.K:=by rfl):PFT X G (.Compare a [.Eq] [b] pos) (blF (bF (eqF false) fa fb)):=Dw ((Us hG hr.unitsW).or (dq hG hr.units)) (WQ false) ha hb (HY _)
theorem tNeF {k:Nat}(hr:Room k X.A) (ha:PU X G a fa) (hb:PU X G b fb) (hG:G.K=X.K:=by rfl):PFT X G (.Compare a [.NotEq] [b] pos) (blF (bF (eqF true) fa fb)):=Dw ((ZQ hG hr.unitsW).or (dw hG hr.units)) (WQ true) ha hb (HY _)
theorem cIn {k:Nat}(hr:Room k X.A) (ha:PU X G a fa) (hb:PU X G b fb) (hG:G.K=X.K:=by rfl) (hm:behindInMarks .In b=false:=by with_unfolding_all rfl):PF X G (.Compare a [.In] [b] pos) (bF (inF false) fa fb):=ZF ((ZM.or (Uv (Ek hr))).or (Zo hG hr.units)) (by rw[<-hG];exact RZ false) ha hb hm
theorem tIn {k:Nat}(hr:Room k X.A) (ha:PU X G a fa) (hb:PU X G b fb) (hG:G.K=X.K:=by rfl) (hm:behindInMarks .In b=false:=by with_unfolding_all rfl):PFT X G (.Compare a [.In] [b] pos) (blF (bF (inF false) fa fb)):=Dw ((ZM.or (Uv (Ek hr))).or (Zo hG hr.units)) (by rw[<-hG];exact RZ false) ha hb hm
theorem tNi {k:Nat}(hr:Room k X.A) (ha:PU X G a fa) (hb:PU X G b fb) (hG:G.K=X.K:=by rfl) (hm:behindInMarks .NotIn b=false:=by with_unfolding_all rfl):PFT X G (.Compare a [.NotIn] [b] pos) (blF (bF (inF true) fa fb)):=Dw ((Xv.or (Xz (Ek hr))).or (X8 hG hr.units)) (by rw[<-hG];exact RZ true) ha hb hm
theorem tLt (ha:PU X G a fa) (hb:PU X G b fb):PFT X G (.Compare a [.Lt] [b] pos) (blF (bF ltD fa fb)):=Dw nU jz ha hb (HY _)
theorem tGt (ha:PU X G a fa) (hb:PU X G b fb):PFT X G (.Compare a [.Gt] [b] pos) (blF (bF gtD fa fb)):=Dw nW j5 ha hb (HY _)
theorem tGe (ha:PU X G a fa) (hb:PU X G b fb):PFT X G (.Compare a [.GtE] [b] pos) (blF (bF geD fa fb)):=Dw nY j6 ha hb (HY _)
theorem sF (hN:X.N.Nodup) (i:Nat) {x:Str}{p:Pos}(ha:PF X G a fa) (hi:X.N[i]?=some x:=by rfl) (hx:Loc X.env.scope x:=by first | exact Or.inl rfl | exact Or.inr rfl) (hs:swapsWith a (some (.Name x p)) pos.line X.env=pure false:=by rfl)
  (hf:X.fn x=true∨X.env.scope.names.lookup x=some .local :=by first | exact .inl rfl | exact .inr rfl | assumption):PSD X G (.Assign [.Name x p] a pos) (setF i fa):=dO (λ _ h=>QL hN hi hx h hs hf) ha
theorem sW (hN:X.N.Nodup) (i:Nat) {x:Str}{p:Pos}(ha:PN X G a fa) (hi:X.N[i]?=some x:=by rfl) (hx:Loc X.env.scope x:=by first | exact Or.inl rfl | exact Or.inr rfl) (hs:swapsWith a (some (.Name x p)) pos.line X.env=pure false:=by rfl)
  (hf:X.fn x=true∨X.env.scope.names.lookup x=some .local :=by first | exact .inl rfl | exact .inr rfl | assumption) (hi0:i≠0:=by decide):PSD X G (.Assign [.Name x p] a pos) (setW i fa):=Zg (λ _ h=>QL hN hi hx h hs hf) ha hi0
theorem gN (hN:X.N.Nodup) (i:Nat) {x:Str}(hi:X.N[i]?=some x:=by rfl) (hx:Loc X.env.scope x:=by first | exact Or.inl rfl | exact Or.inr rfl) (hf:X.fn x=true∨X.env.scope.names.lookup x=some .local :=by first | exact .inl rfl | exact .inr rfl | assumption):PG X (.Name x pos) (GK i):=VP hN hi hx hf
theorem cO {t:Str}(hN:X.N=N) (hs:X.env.scope=sc) (h:V9 N sc scope t=true:=by decide +kernel):Nf X scope t:=Xw hN hs h
abbrev nT (N:List Str) (t:Str):List Str:=N++[t]
structure Dx (K:zFr) (mg:Str->Option Value) (x:Str) (st:Stmt) (ps:List Str) where
 f:Addr
 fd:FuncData
 F:FunD K x x st f fd
 B:Binds K fd ps []
 m:mg x=some (.ref f)
abbrev DOk (P:Program) (w:World) (base:Heap) {K:zFr}{mg:Str->Option Value}{x:Str}{st:Stmt}{ps:List Str}(d:Dx K mg x st ps) (k:Nat) (sp:Sp):Prop:=FnOk P w K mg base CX0 k d.f d.fd ps sp
theorem fX {k:Nat}{x:Str}{p:Pos}{d:Dx X.K X.mg x st ps}(F:FnOk X.prog X.w X.K X.mg X.base CX0 k d.f d.fd ps (spD G g)) (hr:Room k' X.A) (ha:PFA X G (a::es) fs) (hle:k<=k':=by omega) (hg:Gl X x:=by rfl) (hdb:(x==("__debug__":Str))=false:=by decide)
  (he:starEach (a::es) X.env=(false,eval a X.env)::starEach es X.env:=by rfl) (hpl:(backTo pos (starEach es X.env)).any (·.1)=false:=by rfl):PF X G (.Call (.Name x p) (a::es) [] pos) (Am g fs):=oJ F (hr.mono hle) hg d.m d.F.kp d.B ha hdb he hpl
end
section
variable {K:zFr}{x:Str}{f:Addr}{dV kV:Value}
theorem fnX {base:Heap}{k:Nat}{b:FS}(d:Dx G.K mg x st ps) (S:FnScope N ps (Ab st))
  (hb:∀ (cdv:Value) (A:Around) (outer:List Env) (s:Shared) (H:Hp) (E:XK),Room k (A.deeper (envOfC x (Ab st) s.heap.objs.size d.f cdv))->PSDs (cxOf CX0 P w G.K mg base N x (Ab st) d.f cdv A outer s H E).nox G (Aw st) b) (hl:ps.length<=N.length:=by decide) :
  FnOk P w G.K mg base CX0 (k+1) d.f d.fd ps (spD G (runF N.length ps.length b)):=oX d.F S hl hb
def dx (X:K.In h) (N:h.Ns mainGlobals mg) (a:PySem.W.nsIn K mainGlobals x=some (some (.ref f))) (l:K.lookup f=some ⟨oc,od,.func (PySem.W.fnOf x x (Bv st) (Aw st) (Ab st) .none kV doc pm an cdv ct),osl⟩) (c:PySem.W.codeIn K cdv x=true) (k:PySem.W.keepIn K (.ref f)=true)
  (b:∀ (kV doc pm:Value) (an:Option Addr) (cdv ct:Value) (us:List Value),us.length=ps.length->bindArgs (PySem.W.fnOf x x (Bv st) (Aw st) (Ab st) .none kV doc pm an cdv ct) ⟨us,[]⟩=pure (ps.zip us)):Dx K mg x st ps:=⟨f,_,dz l c k,(G3 l c k).binds b,z12 X N a⟩
structure Ix (K:zFr) (C:Addr) (qual:Str) (st:Stmt) (ps:List Str) where
 f:Addr
 fd:FuncData
 F:Fun K "__init__" qual st f fd
 B:Binds K fd ps []
 mM:Mk K C f
def ix (X:K.In h) (m:PySem.W.makesIn K C=true) (kc:PySem.W.keepIn K (.ref C)=true) (a:PySem.W.findIn K (.ref C) "__init__"=some (some (.ref f))) (i:PySem.W.isFn K (.ref f)=true) (l:K.lookup f=some ⟨oc,od,.func (PySem.W.fnOf "__init__" qual (Bv st) (Aw st) (Ab st) .none kV doc pm an cdv ct),osl⟩) (c:PySem.W.codeIn K cdv qual=true) (k:PySem.W.keepIn K (.ref f)=true)
  (b:∀ (kV doc pm:Value) (an:Option Addr) (cdv ct:Value) (us:List Value),us.length=ps.length->bindArgs (PySem.W.fnOf "__init__" qual (Bv st) (Aw st) (Ab st) .none kV doc pm an cdv ct) ⟨us,[]⟩=pure (ps.zip us)):Ix K C qual st ps:=⟨f,_,G3 l c k,(G3 l c k).binds b,m,a,i,kc⟩
structure Sx (mg:Str->Option Value) (x:Str) (f:Tok->Value) where
 t:Tok
 m:mg x=some (f t)
structure Kx (G:Gx) (mg:Str->Option Value) (x:Str) (c:D) where
 a:Addr
 m:mg x=some (.ref a)
 r:Rep G (λ _=>none) (.ref a) c
def sx {t:Tok}{f:Tok->Value}(X:K.In h) (N:h.Ns mainGlobals mg) (a:PySem.W.nsIn K mainGlobals x=some (some (f t))):Sx mg x f:=⟨t,z12 X N a⟩
def gx1 (K:zFr) (cn:Str) (C:Addr):Gx:={ K:=K,cl:=λ c=>if c=cn then some C else none }
theorem cls (X:K.In h) (pg:PySem.W.plainGet K C Str.empty=true) (hd:PySem.W.hasDictIn K C=true) (po:PySem.W.plainOver K C=true) (sa:PySem.W.findIn K (.ref C) "__setattr__"=some (some (.builtin "object.__setattr__"))):Cls K C:=⟨pg,hd,po,sa⟩
theorem rtx {g:Addr}{n:Nat}{its:Array Value}{xs:List Str}(X:K.In h) (l:K.lookup g=some ⟨.type "tuple",od,.seq its n,osl⟩) (hz:its.size<=sizeLine) (r:Vals (xs.map V.str) its.toList):Rep (gx1 K cn C) (λ _=>none) (.ref g) (.tup (xs.map .str)):=Pg l hz r
def kx {cn:Str}{g:Addr}{n:Nat}{its:Array Value}{xs:List Str}(X:K.In h) (N:h.Ns mainGlobals mg) (a:PySem.W.nsIn K mainGlobals x=some (some (.ref g))) (l:K.lookup g=some ⟨.type "tuple",od,.seq its n,osl⟩) (hz:its.size<=sizeLine) (r:Vals (xs.map V.str) its.toList):Kx (gx1 K cn C) mg x (.tup (xs.map .str)):=⟨g,z12 X N a,rtx X l hz r⟩
end
end PV
namespace PV
open PySem L2
end PV
namespace PV
open PySem PySem.Spec L2
open PyProof.Rows hiding St
section
variable {a:Expr}{fa:FE}{fs:FA}
end
end PV
namespace PV
open PySem L2
end PV
namespace PV
open PySem PySem.Spec L2
open PyProof.Rows hiding St
section
variable {a b c:Expr}{fa fb fc:FE}{p2:Pos}
end
end PV
namespace PV
open PySem PySem.Spec L2 EX
open PyProof.Rows hiding St
def CX1 (P:Program) (w:World):CXT:=λ outer H s E v s'=>∃ (e:Addr) (H':Hp),v=.ref e/\s'.os=s.os/\AllBare s'.gens/\Un (frs outer) [] H H' s.heap s'.heap/\HOk P w H' s'.heap/\E v none H'
structure Exc (G:Gx) (He H:Hp) (e:Addr) (tb:Option Addr) (c:Str) (gs:List (Str×D)):Prop where
 ex:∃ C od fs,G.xcl c=some C/\H e=some (excO e C od tb)/\XdA H od fs/\FsV fs gs/\∀ dx,od=some dx->He dx=none
 same:Same He H
 new:He e=none
 tbk:∀ T,tb=some T->H T=some (tbO T .none)/\He T=none
theorem Exc.base {e:Addr}{c:Str}(x:Exc G Hf H e tb c gs) (s:Same He Hf):Exc G He H e tb c gs:=
 ⟨let ⟨C,dx,fs,q1,q2,q3,q4,q5⟩:=x.ex;⟨C,dx,fs,q1,q2,q3,q4,λ d h=>s.free (q5 d h)⟩,s.trans x.same,s.free x.new,λ T h=>⟨(x.tbk T h).1,s.free (x.tbk T h).2⟩⟩
section
variable {e:Addr}{c:Str}
theorem Nv {Q:Unit->Shared->Prop}{L:Addr}(hst:X.stack=X.env::X.outer) (hf:X.env.frame=some L) (I:Inv X π σ H s) (x:Exc G He H e tb c gs)
  (k:∀ T H' s',Inv X π σ H' s'->Exc G He H' e (some T) c gs->Q () s') :
  wpAny M X.A (noteFrame (.ref e) X.env) (λ _ s₂=>wpAny M X.A (setFlight (.ref e) none) Q E s₂) E s:=by
 obtain⟨C,dx,fs,q1,q2,q3,q4,q5⟩:=x.ex;refine cV hst hf I q2 (λ T h=>(x.tbk T h).1) λ T H' s' n=>k T H' s' n.inv ?_;have ncb:∀ b u,H b=some u->(∀ φ,u≠.ext φ)->b≠e/\tb≠some b:=λ b u q z=>⟨λ w=>by subst w;rw[q2] at q;cases q;exact z _ rfl,λ w=>by
  have:=(x.tbk b w).1;rw[this] at q;cases q;exact z _ rfl⟩
 refine⟨⟨C,dx,fs,q1,n.exc,(by cases dx with | none=>exact q3 | some dx=>exact n.rest dx _ (ncb dx _ q3 λ _ z=>nomatch z).1 (ncb dx _ q3 λ _ z=>nomatch z).2 q3),q4,q5⟩,λ b u h=>n.rest b u (λ z=>by rw[z,x.new] at h;cases h) (λ z=>by rw[(x.tbk b z).2] at h;cases h) (x.same b u h),x.new,λ T' h=>?_⟩;cases h;exact⟨n.tbk,x.same.free n.new⟩
end
def Rz (X:Cx) (G:Gx) (A0:List Addr) (He:Hp) (c:Str) (gs:List (Str×D)) (ρ:Rho):Prop:=∀ π σ H1 H s e tb,Inv X π σ H s->OkS G A0 He σ H1 ρ->Exc G H1 H e tb c gs->X.xe (.ref e) s
def excOf:D->Option (Str×List (Str×D))
 | .exc c gs=>some (c,gs)
 | _=>none
def RzO (X:Cx) (G:Gx) (A0:List Addr) (He:Hp) (d:D) (ρ:Rho):Prop:=∀ c gs,excOf d=some (c,gs)->Rz X G A0 He c gs ρ
def OutX (X:Cx) (G:Gx) (A0:List Addr) (He:Hp):Out->Prop
 | .rt d ρ=>RzO X G A0 He d ρ
 | _=>True
def tSZ (X:Cx) (G:Gx) (A0:List Addr) (He:Hp) (g:FS):TS:=λ D σ H=>∃ ρ o,OkS G A0 He σ H ρ/\g ρ=some o/\Ky G A0 He D o/\OutX X G A0 He o
def PSZ (X:Cx) (G:Gx) (st:Stmt) (g:FS):Prop:=∀ ⦃A0⦄ He,PS X st (tSZ X G A0 He g)
def PSZs (X:Cx) (G:Gx) (st:List Stmt) (g:FS):Prop:=∀ ⦃A0⦄ He,PSs X st (tSZ X G A0 He g)
def tFZ (X:Cx) (G:Gx) (A0:List Addr) (He:Hp) (f:FE):TE:=λ σ H Q=>∃ ρ d A,OkW G A0 He A σ H ρ/\f ρ=some d/\(∀ v H',Same H H'->Rep G (hid A H') v d->Q v H')/\RzO X G A0 He d ρ
def PFZ (X:Cx) (G:Gx) (e:Expr) (f:FE):Prop:=∀ ⦃A0⦄ He,PE X e (tFZ X G A0 He f)
def Dg (f:FE):FS:=λ ρ=>(f ρ).map λ d=>match excOf d with | some _=>.rt d ρ | none=>.nx ρ
def setZ (i:Nat) (f:FE):FS:=λ ρ=>(f ρ).map λ d=>match excOf d with | some _=>.rt d ρ | none=>.nx (ρ.set i (.fz d))
section
variable {a b c:Expr}{fa fb fc:FE}{p2:Pos}{rest:List Stmt}{g gs gb:FS}
theorem PSD.x (h:PSD X G st g):PSZ X G st g:=λ A0 He π s σ H D I ⟨ρ,o,ok,e,k,_⟩=>@h A0 He π s σ H D I ⟨ρ,o,ok,e,k⟩
theorem PF.x (h:PF X G a fa):PFZ X G a fa:=λ A0 He π s σ H Q I ⟨ρ,d,A,w,e,k,_⟩=>@h A π s σ H Q I ⟨ρ,d,w.ok,e,k⟩
theorem Ms:PSZs X G [] nxF:=λ A0 He π s σ H D I ⟨ρ,o,ok,e,k,_⟩=>BV He π s σ H D I ⟨ρ,o,ok,e,k⟩
theorem Cq (h1:PSZ X G st g):PSZs X G [st] g:=λ A0 He=>Gw (@h1 A0 He)
theorem Cw (h1:PSZ X G st g) (h2:PSZs X G rest gs):PSZs X G (st::rest) (seqF g gs):=λ A0 He π s σ H D I ⟨ρ,o,ok,e,k,kx⟩=>by
 refine Dr (@h1 A0 He) (@h2 A0 He) π s σ H D I ?_;unfold seqF at e;split at e
 ·rename_i ρ' e1;exact⟨ρ,_,ok,e1,λ σ' H' ok'=>⟨ρ',o,ok',e,k,kx⟩,trivial⟩
 ·rename_i hno;refine⟨ρ,o,ok,e,?_,kx⟩;cases o with
  | nx ρ'=>exact absurd e (hno ρ')
  | rt d ρ'=>exact k
  | bk ρ'=>exact k
  | ct ρ'=>exact k
theorem Rh {s1 s2:List Stmt}(ht:PFT X G c ga) (h1:PSZs X G s1 g) (h2:PSZs X G s2 gs):PSZ X G (.If c s1 s2 pos) (ifS ga g gs):=λ A0 He π s σ H D I ⟨ρ,o,⟨A,w⟩,e,k,kx⟩=>by
 refine VN (@ht A) (@h1 A0 He) (@h2 A0 He) π s σ H D I ?_;unfold ifS at e;split at e
 ·rename_i e1;exact⟨ρ,_,w.ok,e1,λ H1 s1=>iteT ⟨ρ,o,⟨A,w.mono s1⟩,e,k,kx⟩⟩
 ·rename_i e1;exact⟨ρ,_,w.ok,e1,λ H1 s1=>iteF ⟨ρ,o,⟨A,w.mono s1⟩,e,k,kx⟩⟩
 ·cases e
theorem Kd {d:D}(r:Rep G H v d):excOf d=none:=by cases r<;>rfl
theorem Dy (ha:PFZ X G a fa) (hs:swapsWith a none pos.line X.env=pure false:=by rfl):PSZ X G (.Expr a pos) (Dg fa):=λ A0 He π s σ H D I ⟨ρ,o,⟨A,w⟩,e,k,kx⟩=>by
 refine Ie (@ha A0 He) hs π s σ H D I ?_;unfold Dg at e;cases e1:fa ρ with
 | none=>simp[e1] at e
 | some d=>
  simp only[e1,z0w] at e;cases e2:excOf d with
  | none=>
   simp only[e2] at e;cases e;exact⟨ρ,d,A,w,e1,λ v H1 s1 r1=>k _ _ ⟨A,w.mono s1⟩,λ c gs z=>by rw[e2] at z;cases z⟩
  | some q=>
   simp only[e2] at e;cases e;exact⟨ρ,d,A,w,e1,λ v H1 s1 r1=>absurd e2 (by rw[Kd r1];simp),kx⟩
theorem d7 {x:Str}{p:Pos}(h:∀ te,PE X a te->PS X (.Assign [.Name x p] a pos) (tAsg te (GK i))) (ha:PFZ X G a fa):PSZ X G (.Assign [.Name x p] a pos) (setZ i fa):=λ A0 He π s σ H D I ⟨ρ,o,⟨A,w⟩,e,k,kx⟩=>by
 refine h _ (@ha A0 He) π s σ H D I ?_;unfold setZ at e;cases e1:fa ρ with
 | none=>simp[e1] at e
 | some d=>
  simp only[e1,z0w] at e;cases e2:excOf d with
  | none=>
   simp only[e2] at e;cases e;exact⟨ρ,d,A,w,e1,λ v H1 s1 r1=>k _ _ ⟨A,(w.mono s1).set r1 i⟩,λ c gs z=>by rw[e2] at z;cases z⟩
  | some q=>
   simp only[e2] at e;cases e;exact⟨ρ,d,A,w,e1,λ v H1 s1 r1=>absurd e2 (by rw[Kd r1];simp),kx⟩
end
def TX (X:Cx) (σ:St):XK:=λ v _ H'=>∀ π s',Inv X π σ H' s'->X.xe v s'
def XW (G:Gx) (He:Hp) (d:D) (E:XK):Prop:=∀ c gs,excOf d=some (c,gs)->∀ e T H',Exc G He H' e (some T) c gs->E (.ref e) none H'
def spZ (G:Gx) (g:List D->Option D):Sp:=λ vs H Q E=>∃ A ds d,(∀ a∈A,Nt (H a))/\RepL G (hid A H) vs ds/\g ds=some d/\(∀ v H',Same H H'->Rep G (hid A H') v d->Q v H')/\XW G H d E
section
variable {k:Nat}{f:Addr}{x:Str}{p:Pos}{o:Expr}{ta:TE}{t:TA}
theorem d8 {Q:VK}(F:FnOk X.prog X.w X.K X.mg X.base (CX1 X.prog X.w) k f fd ps sp) (hr:Room k X.A) (hb:Binds X.K fd ps [])
  (I:Inv X π σ H s) (r:Vals vs us) (h:sp vs H Q (TX X σ)):wpAny (model X.prog X.w) X.A (call (.ref f) us) (EP X π σ Q) X.xe s:=by
 have hl:us.length=ps.length:=by rw[<-r.length];exact F.len _ _ _ _ h
 have hb':=hb s us I.kIn (by rw[z0v];exact hl);rw[z0v] at hb';refine wpAny_call (z0N (F.run X.A X.stack s H ⟨us,[]⟩ us vs Q _ hr I.env0 hb' r h) λ r s' hq=>?_);cases r with
 | error v=>
  obtain⟨e,H',rfl,q1,q2,q3,q4,q5⟩:=hq;exact q5 π s' (I.call' q1 q3 q4 q2 λ _ z=>nomatch z)
 | ok fl=>
  cases fl with
  | ret u=>exact I.after hq
  | next=>exact False.elim hq
  | brk=>exact False.elim hq
  | cont=>exact False.elim hq
def lF (X:Cx) (sp:Sp) (t:TA):TE:=λ σ H Q=>t σ H λ vs H1=>sp vs H1 Q (TX X σ)
theorem Z5 (F:FnOk X.prog X.w X.K X.mg X.base (CX1 X.prog X.w) k f fd ps sp) (hr:Room k X.A) (hg:Gl X x) (hm:X.mg x=some (.ref f)) (hk:PySem.W.keepIn X.K (.ref f)=true) (hb:Binds X.K fd ps [])
  (ha:PA X (e::es) t) (hdb:(x==("__debug__":Str))=false:=by decide) (he:starEach (e::es) X.env=(false,eval e X.env)::starEach es X.env:=by rfl) (hpl:(backTo pos (starEach es X.env)).any (·.1)=false:=by rfl) :
  PE X (.Call (.Name x p) (e::es) [] pos) (lF X sp t):=by
 intro π s σ H Q I h;refine z16 (GF I hg hm ?_ hdb);refine z1d (h₀:=X.base) I.ok.mod.kin hk (thn (ha pos π s σ H _ I h) λ us s1 ⟨vs,H1,I1,r,q⟩=>⟨I1.kIn,?_⟩) he hpl;exact d8 F hr hb I1 r q
end
section
variable {a ob:Expr}{fs:FA}{fo:FE}{p:Pos}
theorem iW {d:D}(w:OkW G A0 He A σ H1 ρ) (kx:RzO X G A0 He d ρ):XW G H1 d (TX X σ):=λ c gs z e T H' x π s' I=>kx c gs z π σ H1 H' s' e (some T) I ⟨A,w⟩ x
theorem lG {k:Nat}{f:Addr}{x:Str}(F:FnOk X.prog X.w X.K X.mg X.base (CX1 X.prog X.w) k f fd ps (spZ G g)) (hr:Room k X.A) (hg:Gl X x) (hm:X.mg x=some (.ref f)) (hk:PySem.W.keepIn X.K (.ref f)=true)
  (hb:Binds X.K fd ps []) (ha:PFA X G (a::es) fs) (hdb:(x==("__debug__":Str))=false:=by decide) (he:starEach (a::es) X.env=(false,eval a X.env)::starEach es X.env:=by rfl) (hpl:(backTo pos (starEach es X.env)).any (·.1)=false:=by rfl) :
  PFZ X G (.Call (.Name x p) (a::es) [] pos) (Am g fs):=λ A0 He π s σ H Q I ⟨ρ,d,A,w,e,k,kx⟩=>by
 refine Z5 F hr hg hm hk hb (@ha A) hdb he hpl π s σ H Q I ?_;unfold Am at e;cases e1:fs ρ with
 | none=>simp[e1] at e
 | some ds=>
  have e':g ds=some d:=by simpa [e1] using e
  exact⟨ρ,ds,w.ok,e1,λ vs H1 s1 r1=>⟨A,ds,d,(w.mono s1).ok.live,r1,e',λ v H2 s2 r2=>k v H2 (s1.trans s2) r2,iW (w.mono s1) kx⟩⟩
def Jq (c m:Str):D->Bool
 | .ob c' gs=>c'==c&&(gs.lookup m).isNone
 | _=>false
def TY (c m:Str) (g:List D->Option D) (fo:FE) (fs:FA):FE:=λ ρ=>(fo ρ).bind λ o=>if Jq c m o=true then (fs ρ).bind λ ds=>g (o::ds) else none
theorem X_ {fs:List (Str×V)}(h:fs.map (·.1)=gs.map (·.1)) (n:gs.lookup m=none):fs.lookup m=none:=by
 induction fs generalizing gs with
 | nil=>rfl
 | cons p r ih=>
  cases gs with
  | nil=>cases h
  | cons q t=>
   obtain⟨a,b⟩:=p;obtain⟨a',b'⟩:=q;simp only[z04,List.cons.injEq] at h;obtain⟨rfl,h2⟩:=h;simp only[List.lookup] at n ⊢;split at n
   ·cases n
   ·exact ih h2 n
end
theorem Z6 {base:Heap}{f:Addr}{A:Around}{E:XK}{d:D}(h:XW G H d E) :
  RzO (cxOf (CX1 P w) P w G.K mg base N qual scope f cd A outer s H E) G A0 H d ρ:=λ c gs z π σ H1 H2 s2 e tb I ⟨A1,ok⟩ x=>by
 show wpAny _ _ (leaving _ _) _ _ _;unfold leaving;refine z00 (Nv (X:=cxOf (CX1 P w) P w G.K mg base N qual scope f cd A outer s H E) rfl rfl I (x.base ok.same) λ T H' s' I' x'=>?_);exact⟨e,H',rfl,I'.os,I'.bare,I'.base,I'.hok,h c gs z e T H' x'⟩
theorem fn_Z {base:Heap}{x:Str}{f:Addr}{k:Nat}{b:FS}(F:Fun G.K x qual st f fd) (S:FnScope N ps (Ab st)) (hl:ps.length<=N.length)
  (hb:∀ (cdv:Value) (A:Around) (outer:List Env) (s:Shared) (H:Hp) (E:XK),Room k (A.deeper (envOfC qual (Ab st) s.heap.objs.size f cdv))->PSZs (cxOf (CX1 P w) P w G.K mg base N qual (Ab st) f cdv A outer s H E) G (Aw st) b) :
  FnOk P w G.K mg base (CX1 P w) (k+1) f fd ps (spZ G (runF N.length ps.length b)):=by
 obtain⟨oc,od,kV,doc,pm,an,cdv,ct,osl,rfl,lk,hcd⟩:=F.ex;refine O_ lk hcd S (λ vs H Q E h=>?_) (λ A outer s H vs Q E hr h=>?_)
 ·obtain⟨A,ds,d,lv,r,e,_⟩:=h;unfold runF at e;split at e
  ·rename_i hz;rw[r.1];exact hz
  ·cases e
 ·obtain⟨A0,ds,d,lv,r,e,k,kx⟩:=h;unfold runF at e;split at e
  ·rename_i hz;have hzz:=hb cdv A outer s H E hr;refine⟨_,@hzz A0 H,Bm N.length ds,?_⟩;cases e1:b (Bm N.length ds) with
   | none=>simp[e1] at e
   | some o=>
    refine⟨o,Hl lv r (by rw[r.1,hz];exact hl),rfl,?_⟩;cases o with
    | nx ρ=>
     simp only[e1] at e;cases e;exact⟨λ σ H' ⟨A,w⟩=>k _ H' w.same .non,trivial⟩
    | rt d' ρ'=>
     simp only[e1] at e;cases e;exact⟨λ v σ H' A w r'=>k v H' w.same (r'.mono (Ck w.sub)),Z6 kx⟩
    | bk ρ=>simp[e1] at e
    | ct ρ=>simp[e1] at e
  ·cases e
end PV
namespace EX
open PySem PySem.W PyProof.Rows PySem.Calls
section
variable {A:Around}{g:Array GenState}{d:Drawn}{t:Nat}{os:OsState}{R:Result->Shared->Prop}
variable {nm q:Str}{N:Addr}{bs bm bmB:List Value}{hdct:Bool}{sn:List Str}{sub:List Value}{ab:Bool}{col:Option Bool}{dd:Option Addr}{k0 k1 k2 k3 k5:Option Value}{B newId initId:String}
abbrev Gi (C a:Addr):Obj:={ cls:=.ref C,data:=.fields #[.ref a,.none,.none,.none,.bool false,.none] }
abbrev Fq (rest:List Value):Obj:={ cls:=.type "tuple",data:=.seq rest.toArray }
theorem Nx (F:ExcBaseFacts B newId initId bmB) (T:OwnTail h bmB bm) {rest:List Value}{init:Value}{Q:Fin->Shared->Prop}
  (hC:h.get? C=some (excClassObj nm q C N bs bm hdct sn sub ab col dd k0 k1 k2 k3 k5 newId)) (hi:Looks (model prog w) h (typeLookup (.ref C) "__init__") (some init)) (hb:∀ self,Looks (model prog w) h (bindSpecial init self) (init,[self]))
  (hq:codeAny (model prog w) A (.call init ⟨.ref (h.objs.size+1)::rest,[]⟩) (λ r s'=>match r with
   | .ok (.ret v)=>v=.none/\Q (.done (.ret (.ref (h.objs.size+1)))) s'
   | .ok _=>False
   | .error e=>E e s') ⟨(h.push (Fq rest)).push (Gi C h.objs.size),g,d,t,os⟩) (hrest:rest.length<=sizeLine:=by size_fits) :
  wpAny (model prog w) A (Builtin.«type.__call__» ⟨.ref C::rest,[]⟩) Q E ⟨h,g,d,t,os⟩:=by
 repeat (first | with_reducible refine z19 hC ?_ | with_reducible refine wpAny_madeBy_exc hC ?_ | wp_step)
 refine codeAny_call_builtin_code (Code.quiet_builtin _ F.quiet) (wpAny_check_new_subT F T hC ?_);refine codeAny_exc_new_subT F T hC ?_ hrest;show wpAny _ _ _ _ _ _;have k:∀ b o,h.get? b=some o->((h.push (Fq rest)).push (Gi C h.objs.size)).get? b=some o:=λ b o e=>z08 _ (z08 _ e);have hC₁:=k _ _ hC;have hget:((h.push (Fq rest)).push (Gi C h.objs.size)).get? (h.objs.size+1)=some (Gi C h.objs.size):=by heap_get
 have hcC:(Value.ref C::bm).contains (.ref C)=true:=by simp
 have i1:=hi.keeps k;have b1:=(hb (.ref (h.objs.size+1))).keeps k;unfold isInstance
 repeat (first | with_reducible refine z19 hget ?_ | (with_reducible refine wpAny_isSubtype_exc hC₁ ?_;rw[hcC]) | wp_step)
 show wpAny _ _ (typeLookup (.ref C) _) _ _ _;refine i1.at ?_;dsimp only;refine z0X (z00 (b1.at ?_));dsimp only;refine z00 (wpAny_call (z0N hq λ r s' z=>?_))
 rcases r with e | (v | _ | _ | _)<;>first | exact z | exact z.elim | skip
 obtain⟨rfl,z⟩:=z;exact z02 (z02 z)
theorem Tc (F:ExcBaseFacts B newId initId bmB) (T:OwnTail h bmB bm) {rest:List Value}{init:Value}
  (hC:h.get? C=some (excClassObj nm q C N bs bm hdct sn sub ab col dd k0 k1 k2 k3 k5 newId)) (hi:Looks (model prog w) h (typeLookup (.ref C) "__init__") (some init)) (hb:∀ self,Looks (model prog w) h (bindSpecial init self) (init,[self]))
  (hq:codeAny (model prog w) (A.under (.builtin "type.__call__" ⟨.ref C::rest,[]⟩)) (.call init ⟨.ref (h.objs.size+1)::rest,[]⟩) (InitBack (h.objs.size+1) R) ⟨(h.push (Fq rest)).push (Gi C h.objs.size),g,d,t,os⟩) (hrest:rest.length<=sizeLine) :
  codeAny (model prog w) A (.call (.ref C) ⟨rest,[]⟩) R ⟨h,g,d,t,os⟩:=by
 have f1:=tc_lookup;have f2:=tc_bind (.ref C);have hT:(⟨h,g,d,t,os⟩:Shared).TypeIs (.ref C) "type":=⟨_,hC,rfl⟩;refine codeAny_of_tree ?_;show wpAny _ _ (callAny (.ref C) _) _ _ _
 repeat (any_goals (first | assumption | with_reducible refine z19 hC ?_ | wp_step))
 refine⟨rfl,?_⟩;refine codeAny_call_builtin_at (Code.quiet_builtin _ (by decide +kernel)) entry_typeCall (wpAny_check_type_call_sub hC (Nx F T hC hi hb (z0N hq λ r s' z=>?_) hrest))
 rcases r with e | (v | _ | _ | _)<;>first | exact z | exact z.elim
end
end EX
namespace EX
open PySem PySem.W PySem.Spec PyProof.Rows PySem.Calls
section
variable {A:Around}{K:Frag}{x:Addr}{ox:Obj}{od:Option Obj}{name:Str}{v:Value}
theorem d9 {expr:Bool}{Q:zQ}(X:K.In s.heap) (I:InstAt s.heap x ox C od) (hga:findIn K (.ref C) "__getattribute__"=some (some (.builtin "BaseException.__getattribute__"))) (hgt:findIn K (.ref C) "__getattr__"=some none)
  (hsub:subIn K (.ref C) (.type "BaseException")=some true) (hf:findObj K C od name=some (.value v)) (hh:handedIn v=true) (h:Q v { s with toks:=s.toks+1 }):wpAny (model prog w) A (getAttr (.ref x) name expr) Q E s:=by
 obtain⟨hp,g,d,t,os⟩:=s;have L0:=I.type (M:=model prog w);have L1:=looks_findIn (M:=model prog w) X hga;have L2:=looks_findIn (M:=model prog w) X hgt;have L3:=looks_find (M:=model prog w) X I hf;have L4:=looks_subIn (M:=model prog w) X hsub;have f3:=F.attr_ValueError.ga.bind (.ref x);have hk:builtinKind "BaseException.__getattribute__"=some .slot:=by decide +kernel
 have hsplit:splitId "BaseException.__getattribute__"=some ("BaseException","__getattribute__"):=by decide +kernel
 have hx2:(Value.builtin "BaseException.__getattribute__"==Value.builtin "object.__getattribute__")=false:=by decide +kernel
 have hx1:(onTheHeap (Value.ref C)&&Value.builtin "BaseException.__getattribute__"==Value.builtin "object.__getattribute__")=false:=by rw[hx2];rfl
 have hx0:(expr&&onTheHeap (Value.builtin "BaseException.__getattribute__"))=false:=by cases expr<;>rfl
 unfold getAttr getAttrBy;refine z00 (wpAny_mkText (z0X (z00 (L0.at (z00 (L1.at ?_))))));dsimp only;rw[hx1,if_neg (by decide)];have ck:∀ (Q:Unit->Shared->Prop) (B:Around) (E':zQ),Q () ⟨hp,g,d,t+1,os⟩->wpAny (model prog w) B (checkBuiltinCall "BaseException.__getattribute__" ⟨[.ref x,.str name t],[]⟩) Q E' ⟨hp,g,d,t+1,os⟩:=λ Q B E' hq=>by
  have ha:=F.args_bexc_ga (.ref x) (.str name t);simp only[checkBuiltinCall,hk,hsplit];refine z00 ?_;unfold isInstance;refine z00 (L0.at (L4.at ?_))
  repeat (any_goals (first | assumption | wp_step))
 have run:∀ (B:Around) (R:Result->Shared->Prop),R (.ok (.ret v)) ⟨hp,g,d,t+1,os⟩->codeAny (model prog w) B (.call (.builtin "BaseException.__getattribute__") ⟨[.ref x,.str name t],[]⟩) R ⟨hp,g,d,t+1,os⟩:=λ B R hq=>
  codeAny_call_builtin F.attr_ValueError.ga.plain F.entry_bexc_ga (ck _ _ _ (by
   unfold Builtin.«object.__getattribute__»
   repeat (any_goals (first | assumption | with_reducible refine L0.at ?_ | with_reducible refine L3.at ?_ | wp_step))))
 repeat (any_goals (first | assumption | with_reducible refine L2.at ?_ | wp_step))
 refine run _ _ ?_;show wpAny _ _ (handedOut v) _ _ _;rw[handedOut_of hh];exact z02 h
open Builtin Builtin.ObjectAttr in
theorem d_ {R:Addr}{cd:ClassData}{vs:Array Value}{Q:Unit->Shared->Prop}(X:K.In s.heap) (I:InstAt s.heap x ox C none) (hfl:ox.data=.fields vs) (hs:findIn K (.ref C) "__setattr__"=some (some (.builtin "object.__setattr__"))) (hc:clsIn K C=some cd)
  (hm:cd.mro=[.ref C,.ref R,.type "ValueError",.type "Exception",.type "BaseException",.type "object"]) (hd:cd.hasDict=true) (ht:findIn K (.ref C) name=some none)
  (h:∀ h':Heap,h'.get? x=some { ox with dict:=some s.heap.objs.size }->h'.Ns1 s.heap.objs.size (λ y=>if y=name then some v else none)->(∀ b o,b≠x->s.heap.get? b=some o->h'.get? b=some o)->Q () { s with heap:=h',toks:=s.toks+2 }) :
  wpAny (model prog w) A (setAttr (.ref x) name v) Q E s:=by
 obtain⟨hp,g,d,t,os⟩:=s;have SF:=F.store_object;have VF:=F.store_ValueError;have hpass:refuseLoop (.ref x) "__setattr__" cd.mro=pure ():=by rw[hm,refuseLoop_ref,refuseLoop_ref];exact VF.passes _
 have sub:Looks (model prog w) hp (isInstance (.ref x) (.type "object")) true:=I.type.andThen (looks_mroIn X (by unfold mroIn;rw[hc,z0a,hm];rfl));have lm:Looks (model prog w) hp (mroOf (.ref C)) cd.mro:=(looks_clsIn X hc).andThen .now;have la:=looks_findIn (M:=model prog w) X ht;have lt:=I.type (M:=model prog w);have lc:=looks_clsIn (M:=model prog w) X hc;refine set_plain X I hs (codeAny_call_builtin SF.slot.plain SF.entry ?_);refine @check_slot (model prog w) _ _ ⟨hp,g,d,t+1,os⟩ "object.__setattr__" "object" "__setattr__" (.ref x) [.str name t,v] [] _ SF.kind SF.split sub (SF.args (.ref x) (.str name t) v) ?_;rw[osa_eq,refuse_eq];refine z00 (z00 (lt.at (z00 (lm.at ?_))));rw[hpass];refine z02 (z00 (lt.at (z00 (la.at (z00 (z02 ?_))))));dsimp only;obtain⟨hx,hcl,hn,hdi⟩:=I;obtain⟨oc,odi,oda,osl⟩:=ox;dsimp only at hcl hdi hfl;subst hcl hfl;have hdn:odi=none:=by
  cases odi with
  | none=>rfl
  | some z=>exact hdi.elim
 subst hdn;have hxs:x≠hp.objs.size:=z0e (z05 hx);have hx1:(hp.push { cls:=.type "dict",data:=.dict #[] }).get? x=some ⟨.ref C,none,.fields vs,osl⟩:=z08 _ hx;unfold storeInOwnDict;refine z00 (z02 (z00 (z00 (wpAny_loadPart hx (z00 (lc.at ?_))))));rw[hd];refine z00 (wpAny_alloc' (z00 (wpAny_update' hx1 (z02 ?_))));have hgd:((hp.push { cls:=.type "dict",data:=.dict #[] }).update x λ o=>{ cls:=o.cls,dict:=some hp.objs.size,data:=o.data,slots:=o.slots }).get? hp.objs.size=some { cls:=.type "dict",data:=.dict #[] }:=(z1e _ _ hxs).trans (z0l _ rfl);have hgx:((hp.push { cls:=.type "dict",data:=.dict #[] }).update x λ o=>{ cls:=o.cls,dict:=some hp.objs.size,data:=o.data,slots:=o.slots }).get? x=some ⟨.ref C,some hp.objs.size,.fields vs,osl⟩:=z1n _ hx1 rfl;have ho:∀ b o,b≠x->hp.get? b=some o->((hp.push { cls:=.type "dict",data:=.dict #[] }).update x λ o=>{ cls:=o.cls,dict:=some hp.objs.size,data:=o.data,slots:=o.slots }).get? b=some o:=λ b o nb z=>(z1e _ _ (Ne.symm nb)).trans (z08 _ z);generalize (hp.push { cls:=.type "dict",data:=.dict #[] }).update x (λ o=>{ cls:=o.cls,dict:=some hp.objs.size,data:=o.data,slots:=o.slots })=h2 at hgd hgx ho ⊢;have hnd:h2.Ns hp.objs.size (λ _=>none):=⟨_,#[],_,hgd,rfl,λ e he=>absurd he (by simp),λ _=>rfl⟩;show wpAny _ _ (storeInDict hp.objs.size (.str name t) name v) _ _ _;unfold storeInDict newKeyGuard;refine z00 (z02 (z00 (wpAny_nsSet1 (Heap.Ns1.of_empty hnd) λ h' hn' hs'=>?_)));obtain⟨oD,esD,epD,hoD,hdD,hcD⟩:=hn'.count (Within.cons name v Within.nil);refine z00 (wpAny_lookBehind hoD (by rw[hdD];exact pastItsLine_dict (z0j hcD (by rw[z0o,z1g,sizeLine_eq];omega))) ?_);exact z02 (h h' ((hs'.2 x hxs).trans hgx) hn' λ b o nb z=>(hs'.2 b (z0e (z05 z))).trans (ho b o nb z))
end
end EX
namespace EX
open PySem PySem.Spec L2
open PyProof.Rows hiding St
abbrev bmV:List Value:=[.type "ValueError",.type "Exception",.type "BaseException",.type "object"]
def excX (K:zFr) (C:Addr):Bool:=match K.lookup C with
 | some ⟨.type "type",_,.cls cd,sl⟩=>(match cd.mro,sl.toList with
  | .ref C'::bm,[_,_,_,_,some (.builtin n),_]=>C'==C&&n=="ValueError.__new__"&&!cd.hasDel&&PySem.W.tailIn K bmV bm
  | _,_=>false)
 | _=>false
theorem Ho {K:zFr}(X:K.In h) (q:excX K C=true):∃ nm qn N bs bm hdct sn sub ab col dd k0 k1 k2 k3 k5,h.get? C=some (excClassObj nm qn C N bs bm hdct sn sub ab col dd k0 k1 k2 k3 k5 "ValueError.__new__")/\OwnTail h bmV bm:=by
 unfold excX at q;split at q
 ·rename_i dd cd sl ho;split at q
  ·rename_i C' bm k0 k1 k2 k3 n k5 hm hs;simp only[z0q,z0u,Bool.not_eq_true'] at q;obtain⟨⟨⟨e1,e2⟩,e3⟩,e4⟩:=q;subst e1 e2;obtain⟨nm,bs,mro,ns,qn,hd,sn,sub,ab,col,del⟩:=cd;obtain⟨l⟩:=sl;simp only at hm hs e3;subst hm e3 hs;exact⟨nm,qn,ns,bs,bm,hd,sn,sub,ab,col,dd,k0,k1,k2,k3,k5,X _ _ ho,PySem.W.tail_of_in X e4⟩
  ·cases q
 ·cases q
structure XC (K:zFr) (C R:Addr):Prop where
 obj:excX K C=true
 sa:PySem.W.findIn K (.ref C) "__setattr__"=some (some (.builtin "object.__setattr__"))
 ga:PySem.W.findIn K (.ref C) "__getattribute__"=some (some (.builtin "BaseException.__getattribute__"))
 gt:PySem.W.findIn K (.ref C) "__getattr__"=some none
 cd:(PySem.W.clsIn K C).any (λ cd=>cd.mro==[.ref C,.ref R,.type "ValueError",.type "Exception",.type "BaseException",.type "object"]&&cd.hasDict)=true
theorem XC.cls {K:zFr}{R:Addr}(x:XC K C R):∃ cd,PySem.W.clsIn K C=some cd/\cd.mro=[.ref C,.ref R,.type "ValueError",.type "Exception",.type "BaseException",.type "object"]/\cd.hasDict=true:=by
 obtain⟨cd,h1,h2⟩:=PySem.W.any_some x.cd;simp only[z0q,z0u] at h2;exact⟨cd,h1,h2.1,h2.2⟩
theorem Td (h:H a=some o):upd H a o=H:=by
 funext b;unfold upd;split
 ·rename_i e;rw[e,h]
 ·rfl
section
variable {e R dx:Addr}{A:Around}
theorem Z7 {Q:zQ}(I:Inv X π σ H s) (he:H e=some (excO e C od tb)) (x:XC X.K C R) (hQ:∀ s',Inv X π σ H s'->Q .none s') :
  wpAny (model X.prog X.w) A (call (.builtin "ValueError.__init__") [.ref e,u]) Q E s:=by
 have F:=PySem.F.excBase_ValueError;obtain⟨⟨o,vs,q1,q2,q3,q4,q5,q6⟩,_⟩:=I.hok e _ he;obtain⟨nm,qn,N,bs,bm,hdct,sn,sub,ab,col,dd,k0,k1,k2,k3,k5,hC,T⟩:=Ho I.kIn x.obj;have I1:=I.kept (h':=s.heap.push { cls:=.type "tuple",data:=.seq [u].toArray }) (t':=s.toks) λ b v z=>z08 _ z;have g1:=z08 (h:=s.heap) { cls:=.type "tuple",data:=.seq [u].toArray } q1;have I2:=Jd (u':=excO e C od tb) (i:=0) (v:=.ref s.heap.objs.size) I1 he trivial g1 q4 λ h' o' r1 r2 r3 r4=>ExcP.ok ⟨o',_,r1,r2.trans q2,r3.trans q3,r4,by simpa using q5,by rw[Array.getElem?_setIfInBounds_ne (by decide)];exact q6⟩;rw[Td he] at I2;obtain⟨hp,g,d,t,os⟩:=s;have h0:∃ v0,vs[0]?=some v0:=⟨vs[0]'(by omega),by simp⟩;obtain⟨v0,h0⟩:=h0;refine wpAny_call (codeAny_call_builtin F.init.plain F.initEntry (wpAny_check_init_subT F T hC q1 q2 ?_));unfold Builtin.«BaseException.__init__»;dsimp only;rw[if_neg (by simp)];unfold newTuple Builtin.BaseException.bexcPut;refine z00 (z17 (z00 (z00 (z0V g1 q4 h0 (z00 (z0Y g1 q4 (by omega) ?_))))) (by show 1<=sizeLine;decide));have z:=hQ _ I2;cases v0<;>first | exact wpAny_letGo (z02 z) | exact z02 (z02 z)
theorem eE {Q:Unit->Shared->Prop}(I:Inv X π σ H s) (he:H e=some (excO e C none tb)) (x:XC X.K C R) (n:Av X.K C f) (ry:RelV y u)
  (h:∀ dx s',H dx=none->Inv X π σ (upd (upd H dx (.xd [(f,y)])) e (excO e C (some dx) tb)) s'->Q () s'):wpAny (model X.prog X.w) A (setAttr (.ref e) f u) Q E s:=by
 obtain⟨⟨o,vs,q1,q2,q3,q4,q5,q6⟩,_⟩:=I.hok e _ he;obtain⟨cd,c1,c2,c3⟩:=x.cls;have ia:PySem.W.InstAt s.heap e o C none:=⟨q1,q2,by unfold PySem.W.notCls;rw[q4],by rw[q3];trivial⟩;refine d_ I.kIn ia q4 x.sa c1 c2 c3 n λ h' r1 r2 r3=>h s.heap.objs.size _ I.fresh ?_;have hf:=I.fresh;have ne:e≠s.heap.objs.size:=Ak he hf;have hs:∃ o',h'.get? s.heap.objs.size=some o':=let ⟨o',_,_,z,_⟩:=r2;⟨o',z⟩;have nx:∀ b v,H b=some v->(∀ φ,v≠.ext φ)->b≠e/\b≠s.heap.objs.size:=λ b v q z=>⟨λ w=>by rw[w,he] at q;cases q;exact z _ rfl,Ak q hf⟩;have ot:∀ b v,H b=some v->(∀ φ,v≠.ext φ)->upd (upd H s.heap.objs.size (.xd [(f,y)])) e (excO e C (some s.heap.objs.size) tb) b=some v:=λ b v q z=>by rw[Ad (nx b v q z).1,Ad (nx b v q z).2];exact q
 refine I.un ⟨λ b ob z nb _ _=>r3 b ob (Ne.symm (Ak he nb)) z,λ b ob z nb _ _=>⟨ob.slots,r3 b ob (Ne.symm (Ak he nb)) z⟩,λ b ob z nb _=>?_,λ b ob z _=>?_,λ b xs z=>ot b _ z (λ _ z=>nomatch z),λ b o' u' z=>ot b _ z (λ _ z=>nomatch z),λ b ps z=>⟨#[],by rw[ot b _ z (λ _ z=>nomatch z)];simp⟩⟩ λ b v z=>?_
 ·rw[Ad (Ne.symm (Ak he nb)),Ad (z0e (z05 z))];exact nb
 ·by_cases hb:b=e
  ·rw[hb];exact⟨_,r1⟩
  ·exact⟨ob,r3 b ob hb z⟩
 ·by_cases hb:b=e
  ·subst hb;rw[Ae] at z;cases z;exact ExcP.ok ⟨_,vs,r1,q2,rfl,q4,q5,q6⟩
  ·rw[Ad hb] at z
   by_cases hb2:b=s.heap.objs.size
   ·subst hb2;rw[Ae] at z;cases z;refine⟨_,r2,λ g=>?_⟩
    by_cases hg:g=f
    ·subst hg;simp[List.lookup];exact ry
    ·have:(g==f)=false:=z0p.mpr hg;simp[List.lookup,this,hg];trivial
   ·rw[Ad hb2] at z;refine (I.hok b v z).stay (λ c w hc k=>r3 c w ?_ k) (λ c q=>ot c _ q (λ _ z=>nomatch z)) (λ c xs q=>ot c _ q (λ _ z=>nomatch z))
    rcases hc with hc | hc
    ·rw[hc];exact hb
    ·exact (nx c _ hc (λ _ z=>nomatch z)).1
theorem eF {b:Bool}{fs:List (Str×V)}{Q:zQ}(I:Inv X π σ H s) (he:H e=some (excO e C (some dx) tb)) (hd:H dx=some (.xd fs)) (x:XC X.K C R) (n:Av X.K C f) (l:fs.lookup f=some v)
  (h:∀ u s',Inv X π σ H s'->RelV v u->Q u s'):wpAny (model X.prog X.w) A (getAttr (.ref e) f b) Q E s:=by
 obtain⟨⟨o,vs,q1,q2,q3,q4,q5,q6⟩,_⟩:=I.hok e _ he;obtain⟨mA,ns,r⟩:=I.hok dx _ hd;obtain⟨u,hu,ru⟩:=RelO.some_of (v:=v) (o:=mA f) (by rw[<-l];exact r f);obtain⟨oD,g1,g2⟩:=Ig ns;obtain⟨cd,c1,c2,c3⟩:=x.cls;have ia:PySem.W.InstAt s.heap e o C (some oD):=⟨q1,q2,by unfold PySem.W.notCls;rw[q4],by rw[q3];exact g1⟩;have hh:PySem.W.hasDictIn X.K C=true:=by unfold PySem.W.hasDictIn;rw[c1];exact c3
 refine d9 I.kIn ia x.ga x.gt ?_ (PySem.W.findObj_own hh n rfl (by rw[g2,hu])) (O5 ru) (h u _ (I.tok _) ru);show PySem.W.mroIn X.K C _=_;unfold PySem.W.mroIn;rw[c1,z0a,c2];rfl
end
section
variable {a b:Expr}{t:TA}{p:Pos}{x:Str}{R:Addr}
def PP (X:Cx) (c:St->Prop) (e:Expr):Prop:=∀ (π:zP) (s:Shared) (σ:St) (H:Hp),Inv X π σ H s->c σ ->
 wpAny (model X.prog X.w) X.A (eval e X.env) (λ v s'=>∃ y t,v=.str y t/\y.length<=2000000/\Inv X π σ H s') X.xe s
theorem U3 {c:St->Prop}{z:Str}{j} (h:z.length<=2000000:=by decide):PP X c (.Constant (.str z) j pos):=λ π s σ H I _=>Calls.Constant_str ⟨z,_,rfl,h,I.tok _⟩
def Ke (i:Nat) (σ:St):Prop:=∃ n:Int,σ[i]?=some (some (.int n))/\n.natAbs.log2<1920
def Z8 (i:Nat) (σ:St):Prop:=∃ z:Str,σ[i]?=some (some (.str z))/\z.length<=100000/\∀ c∈z.cps.toList,c<16^8
theorem U4 (h:PE X e (tVar i)):PP X (Ke i) (.FormattedValue e (-1) none pos):=λ π s σ H I ⟨n,h1,h2⟩=>by
 refine wpAny_FormattedValue_plain (thn (h π s σ H (λ v H'=>v=.int n/\H'=H) I ⟨_,h1,rfl,rfl⟩) λ u s1 ⟨v,H1,I1,r1,q1,q2⟩=>?_);subst q1 q2;obtain⟨t,rfl⟩:=(show ∃ t,u=Value.int n t from r1);refine wpAny_formatField_int h2 ⟨_,_,rfl,?_,I1.tok _⟩;have:=int_text_length_le (k:=1920) (by decide) h2;rw[PySem.ofString_length];omega
theorem eG (h:PE X e (tVar i)):PP X (Z8 i) (.FormattedValue e 114 none pos):=λ π s σ H I ⟨z,h1,h2,h3⟩=>by
 refine wpAny_FormattedValue_repr (thn (h π s σ H (λ v H'=>v=.str z/\H'=H) I ⟨_,h1,rfl,rfl⟩) λ u s1 ⟨v,H1,I1,r1,q1,q2⟩=>?_);subst q1 q2;obtain⟨t,rfl⟩:=(show ∃ t,u=Value.str z t from r1);have hl:(reprText z).length<=2000000:=by have:=PySem.StrLaws.reprText_len z h3;omega
 refine wpAny_pyReprObj_str ?_ (PV.Bw (by omega));exact wpAny_formatField_str ⟨_,_,rfl,hl,I1.tok _⟩ ⟨_,_,rfl,hl,(I1.tok _).tok _⟩ (PV.Bw (by omega))
theorem Mt (y:Str):(Str.empty++y).length=y.length:=by rw[PV.Dk];simp[Str.length,Str.empty]
def tTxt (c:St->Prop):TE:=λ σ H Q=>c σ/\∀ y,Q (.str y) H
theorem Te {c:St->Prop}{e1 e2:Expr}(h1:PP X c e1) (h2:PP X c e2):PE X (.JoinedStr [e1,e2] pos) (tTxt c):=λ π s σ H Q I ⟨hc,q⟩=>by
 refine wpAny_JoinedStr ?_;refine thn (h1 π s σ H I hc) λ v s1 ⟨y,t,e,l,I1⟩=>⟨y,t,e,PV.Bw (by rw[Mt];omega),?_⟩;have b2:∀ y2:Str,y2.length<=2000000->(Str.empty++y++y2).length<=sizeLine:=λ y2 l2=>PV.Bw (by rw[PV.Dk,Mt];omega);exact thn (h2 π s1 σ H I1 hc) λ v s2 ⟨y2,t2,e2,l2,I2⟩=>⟨y2,t2,e2,b2 y2 l2,b2 y2 l2,⟨.str _,H,I2.tok _,⟨_,rfl⟩,q _⟩⟩
theorem Z9 {c:St->Prop}{e1 e2 e3:Expr}(h1:PP X c e1) (h2:PP X c e2) (h3:PP X c e3):PE X (.JoinedStr [e1,e2,e3] pos) (tTxt c):=λ π s σ H Q I ⟨hc,q⟩=>by
 refine wpAny_JoinedStr ?_;refine thn (h1 π s σ H I hc) λ v s1 ⟨y,t,e,l,I1⟩=>⟨y,t,e,PV.Bw (by rw[Mt];omega),?_⟩;have b2:∀ y2:Str,y2.length<=2000000->(Str.empty++y++y2).length<=4000000:=λ y2 l2=>by rw[PV.Dk,Mt];omega
 refine thn (h2 π s1 σ H I1 hc) λ v s2 ⟨y2,t2,e2,l2,I2⟩=>⟨y2,t2,e2,PV.Bw (z0j (b2 y2 l2) (by decide)),?_⟩;have b3:∀ y3:Str,y3.length<=2000000->(Str.empty++y++y2++y3).length<=sizeLine:=λ y3 l3=>PV.Bw (by have:=b2 y2 l2;rw[PV.Dk];omega);exact thn (h3 π s2 σ H I2 hc) λ v s3 ⟨y3,t3,e3,l3,I3⟩=>⟨y3,t3,e3,b3 y3 l3,b3 y3 l3,⟨.str _,H,I3.tok _,⟨_,rfl⟩,q _⟩⟩
def tSup (K:zFr) (t:TA):TE:=λ σ H Q=>t σ H λ vs H1=>∃ e y C R od tb,vs=[.ref e,.str y]/\H1 e=some (excO e C od tb)/\XC K C R/\Q .non H1
theorem Ny {pl:Sem Bool}(hg:Gl X x) (hm:X.mg x=some (.ref R)) (h1:PySem.W.specialIn X.K (.ref R) "__getattribute__"=some (some (.builtin "type.__getattribute__"))) (h2:PySem.W.readsIn X.K R (.type "type")=true)
  (h3:PySem.W.findCls X.K (.ref R) (.type "type") "__init__"=some (.val (.builtin "ValueError.__init__"))) (ha:PA X (a::es) t) (hdb:(x==("__debug__":Str))=false:=by decide)
  (hst:starEach (a::es) X.env=(false,eval a X.env)::starEach es X.env:=by rfl) (hpl:(backTo pos (starEach es X.env)).any (·.1)=false:=by rfl)
  (ht:eval (.Call (.Attribute (.Name x p) "__init__" apos) (a::es) [] pos) X.env=(do
   let ov <-eval (.Name x p) X.env
   standAt apos.atName
   let (f,first) <-holding [ov] (getMethod ov "__init__" pl)
   callWith pos f first (backTo pos (starEach (a::es) X.env)) (backToKw pos (keywordEach [] X.env))):=by rfl) :
  PE X (.Call (.Attribute (.Name x p) "__init__" apos) (a::es) [] pos) (tSup X.K t):=by
 intro π s σ H Q I h;refine PySem.W.methodCall_KW (pl:=pl) (GF I hg hm ?_ hdb) ht;refine PySem.W.method_cls I.kIn h1 (PySem.W.cls_value I.kIn h2 h3 rfl ?_);refine callWith_builtin1 (thn (ha pos π _ σ H _ (I.tok _) h) λ us s1 ⟨vs,H1,I1,r,e,y,C,R',od,tb,ev,he,xc,q⟩=>?_) hst hpl;subst ev;cases r with
 | cons r1 r=>
  cases r with
  | cons r2 r=>
   cases r;obtain rfl:=(show _=Value.ref e from r1);exact Z7 I1 he xc λ s' I'=>⟨.non,H1,I',rfl,q⟩
end
section
variable {o value:Expr}{ta tv:TE}
def sXf (K:zFr) (ta tv:TE) (f:Str):TS:=λ D σ H=>tv σ H λ y H1=>ta σ H1 λ x H2=>∃ e C R tb,x=.ref e/\H2 e=some (excO e C none tb)/\XC K C R/\Av K C f ∧
 ∀ dx,H2 dx=none->D.nx σ (upd (upd H2 dx (.xd [(f,y)])) e (excO e C (some dx) tb))
theorem Ri (ha:PE X o ta) (hv:PE X value tv) (hs:swapsWith value (some (.Attribute o f pos')) pos.line X.env=pure false):PS X (.Assign [.Attribute o f pos'] value pos) (sXf X.K ta tv f):=by
 intro π s σ H D I h;refine plainObj_wpAny_Assign_Attribute (thn (hv π s σ H _ I h) λ u s1 ⟨y,H1,I1,ry,q⟩=>thn (ha π s1 σ H1 _ I1 q) λ ov s2 ⟨x,H2,I2,rx,e,C,R,tb,ex,ea,c,n,q2⟩=>?_) hs;subst ex;obtain rfl:ov=Value.ref e:=rx;exact eE I2 ea c n ry λ dx s3 hd I3=>⟨σ,_,I3,q2 dx hd⟩
end
def spE (K:zFr) (f:Str) (c:V->Prop):Sp:=λ vs H Q _=>∃ e y C R,vs=[.ref e,y]/\H e=some (excO e C none none)/\XC K C R/\Av K C f/\c y/\∀ dx,H dx=none->Q .non (upd (upd H dx (.xd [(f,y)])) e (excO e C (some dx) none))
theorem Py {K:zFr}{c:V->Prop}{cs:St->Prop}{Q:VK}{E:XK}(h:spE K f c vs H Q E) (hN:N.length=2) (hc:∀ e y,c y->cs [some (.ref e),some y]) :
  tSeq (YX (tSup K (Kr (tVar 0) (Kr (tTxt cs) tNil)))) (sXf K (tVar 0) (tVar 1) f) { nx:=λ _ H'=>Q .non H',rt:=Q } (start N vs) H:=by
 obtain⟨e,y,C,R,rfl,he,xc,n,cy,q⟩:=h;have st:start N [.ref e,y]=[some (.ref e),some y]:=by unfold L2.start;rw[hN];rfl
 rw[st];exact⟨_,rfl,hc e y cy,λ z=>⟨e,z,C,R,none,none,rfl,he,xc,_,rfl,_,rfl,e,C,R,none,rfl,he,xc,n,q⟩⟩
theorem Wg {K:zFr}{c:V->Prop}{Q:VK}{E:XK}(h:spE K f c vs H Q E):vs.length=2:=by
 obtain⟨e,y,C,R,rfl,_⟩:=h;rfl
def okI (y:V):Prop:=∃ n:Int,y=.int n/\n.natAbs.log2<1920
def okS (y:V):Prop:=∃ z:Str,y=.str z/\z.length<=100000/\∀ c∈z.cps.toList,c<16^8
theorem lH (e:Addr) (y:V) (h:okI y):Ke 1 [some (.ref e),some y]:=by obtain⟨n,rfl,h⟩:=h;exact⟨n,rfl,h⟩
theorem lJ (e:Addr) (y:V) (h:okS y):Z8 1 [some (.ref e),some y]:=by obtain⟨n,rfl,h⟩:=h;exact⟨n,rfl,h⟩
section
variable {R fi:Addr}{k:Nat}{c:V->Prop}
theorem Inv.exc (I:Inv X π σ H s):Inv X π σ (upd H (s.heap.objs.size+1) (excO (s.heap.objs.size+1) C none none)) { s with heap:=(s.heap.push (Fq us)).push (Gi C s.heap.objs.size) }:=by
 have I1:=I.kept (h':=s.heap.push (Fq us)) (t':=s.toks) λ b v z=>z08 _ z;have hs:(s.heap.push (Fq us)).objs.size=s.heap.objs.size+1:=by simp[Heap.size_push]
 refine I1.laid (a:=s.heap.objs.size+1) (h':=(s.heap.push (Fq us)).push (Gi C s.heap.objs.size)) (t':=s.toks) (λ b v z=>z08 _ z) (Nat.le_of_eq hs) ?_;have g:=z0l (s.heap.push (Fq us)) (o:=Gi C s.heap.objs.size) rfl;rw[hs] at g;exact ExcP.ok ⟨_,_,g,rfl,rfl,rfl,rfl,rfl⟩
theorem eO {Q:VK}(x:XC X.K C R) (hi:PySem.W.findIn X.K (.ref C) "__init__"=some (some (.ref fi))) (hf:PySem.W.isFn X.K (.ref fi)=true) (n:Av X.K C f)
  (F:FnOk X.prog X.w X.K X.mg X.base CX0 k fi fd ps (spE X.K f c)) (hr:Room (k+1) X.A) (hb:Binds X.K fd ps []) (I:Inv X π σ H s) (r:Vals [y] us) (cy:c y)
  (h:∀ e dx,H e=none->H dx=none->dx≠e->Q (.ref e) (upd (upd H dx (.xd [(f,y)])) e (excO e C (some dx) none))):wpAny (model X.prog X.w) X.A (call (.ref C) us) (EP X π σ Q) X.xe s:=by
 have I2:=Inv.exc (C:=C) (us:=us) I;have hfe:H (s.heap.objs.size+1)=none:=I.hok.fresh (z13 _);have sp:spE X.K f c [.ref (s.heap.objs.size+1),y] (upd H (s.heap.objs.size+1) (excO (s.heap.objs.size+1) C none none)) (λ v H2=>v=.non/\Q (.ref (s.heap.objs.size+1)) H2) E0:=by
  refine⟨_,y,C,R,rfl,Ae,x,n,cy,λ dx hd=>⟨rfl,?_⟩⟩;have ne:dx≠s.heap.objs.size+1:=λ z=>by rw[z,Ae] at hd;cases hd
  rw[Ad ne] at hd;have:=h _ dx hfe hd ne;have e:upd (upd (upd H (s.heap.objs.size+1) (excO (s.heap.objs.size+1) C none none)) dx (.xd [(f,y)])) (s.heap.objs.size+1) (excO (s.heap.objs.size+1) C (some dx) none)=upd (upd H dx (.xd [(f,y)])) (s.heap.objs.size+1) (excO (s.heap.objs.size+1) C (some dx) none):=by
   funext b;unfold upd;split<;>rfl
  rw[e];exact this
 have r2:Vals [V.ref (s.heap.objs.size+1),y] (Value.ref (s.heap.objs.size+1)::us):=.cons rfl r;have hl:(Value.ref (s.heap.objs.size+1)::us).length=ps.length:=by rw[<-r2.length];exact F.len _ _ _ _ sp
 have hb':=hb { s with heap:=(s.heap.push (Fq us)).push (Gi C s.heap.objs.size) } (Value.ref (s.heap.objs.size+1)::us) I2.kIn (by rw[z0v];exact hl);rw[z0v] at hb';have hus:us.length<=sizeLine:=by rw[<-r.length];exact PV.Bw (by show 1<=_;decide)
 obtain⟨nm,qn,N,bs,bm,hdct,sn,sub,ab,col,dd,k0,k1,k2,k3,k5,hC,T⟩:=Ho I.kIn x.obj;have KI:=I.kIn;have run:=F.run _ X.stack _ _ ⟨Value.ref (s.heap.objs.size+1)::us,[]⟩ (Value.ref (s.heap.objs.size+1)::us) _ _ E0 (hr.make C us []) (I2.env0.make C us []) hb' r2 sp;obtain⟨hp,g,d,t,os⟩:=s;refine wpAny_call (Tc PySem.F.excBase_ValueError T hC (PySem.W.looks_findIn KI hi) (λ self=>PySem.W.bind_fn KI self (z0u.mp hf)) (z0N run λ r s' hq'=>?_) hus);cases r with
 | error e=>exact hq'.elim
 | ok fl=>
  cases fl with
  | ret u=>
   obtain⟨v,H',I3,rv,ev,q3⟩:=I2.after hq';subst ev;exact⟨rv,⟨V.ref (hp.objs.size+1),H',I3,rfl,q3⟩⟩
  | next=>exact False.elim hq'
  | brk=>exact False.elim hq'
  | cont=>exact False.elim hq'
end
section
variable {A:Around}{K:zFr}
theorem Tf {x:Sem Value}{Q:Flow->Shared->Prop}(hh:A.handled=none)
  (h:wpAny M A x (λ v s₁=>∃ e C od,v=.ref e/\ExcP e C od none s₁.heap/\K.In s₁.heap/\excX K C=true/\E (.ref e) s₁) E s):wpAny M A (raiseStmt env (some x) none) Q E s:=by
 unfold raiseStmt;refine z00 (z0B h (λ v s₁ h₁=>?_) λ _ _ x=>x);obtain⟨e,C,od,rfl,⟨o,vs,q1,q2,q3,q4,q5,q6⟩,KI,hx,hE⟩:=h₁;obtain⟨nm,qn,N,bs,bm,hdct,sn,sub,ab,col,dd,k0,k1,k2,k3,k5,hC,T⟩:=Ho KI hx;have hcB:(Value.ref C::bm).contains (.type "BaseException")=true:=by rw[List.contains_cons,T.hasType (by decide +kernel:bmV.contains (.type "BaseException")=true),Bool.or_true]
 obtain⟨hp,g,d,tk,os⟩:=s₁;obtain⟨oc,odi,oda,osl⟩:=o;dsimp only at q2 q3 q4;subst q2 q4;have h6:vs[1]?=some Value.none:=q6
 repeat (first | with_reducible refine z19 q1 ?_ | with_reducible refine z19 hC ?_ | (with_reducible refine wpAny_isSubtype_exc hC ?_;rw[hcB]) | with_reducible refine z0V q1 rfl h6 ?_ | wp_step)
 exact wpAny_raiseNew_none hh hE
end
end EX
namespace PV
open PySem PySem.Spec L2 EX
open PyProof.Rows hiding St
def excF (c f:Str) (ok:D->Bool) (fa:FE):FE:=λ ρ=>(fa ρ).bind λ d=>if ok d=true then some (.exc c [(f,d)]) else none
section
variable {a:Expr}{fa:FE}{np cpos:Pos}{R fi:Addr}{k:Nat}{cx:Str}{c:V->Prop}{ok:D->Bool}
theorem Nz {d:D}(r:Rep G H v d) (h:flV d=some y):v=y:=by
 cases r<;>first | (cases h;rfl) | (cases h)
theorem YB (x:XC X.K C R) (hi:PySem.W.findIn X.K (.ref C) "__init__"=some (some (.ref fi))) (hf:PySem.W.isFn X.K (.ref fi)=true) (kp:PySem.W.keepIn X.K (.ref C)=true) (n:Av X.K C f)
  (F:FnOk X.prog X.w X.K X.mg X.base CX0 k fi fd ps (spE X.K f c)) (hr:Room (k+1) X.A) (hb:Binds X.K fd ps []) (hg:Gl X cx) (hm:X.mg cx=some (.ref C)) (hcl:G.xcl cn=some C) (hc:X.calm=true) (hok:∀ d,ok d=true->∃ y,flV d=some y/\c y)
  (ha:PF X G a fa) (hdb:(cx==("__debug__":Str))=false:=by decide) (he:starEach [a] X.env=[(false,eval a X.env)]:=by rfl) (hpl:(backTo cpos (starEach [] X.env)).any (·.1)=false:=by rfl) :
  PSZ X G (.Raise (some (.Call (.Name cx np) [a] [] cpos)) none pos) (retF (excF cn f ok fa)):=λ A0 He π s σ H D I ⟨ρ,o,⟨A,w⟩,e,k,kx⟩=>by
 unfold retF excF at e;cases e1:fa ρ with
 | none=>simp[e1] at e
 | some d=>
  rw[e1] at e
  by_cases hd:ok d=true
  ·simp only[z0a,hd,if_true,z0w] at e;cases e;obtain⟨y,hy,cy⟩:=hok d hd;have kx:Rz X G A0 He cn [(f,d)] ρ:=kx cn [(f,d)] rfl;have call:wpAny (model X.prog X.w) X.A (eval (.Call (.Name cx np) [a] [] cpos) X.env) (λ v s₁=>∃ e C od,v=.ref e/\ExcP e C od none s₁.heap/\X.K.In s₁.heap/\excX X.K C=true/\X.xe (.ref e) s₁) X.xe s:=by
    refine z16 (GF I hg hm ?_ hdb);have pa:=Bh (@ha A) Dt he cpos π s σ H (λ vs H1=>vs=[y]/\OkW G A0 He A σ H1 ρ) I ⟨ρ,d,w.ok,e1,λ v H1 s1 r1=>⟨by rw[Nz r1 hy],w.mono s1⟩⟩;refine z1d (h₀:=X.base) I.ok.mod.kin kp (thn pa λ us s1 ⟨vs,H1,I1,r,ev,w1⟩=>⟨I1.kIn,?_⟩) he hpl
    ·subst ev;refine thn (eO (Q:=λ v H2=>∃ e dx,v=.ref e/\H1 e=none/\H1 dx=none/\dx≠e/\H2=upd (upd H1 dx (.xd [(f,y)])) e (excO e C (some dx) none)) x hi hf n F hr hb I1 r cy λ e dx h1 h2 h3=>⟨e,dx,rfl,h1,h2,h3,rfl⟩) λ u s2 ⟨v2,H2,I2,r2,e,dx,ev,h1,h2,h3,eH⟩=>?_;subst ev eH;obtain rfl:u=Value.ref e:=r2;refine⟨e,C,some dx,rfl,(I2.hok e _ Ae).1,I2.kIn,x.obj,?_⟩;refine kx π σ H1 _ s2 e none I2 ⟨A,w1⟩ ⟨⟨C,some dx,[(f,y)],hcl,Ae,(show upd (upd H1 dx (.xd [(f,y)])) e (excO e C (some dx) none) dx=_ by rw[Ad h3];exact Ae),?_,λ d q=>by cases q;exact h2⟩,λ b u q=>?_,h1,λ T z=>nomatch z⟩
     ·simp[FsV,hy]
     ·rw[Ad (Ak q h1),Ad (Ak q h2)];exact q
   show wpAny _ _ (exec (.Raise (some (.Call (.Name cx np) [a] [] cpos)) none pos) X.env) _ _ _;rw[arm_exec_Raise];refine z00 (wpAny_standAt (Tf (K:=X.K) (I.ok.hd hc) ?_));exact z00 (thn call λ v s1 q=>z00 (wpAny_standAt (z02 q)))
  ·simp[hd] at e
end
end PV
namespace EX
open PySem PySem.Spec L2
open PyProof.Rows hiding St
abbrev Cx.mk2 (X:Cx) (e:Addr):Cx:={ X with A:=X.A.mark (some (.ref e)),calm:=false,xe:=λ _ _=>False }
section
variable {e R:Addr}{K:zFr}
theorem Tg (I:Inv X π σ H s):Inv (Cx.mk2 X e) π σ H s:=
 ⟨⟨I.ok.mod,I.ok.kind,I.ok.glob,I.ok.blt,I.ok.above,I.ok.inj,I.ok.has,I.ok.cab,(λ z=>nomatch z),I.ok.frames,I.ok.stk,I.ok.exf,I.ok.bs,I.ok.bsz,I.ok.noex,I.ok.exfs,I.ok.funs,I.ok.frf⟩,I.os,I.bare,I.base,I.loc,I.cell,I.free,I.freeC,I.pin,I.hok,I.len⟩
theorem N5 (ok:X.Ok) (I:Inv (Cx.mk2 X e) π σ H s):Inv X π σ H s:=⟨ok,I.os,I.bare,I.base,I.loc,I.cell,I.free,I.freeC,I.pin,I.hok,I.len⟩
abbrev Cx.tr (X:Cx) (E:zQ) (pn:zP):Cx:={ X with xe:=E,pn:=pn }
theorem oY {pn:zP}(ok:X.Ok):(Cx.tr X E pn).Ok:=⟨ok.mod,ok.kind,ok.glob,ok.blt,ok.above,ok.inj,ok.has,ok.cab,ok.hd,ok.frames,ok.stk,ok.exf,ok.bs,ok.bsz,ok.noex,ok.exfs,ok.funs,ok.frf⟩
theorem lK (I:Inv X π σ H s):Inv (Cx.tr X E (X.pn++π)) [] σ H s:=⟨oY I.ok,I.os,I.bare,I.base,I.loc,I.cell,I.free,I.freeC,λ p hp=>I.pin p (by simpa using hp),I.hok,I.len⟩
theorem Hq (ok:X.Ok) (I:Inv (Cx.tr X E (X.pn++π)) pins' σ H s):Inv X π σ H s:=⟨ok,I.os,I.bare,I.base,I.loc,I.cell,I.free,I.freeC,λ p hp=>I.pin p (z0F _ hp),I.hok,I.len⟩
theorem Mv {D:Ends}{f:Flow}(ok:X.Ok) (h:SP (Cx.tr X E (X.pn++π)) pins' D f s'):SP X π D f s':=by
 cases f with
 | next=>obtain⟨σ',H',I,q⟩:=h;exact⟨σ',H',Hq ok I,q⟩
 | brk=>obtain⟨σ',H',I,q⟩:=h;exact⟨σ',H',Hq ok I,q⟩
 | cont=>obtain⟨σ',H',I,q⟩:=h;exact⟨σ',H',Hq ok I,q⟩
 | ret u=>obtain⟨v,σ',H',I,r,q⟩:=h;exact⟨v,σ',H',Hq ok I,r,q⟩
theorem Z_ {A:Around}{Q:Unit->Shared->Prop}{T:Addr}(I:Inv X π σ H s) (he:H e=some (excO e C od (some T))) (ht:H T=some (tbO T .none)) (k:∀ s',Inv X π σ H s'->Q () s'):wpAny M A (setFlight (.ref e) none) Q E s:=by
 obtain⟨⟨o,vs,q1,q2,q3,q4,q5,q6⟩,_⟩:=I.hok e _ he;obtain⟨⟨oT,ts,r1,r2,r3,r4⟩,_⟩:=I.hok T _ ht;have z3:3<ts.size:=(Array.getElem?_eq_some_iff.mp r3).1;unfold setFlight;refine z00 (z0V q1 q4 q6 ?_);rw[if_pos (show (tbV (some T) != Value.none)=true from by simp[tbV])];refine z0Y r1 r2 z3 (k _ ?_);have I1:=Jd (u':=tbO T .none) (i:=3) (v:=(none:Option Addr).elim Value.none λ f=>rawInt f) I ht trivial r1 r2 λ h' o' y1 y2 y3 y4=>TbP.ok ⟨o',_,y1,y4,by simp[z3],y2.trans r4⟩
 rwa [Td ht] at I1
theorem Wh {A:Around}{Q:Unit->Shared->Prop}{n:Str}(I:Inv X π σ H s) (hN:X.N.Nodup) (hi:X.N[i]?=some n) (hk:X.env.kindOf n=some .local)
  (h:∀ s',Inv X π (σ.set i none) H s'->Q () s'):wpAny M A (do bindName X.env n .none;unbindBehindTheSuite X.env n pos) Q E s:=by
 obtain⟨m,hn,hl⟩:=I.loc;have hcls:(X.env.scope.kind==.class||(X.env.scope.kind==.module&&X.env.locals != X.env.globals))=false:=by rw[I.ok.kind];rfl
 have cne:=I.cne;obtain⟨oL,_,_,hoL,_⟩:=id hn;refine wpAny_nameGoes_keeps hk hn hcls λ h' v hn' hs=>h _ ?_;have ne:∀ b o,X.s₀.heap.get? b=some o->b≠X.env.locals:=λ b o z=>z0e (z0r (z05 z) I.ok.above);refine⟨I.ok,I.os,I.bare,⟨λ b o z n hb hx=>(hs.2 b (ne b o z)).trans (I.base.keep b o z n hb hx),λ b o z n hb hx=>?_,I.base.free,λ b o z hx=>?_,I.base.tups,I.base.frzs,I.base.tbls⟩,⟨_,hn',λ j y v' e1 e2 e3=>?_⟩,λ y c z=>?_,I.free,I.freeC,λ p hp=>?_,λ b ob z=>?_,by simpa using I.len⟩
 ·obtain⟨sl,e1⟩:=I.base.slot b o z n hb hx;exact⟨sl,(hs.2 b (ne b o z)).trans e1⟩
 ·obtain⟨o',e1⟩:=I.base.there b o z hx;exact⟨o',(hs.2 b (ne b o z)).trans e1⟩
 ·by_cases hj:j=i
  ·subst hj;rw[List.getElem?_set] at e2;split at e2
   ·split at e2<;>cases e2
   ·rename_i z;exact absurd rfl z
  ·rw[z0n (Ne.symm hj)] at e2;obtain⟨u',r',q⟩:=hl j y v' e1 e2 e3;refine⟨u',r',?_⟩
   rcases q with ⟨k,z⟩ | ⟨k,c,z,z'⟩
   ·refine .inl ⟨k,?_⟩;have:y≠n:=λ w=>hj (M7 hN e1 (w▸hi));simp[this,z]
   ·exact .inr ⟨k,c,z,z'.sameBut hs (cne y c z)⟩
 ·obtain⟨w',z'⟩:=I.cell y c z;exact⟨w',z'.sameBut hs (cne y c z)⟩
 ·obtain⟨z,n,ne,nf,d⟩:=I.pin p hp;exact⟨(hs.2 p.1 ne).trans z,n,ne,nf,d⟩
 ·refine (I.hok b ob z).stay (λ c w' hc q=>(hs.2 c ?_).trans q) (λ _ q=>q) λ _ _ q=>q;rintro rfl
  rcases hc with hc | hc
  ·rw[<-hc,I.free] at z;cases z
  ·rw[I.free] at hc;cases hc
theorem Rj {A:Around}{Q:Bool->Shared->Prop}{oe:Obj}(KI:K.In s.heap) {R':Addr}(hR:excX K R=true) (xc:XC K C R') (hRR:R=R'∨R=C) (he:s.heap.get? e=some oe) (hcls:oe.cls=.ref C) (hq:Q true s) :
  wpAny M A (excMatches (.ref e) (.ref R)) Q E s:=by
 obtain⟨nm,qn,N,bs,bm,hdct,sn,sub,ab,col,dd,k0,k1,k2,k3,k5,hC,T⟩:=Ho KI hR;obtain⟨cd,c1,c2,c3⟩:=xc.cls;have L:PySem.W.Looks M s.heap (isSubtype (.ref C) (.ref R)) true:=PySem.W.looks_subIn KI (by show PySem.W.mroIn K C _=_;unfold PySem.W.mroIn;rw[c1,z0a,c2];rcases hRR with rfl | rfl<;>simp);have hcB:(Value.ref R::bm).contains (.type "BaseException")=true:=by rw[List.contains_cons,T.hasType (by decide +kernel:bmV.contains (.type "BaseException")=true),Bool.or_true]
 have f:=tc_notTuple;obtain⟨hp,g,d,t,os⟩:=s;unfold excMatches
 repeat (first | (with_reducible refine z19 he ?_;rw[hcls]) | with_reducible refine z19 hC ?_ | (with_reducible refine wpAny_isSubtype_exc hC ?_;rw[hcB]) | with_reducible refine L.at ?_ | wp_step)
 exact hq
end
end EX
namespace PV
open PySem PySem.Spec L2 EX
open PyProof.Rows hiding St
def offO (i:Nat) (o:Option Out):Option Out:=match o with
 | some (.nx ρ)=>some (.nx (ρ.set i .un))
 | some (.rt d ρ)=>some (.rt d (ρ.set i .un))
 | _=>none
def tryO (cs:List Str) (i:Nat) (h:FS) (o:Option Out):Option Out:=match o with
 | some (.rt d ρ)=>(match excOf d with
  | some (c,gs)=>if cs.contains c=true then offO i (h (ρ.set i (.fz (.err c gs)))) else none
  | none=>some (.rt d ρ))
 | o=>o
def tryF (cs:List Str) (i:Nat) (g h:FS):FS:=λ ρ=>tryO cs i h (g ρ)
section
theorem OkW.unset (w:OkW G A0 He A σ H ρ) (i:Nat):OkW G A0 He A (σ.set i none) H (ρ.set i .un):=by
 have key:∀ (j:Nat) (z:Slot),z≠.un->(ρ.set i .un)[j]?=some z->j≠i/\ρ[j]?=some z:=λ j z nz h=>by
  by_cases hj:j=i
  ·subst hj;rw[List.getElem?_set] at h;split at h
   ·split at h
    ·cases h;exact absurd rfl nz
    ·cases h
   ·rename_i q;exact absurd rfl q
  ·rw[z0n (Ne.symm hj)] at h;exact⟨hj,h⟩
 have ks:∀ (j:Nat),j≠i->(σ.set i none)[j]?=σ[j]?:=λ j hj=>z0n (Ne.symm hj);refine⟨w.same,w.sub,w.fr,w.l0,⟨by rw[z0J,z0J];exact w.ok.len,w.ok.live,λ j d h=>?_,λ j d h=>?_,λ j k d e a h1 h2 h3 h4=>?_⟩,λ j d a h1 h2=>?_,λ x d hx h0=>?_⟩
 ·obtain⟨hj,h⟩:=key j _ (by simp) h;rw[ks j hj];exact w.ok.fz j d h
 ·obtain⟨hj,h⟩:=key j _ (by simp) h;rw[ks j hj];exact w.ok.ow j d h
 ·obtain⟨hj,h1⟩:=key j _ (by simp) h1;obtain⟨hk,h2⟩:=key k _ (by simp) h2;rw[ks j hj] at h3;rw[ks k hk] at h4;exact w.ok.inj j k d e a h1 h2 h3 h4
 ·obtain⟨hj,h1⟩:=key j _ (by simp) h1;rw[ks j hj] at h2;exact w.ow0 j d a h1 h2
 ·obtain⟨hj,h0⟩:=key 0 _ (by simp) h0;rw[ks 0 hj];exact w.lt x d hx h0
theorem eQ {cs:List Str}{n rx:Str}{R:Addr}{suite:List Stmt}{b0:Stmt}{np hpos:Pos}{g h:FS}(hst:X.stack=X.env::X.outer) (hf:X.env.frame=some X.env.locals) (hN:X.N.Nodup) (hi:X.N[i]?=some n) (hk:X.env.kindOf n=some .local) (hg:Gl X rx) (hm:X.mg rx=some (.ref R)) (hR:excX X.K R=true)
  (hcl:∀ c C,cs.contains c=true->G.xcl c=some C->∃ R',XC X.K C R'/\(R=R'∨R=C)) (hb:∀ E pn,PSZs (Cx.tr X E pn) G body g) (hs:∀ e,PSDs (Cx.mk2 X e) G (b0::suite) h) (hdb:(rx==("__debug__":Str))=false:=by decide) :
  PSD X G (.Try body [.ExceptHandler (some (.Name rx np)) (some n) (b0::suite) hpos] [] [] pos) (tryF cs i g h):=λ A0 He π s σ H D I ⟨ρ,o,ok,e,k⟩=>by
 refine wpAny_Try_except ?_;unfold tryF at e;cases e1:g ρ with
 | none=>rw[e1] at e;cases e
 | some o1=>
  rw[e1] at e;have fin:∀ {E':zQ}(f:Flow) (s1:Shared),SP (Cx.tr X E' (X.pn++π)) [] D f s1->(match f with | .next=>wpAny (model X.prog X.w) X.A (execs [] X.env) (SP X π D) X.xe s1 | f=>SP X π D f s1):=λ f s1 q=>by
   cases f with
   | next=>exact wpAny_execs_nil (Mv I.ok q)
   | brk=>exact Mv I.ok q
   | cont=>exact Mv I.ok q
   | ret u=>exact Mv I.ok q
  refine z0B (hb (λ e s1=>wpAny (model X.prog X.w) X.A (noteFrame e X.env) (λ _ s2=>wpAny (model X.prog X.w) X.A (setFlight e none) (λ _ s3=>wpAny (model X.prog X.w) X.A (handleBy e X.env [.ExceptHandler (some (.Name rx np)) (some n) (b0::suite) hpos]) (SP X π D) X.xe s3) X.xe s2) X.xe s1) (X.pn++π) He [] s σ H D (lK I) ⟨ρ,o1,ok,e1,?_,?_⟩) (λ f s1 q=>fin f s1 q) λ e s1 q=>q
  ·cases o1 with
   | nx ρ'=>cases e;exact k
   | bk ρ'=>cases e;exact k
   | ct ρ'=>cases e;exact k
   | rt d ρ'=>
    cases e2:excOf d with
    | none=>simp only[tryO,e2] at e;cases e;exact k
    | some q=>exact λ v σ' H' A w r=>absurd e2 (by rw[Kd r];simp)
  ·cases o1 with
   | nx ρ'=>trivial
   | bk ρ'=>trivial
   | ct ρ'=>trivial
   | rt d ρ'=>
    intro c gs e2 pins' σ1 H1 H2 s2 ea tb I2 ⟨A1,w1⟩ x;simp only[tryO,e2] at e
    by_cases hc:cs.contains c=true
    ·rw[if_pos hc] at e;have I2:=Hq I.ok I2;refine Nv hst hf I2 x λ T H3 s3 I3 x3=>?_;obtain⟨C,dx,fs,y1,y2,y3,y4,y5⟩:=x3.ex;obtain⟨R',xc,hRR⟩:=hcl c C hc y1;have w3:=w1.mono x3.same;obtain⟨⟨oe,vs,q1,q2,q3,q4,q5,q6⟩,_⟩:=I3.hok ea _ y2;refine wpAny_handleBy_cons (codeAny_handlers_test ?_) (by intro q;cases q);refine GF (X:=Cx.mk2 X ea) (Tg I3) hg hm ?_ hdb;refine Rj I3.kIn hR xc hRR q1 q2 ?_;refine codeAny_handlers_suite_as (Z_ I3 y2 (x3.tbk T rfl).1 λ s4 I4=>?_);have noA:∀ b,H1 b=none->b∉A1:=λ b z q=>(w1.ok.live b q).ne z;have rp:Rep G (hid A1 H3) (.ref ea) (.err c gs):=.err y1 (by rw[Ao (noA ea x3.new)];exact y2) (by cases dx with | none=>exact y3 | some dx=>exact (by show hid A1 H3 dx=_;rw[Ao (noA dx (y5 dx rfl))];exact y3)) y4;refine M8 (X:=Cx.mk2 X ea) (Tg I4) hN hi (Or.inl hk) (show RelV (.ref ea) (.ref ea) from rfl) (λ s5 I5=>?_) (.inr hk);cases e5:h (ρ'.set i (.fz (.err c gs))) with
     | none=>rw[e5] at e;cases e
     | some o5=>
      rw[e5] at e;refine z0B (hs ea He π s5 _ H3 { nx:=λ σ' H'=>D.nx (σ'.set i none) H',rt:=D.rt } I5 ⟨_,o5,⟨A1,w3.set rp i⟩,e5,?_⟩) (λ f s6 q=>?_) λ _ _ z=>z.elim
      ·cases o5 with
       | nx ρ5=>cases e;exact λ σ6 H6 ⟨A6,w6⟩=>k _ _ ⟨A6,w6.unset i⟩
       | rt d5 ρ5=>cases e;exact λ v σ6 H6 A6 w6 r6=>k v _ H6 A6 (w6.unset i) r6
       | bk ρ5=>cases e
       | ct ρ5=>cases e
      ·cases f with
       | next=>
        obtain⟨σ6,H6,I6,q⟩:=q;exact Wh (N5 I.ok I6) hN hi hk λ s7 I7=>⟨_,H6,I7,q⟩
       | ret u=>
        obtain⟨v,σ6,H6,I6,r,q⟩:=q;exact Wh (N5 I.ok I6) hN hi hk λ s7 I7=>⟨v,_,H6,I7,r,q⟩
       | brk=>obtain⟨_,_,_,q⟩:=q;exact q.elim
       | cont=>obtain⟨_,_,_,q⟩:=q;exact q.elim
    ·rw[if_neg hc] at e;cases e
end
end PV
namespace EX
open PySem PySem.W PySem.Spec PyProof.Rows PySem.Calls
section
variable {A:Around}{K:Frag}{x:Addr}{ox:Obj}{od:Option Obj}
theorem YC {Q:Option Value->Shared->Prop}(X:K.In s.heap) (I:InstAt s.heap x ox C od) (hga:findIn K (.ref C) "__getattribute__"=some (some (.builtin "BaseException.__getattribute__"))) (hgt:findIn K (.ref C) "__getattr__"=some none)
  (hsub:subIn K (.ref C) (.type "BaseException")=some true) (hcl:(clsIn K C).isSome=true) (ha:findIn K (.ref C) "__class__"=some (some (.builtin "object.__class__")))
  (hn:specialIn K (.builtin "object.__class__") "__get__"=some (some (.builtin "getset_descriptor.__get__"))) (htk:takesIn K (.builtin "object.__class__")=some true) (hm:mroIn K C (.type "object")=some true) (h:Q (some (.ref C)) { s with toks:=s.toks+1 }):wpAny (model prog w) A (getAttr? (.ref x) "__class__") Q E s:=by
 have hf:findObj K C od "__class__"=some (.bind (.builtin "getset_descriptor.__get__") (.builtin "object.__class__")):=by (obtain⟨cdx,hcx⟩:=Option.isSome_iff_exists.mp hcl;unfold findObj;rw[hcx,z0a,ha,z0a];simp[hn,htk])
 obtain⟨hp,g,d,t,os⟩:=s;have L0:=I.type (M:=model prog w);have L1:=looks_findIn (M:=model prog w) X hga;have L2:=looks_findIn (M:=model prog w) X hgt;have L3:=looks_find (M:=model prog w) X I hf;have L4:=looks_subIn (M:=model prog w) X hsub;have f3:=F.attr_ValueError.ga.bind (.ref x);have hk:builtinKind "BaseException.__getattribute__"=some .slot:=by decide +kernel
 have hsplit:splitId "BaseException.__getattribute__"=some ("BaseException","__getattribute__"):=by decide +kernel
 have hx2:(Value.builtin "BaseException.__getattribute__"==Value.builtin "object.__getattribute__")=false:=by decide +kernel
 have hx1:(onTheHeap (Value.ref C)&&Value.builtin "BaseException.__getattribute__"==Value.builtin "object.__getattribute__")=false:=by rw[hx2];rfl
 unfold getAttr? getAttrBy? getAttrBy;refine z00 (wpAny_mkText (z00 (wpAny_attempt (z0X (z00 (L0.at (z00 (L1.at ?_))))))));dsimp only;rw[hx1,if_neg (by decide)];have ck:∀ (Q:Unit->Shared->Prop) (B:Around) (E':zQ),Q () ⟨hp,g,d,t+1,os⟩->wpAny (model prog w) B (checkBuiltinCall "BaseException.__getattribute__" ⟨[.ref x,.str "__class__" t],[]⟩) Q E' ⟨hp,g,d,t+1,os⟩:=λ Q B E' hq=>by
  have ha:=F.args_bexc_ga (.ref x) (.str "__class__" t);simp only[checkBuiltinCall,hk,hsplit];refine z00 ?_;unfold isInstance;refine z00 (L0.at (L4.at ?_))
  repeat (any_goals (first | assumption | wp_step))
 have run:∀ (B:Around) (R:Result->Shared->Prop),R (.ok (.ret (.ref C))) ⟨hp,g,d,t+1,os⟩->codeAny (model prog w) B (.call (.builtin "BaseException.__getattribute__") ⟨[.ref x,.str "__class__" t],[]⟩) R ⟨hp,g,d,t+1,os⟩:=λ B R hq=>
  codeAny_call_builtin F.attr_ValueError.ga.plain F.entry_bexc_ga (ck _ _ _ (by
   unfold Builtin.«object.__getattribute__»
   repeat (any_goals (first | assumption | with_reducible refine L0.at ?_ | with_reducible refine L3.at ?_ | wp_step))
   exact class_get (s:=⟨hp,g,d,t+1,os⟩) (ox:=ox) (od:=od) X I hm (z02 hq)))
 repeat (any_goals (first | assumption | with_reducible refine L2.at ?_ | wp_step))
 refine run _ _ ?_;show wpAny _ _ (handedOut (.ref C)) _ _ _;rw[handedOut_of rfl];exact z02 (z02 h)
structure XK2 (K:Frag) (C:Addr):Prop where
 ha:findIn K (.ref C) "__class__"=some (some (.builtin "object.__class__"))
 hn:specialIn K (.builtin "object.__class__") "__get__"=some (some (.builtin "getset_descriptor.__get__"))
 htk:takesIn K (.builtin "object.__class__")=some true
theorem aA {R:Addr}(xc:XC K C R) (k:XK2 K C):KitX K (.ref x) (.ref C) (λ h=>∃ ox od,InstAt h x ox C od):=by
 obtain⟨cd,c1,c2,c3⟩:=xc.cls;have mi:∀ v,(cd.mro.contains v)=true->mroIn K C v=some true:=λ v hv=>by unfold mroIn;rw[c1,z0a,hv,c2];rfl
 refine⟨λ M h _ ⟨ox,od,I⟩=>I.type,λ M h X _=>?_,λ h tp dd its n sl X htp=>?_,λ {prog w A E Q s} X ⟨ox,od,I⟩ h=>YC X I xc.ga xc.gt (mi _ (by rw[c2];rfl)) (by rw[c1];rfl) k.ha k.hn k.htk (mi _ (by rw[c2];rfl)) h⟩
 ·have hcD:=c1;unfold clsIn at hcD;split at hcD
  ·rename_i c' d' cd' sl' ho;intro A' Q' E' s' k q;unfold isType loadHead;exact z00 (wpAny_loadPart (k _ _ (X _ _ ho)) (z02 q))
  ·cases hcD
 ·have hcD:=c1;refine Bool.eq_false_iff.mpr λ q=>?_;have e:C=tp:=Value.ref.inj (z0u.mp q);subst e;unfold clsIn at hcD;split at hcD
  ·rename_i c' d' cd' sl' ho;have z:=(X _ _ ho).symm.trans htp;cases z
  ·cases hcD
end
end EX
namespace PV
open PySem PySem.Spec L2 EX
open PyProof.Rows hiding St
structure XT (G:Gx) (cs:List Str) (R:Addr):Prop where
 xc:∀ c C,cs.contains c=true->G.xcl c=some C->XC G.K C R
 xk:∀ c C,cs.contains c=true->G.xcl c=some C->XK2 G.K C
def isxD (cs ns:List Str):D->Option D
 | .non=>some (.bl (ns.contains "NoneType"))
 | .bl _=>some (.bl (ns.contains "bool"))
 | .int _=>some (.bl (ns.contains "int"))
 | .str _=>some (.bl (ns.contains "str"))
 | .err c _=>if cs.contains c=true then some (.bl (ns.contains c)) else none
 | _=>none
def kitB (K:zFr) (ecs:List (Str×Addr)) (cv:List Value) (ns:List Str):Bool:=
 (["NoneType","bool","int","str"]:List String).all (λ n=>PySem.W.kitAny K (.type n) cv==some (ns.contains (Str.ofString n)))&&ecs.all λ p=>PySem.W.kitAny K (.ref p.2) cv==some (ns.contains p.1)
structure Kit (G:Gx) (cs:List Str) (cv:List Value) (ns:List Str):Prop where
 non:PySem.W.kitAny G.K (.type "NoneType") cv=some (ns.contains "NoneType")
 bl:PySem.W.kitAny G.K (.type "bool") cv=some (ns.contains "bool")
 int:PySem.W.kitAny G.K (.type "int") cv=some (ns.contains "int")
 str:PySem.W.kitAny G.K (.type "str") cv=some (ns.contains "str")
 err:∀ c C,cs.contains c=true->G.xcl c=some C->PySem.W.kitAny G.K (.ref C) cv=some (ns.contains c)
inductive SpecV (H:Hp):V->List Value->Prop
 | cls (C:Addr):SpecV H (.ref C) [.ref C]
 | ty (T:String):SpecV H (.ty T) [.type T]
 | tup {p:Addr}{Cs:List Addr}:H p=some (.tup (Cs.map V.ref))->SpecV H (.ref p) (Cs.map Value.ref)
theorem Pz:∀ {Cs:List Addr}{ws:List Value},Vals (Cs.map V.ref) ws->ws=Cs.map Value.ref
 | [],_,.nil=>rfl
 | _::_,_,.cons r t=>by rw[Pz t,(show _=Value.ref _ from r)];rfl
def Th (cv:List Value):TE:=λ _ H Q=>∀ v H',Same H H'->SpecV H' v cv->Q v H'
def Wi (Cs:List Addr):TA:=λ _ H Q=>Q (Cs.map V.ref) H
section
variable {a sp:Expr}{fa:FE}{p:Pos}{cs:List Str}{cv:List Value}{R:Addr}{Cs:List Addr}
theorem Fj {x:Str}(hg:Gl X x) (hm:X.mg x=some (.ref C)) (hd:(x==("__debug__":Str))=false:=by decide):PE X (.Name x pos) (Th [.ref C]):=By (GJ (v:=.ref C) hg hm rfl hd) λ σ H Q h=>h _ H (Same.refl H) (.cls C)
theorem aB {x:Str}{T:String}(hg:Gl X x) (hm:X.mg x=none) (hv:bootBuiltins x=some (.type T)) (hn:x≠"__name__":=by decide) (hd:(x==("__debug__":Str))=false:=by decide):PE X (.Name x pos) (Th [.type T]):=By (bz (v:=.ty T) hg hm hv rfl hn hd) λ σ H Q h=>h _ H (Same.refl H) (.ty T)
theorem Il:PA X [] (Wi []):=Dt
theorem CZ {x:Str}(hm:X.mg x=some (.ref C)) (hr:PA X es (Wi Cs)) (hg:Gl X x:=by rfl) (hd:(x==("__debug__":Str))=false:=by decide) (hs:starEach (.Name x pos::es) X.env=(false,eval (.Name x pos) X.env)::starEach es X.env:=by rfl):PA X (.Name x pos::es) (Wi (C::Cs)):=Bh (GJ (v:=.ref C) hg hm rfl hd) hr hs
theorem Im {x1} (h:PA X es (Wi Cs)) (hz:Nat.ble Cs.length 1000=true:=by rfl):PE X (.Tuple es x1 pos) (Th (Cs.map Value.ref)):=By (QR h) λ σ H Q h=>⟨by rw[z01];exact Bw (z0j (Nat.le_of_ble_eq_true hz) (by decide)),λ p hp=>h _ _ (Ay hp _) (.tup Ae)⟩
theorem Wj {K:zFr}{t c:Value}{b:Bool}(h:PySem.W.kitAny K t [c]=some b):PySem.W.kitOne K t c=some b:=by
 unfold PySem.W.kitAny at h;split at h
 ·rename_i e;rw[e];exact h
 ·rename_i e;rw[e];exact h
 ·cases h
theorem Io {x t:Value}{b:Bool}{HH:Heap->Prop}{A:Around}{Q:zQ}(I:Inv X π σ H s) (Z:PySem.W.KitX X.K x t HH) (hh:HH s.heap) (e:PySem.W.kitAny X.K t cv=some b)
  (hx:x≠.builtin "__main__.__loader__#opaque") (sv:SpecV H v cv) (ru:RelV v u) (h:∀ tk,Q (.bool b) { s with toks:=tk }):wpAny (model X.prog X.w) A (call (.builtin "isinstance") [x,u]) Q E s:=by
 cases sv with
 | cls C=>obtain rfl:=(show u=Value.ref C from ru);exact PySem.W.kia_one Z I.kIn hh (Wj e) hx h
 | ty T=>obtain rfl:=(show u=Value.type T from ru);exact PySem.W.kia_one Z I.kIn hh (Wj e) hx h
 | tup hp=>
  obtain rfl:=(show u=Value.ref _ from ru);obtain⟨_,its,r,o,g1,g2,n,g3⟩:=I.hok _ _ hp;have:=Pz r;subst this;obtain⟨oc,od,oda,osl⟩:=o;dsimp only at g2 g3;subst g2 g3;exact PySem.W.kia_tup Z I.kIn hh g1 e hx h
theorem aC {e:Addr}{fs:List (Str×V)}(I:Inv X π σ H s) (he:H e=some (excO e C od tb)) (hd:XdA H od fs):∃ ox oD,PySem.W.InstAt s.heap e ox C oD:=by
 obtain⟨⟨o,vs,q1,q2,q3,q4,q5,q6⟩,_⟩:=I.hok e _ he;cases od with
 | none=>exact⟨o,none,q1,q2,by unfold PySem.W.notCls;rw[q4],by rw[q3];trivial⟩
 | some dx=>
  obtain⟨mA,ns,r⟩:=I.hok dx _ hd;obtain⟨oD,g1,g2⟩:=Ig ns;exact⟨o,some oD,q1,q2,by unfold PySem.W.notCls;rw[q4],by rw[q3];exact g1⟩
theorem aD (hG:G.K=X.K) (t:XT G cs R) (kt:Kit G cs cv ns):Dn X (.builtin "isinstance") (λ xs H Q=>∃ x v A d b,xs=[x,v]/\Rep G (hid A H) x d/\isxD cs ns d=some (.bl b)/\SpecV H v cv/\Q (.bl b) H):=by
 rintro π s σ H xs us Q I r ⟨x,v,A,d,b,rfl,rp,e,sv,q⟩;cases r with
 | cons rx r=>
  cases r with
  | cons rv r=>
   cases r;have fin:∀ tk,EP X π σ Q (.bool b) { s with toks:=tk }:=λ tk=>⟨.bl b,H,I.tok _,rfl,q⟩;cases rp with
   | non=>obtain rfl:=(show _=Value.none from rx);cases e;exact Io I PySem.W.kitx_none True.intro (hG▸kt.non) (λ z=>nomatch z) sv rv fin
   | bl y=>obtain rfl:=(show _=Value.bool y from rx);cases e;exact Io I PySem.W.kitx_bool True.intro (hG▸kt.bl) (λ z=>nomatch z) sv rv fin
   | int i=>obtain⟨t',rfl⟩:=(show ∃ t,_=Value.int i t from rx);cases e;exact Io I PySem.W.kitx_int True.intro (hG▸kt.int) (λ z=>nomatch z) sv rv fin
   | str i=>obtain⟨t',rfl⟩:=(show ∃ t,_=Value.str i t from rx);cases e;exact Io I PySem.W.kitx_str True.intro (hG▸kt.str) (λ z=>nomatch z) sv rv fin
   | @err a C dx tb c fs gs hC h1 h2 h3=>
    obtain rfl:=(show _=Value.ref a from rx);have e':(if cs.contains c=true then some (D.bl (ns.contains c)) else none)=some (.bl b):=e;split at e'
    ·rename_i hc;cases e';exact Io I (aA (hG▸t.xc c C hc hC) (hG▸t.xk c C hc hC)) (aC I (Ai _ _ h1) (h2.mono Ai)) (hG▸kt.err c C hc hC) (λ z=>nomatch z) sv rv fin
    ·cases e'
   | tup=>cases e
   | lst=>cases e
   | dk=>cases e
   | dt=>cases e
   | adr=>cases e
   | ob=>cases e
theorem lL {d d':D}(h:isxD cs ns d=some d'):∃ b,d'=.bl b:=by
 unfold isxD at h;split at h
 ·cases h;exact⟨_,rfl⟩
 ·cases h;exact⟨_,rfl⟩
 ·cases h;exact⟨_,rfl⟩
 ·cases h;exact⟨_,rfl⟩
 ·split at h
  ·cases h;exact⟨_,rfl⟩
  ·cases h
 ·cases h
theorem G7 {x:Str}(hG:G.K=X.K) (t:XT G cs R) (kt:Kit G cs cv ns) (hg:Gl X x) (hm:X.mg x=none) (hv:bootBuiltins x=some (.builtin "isinstance")) (ha:PF X G a fa) (hsp:PE X sp (Th cv))
  (hn:x≠"__name__":=by decide) (hdb:(x==("__debug__":Str))=false:=by decide) (he:starEach [a,sp] X.env=(false,eval a X.env)::starEach [sp] X.env:=by rfl) (he2:starEach [sp] X.env=(false,eval sp X.env)::starEach [] X.env:=by rfl) :
  PF X G (.Call (.Name x p) [a,sp] [] pos) (uF (isxD cs ns) fa):=λ A=>By (JW (aD hG t kt) hg hm hv (Bh (@ha A) (Bh hsp Dt he2) he) hn hdb he (by rw[he2];rfl)) λ σ H Q ⟨ρ,d,o,e,k⟩=>by
 unfold uF at e;cases e1:fa ρ with
 | none=>simp[e1] at e
 | some dx=>
  rw[e1] at e;have e2:isxD cs ns dx=some d:=e;obtain⟨b,rfl⟩:=lL e2;exact⟨ρ,dx,o,e1,λ v H1 s1 r1=>λ w H2 s2 sv=>⟨v,w,A,dx,b,rfl,r1.mono (Aq s2),e2,sv,k _ H2 (s1.trans s2) (.bl b)⟩⟩
def fldE (cs:List Str) (f:Str):D->Option D
 | .err c gs=>if cs.contains c=true then gs.lookup f else none
 | _=>none
theorem eU {fs:List (Str×V)}{d:D}(h:FsV fs gs) (l:gs.lookup f=some d):∃ y,fs.lookup f=some y/\flV d=some y:=by
 unfold FsV at h
 induction fs generalizing gs with
 | nil=>cases gs with
  | nil=>cases l
  | cons q t=>cases h
 | cons q t ih=>
  cases gs with
  | nil=>cases l
  | cons q' t'=>
   obtain⟨k,v⟩:=q;obtain⟨k',v'⟩:=q';simp only[z04,List.cons.injEq,Prod.mk.injEq] at h;obtain⟨⟨rfl,h1⟩,h2⟩:=h;simp only[List.lookup] at l ⊢;split at l
   ·cases l;exact⟨v,rfl,h1.symm⟩
   ·exact ih h2 l
theorem aF {d:D}(h:flV d=some y):Rep G H y d:=by
 cases d<;>first | (cases h;constructor) | cases h
theorem Mw (hG:G.K=X.K) (t:XT G cs R) (ha:PF X G a fa) (n:∀ c C,cs.contains c=true->G.xcl c=some C->Av G.K C f)
  (hb:attributeBase a f X.env (eval a X.env)=eval a X.env:=by rfl) :
  PF X G (.Attribute a f pos) (uF (fldE cs f) fa):=λ A π s σ H Q I ⟨ρ,d,o,e,k⟩=>by
 unfold uF at e;cases e1:fa ρ with
 | none=>simp[e1] at e
 | some d0=>
  rw[e1] at e;have e2:fldE cs f d0=some d:=e;refine Vd hb (thn (@ha A π s σ H (λ v H1=>Same H H1/\Rep G (hid A H1) v d0) I ⟨ρ,d0,o,e1,λ v H1 s1 r1=>⟨s1,r1⟩⟩) λ u s1 ⟨v,H1,I1,rv,s1',rp⟩=>?_);cases rp with
  | @err ae C dx tb c fs gs hC h1 h2 h3=>
   obtain rfl:=(show u=Value.ref ae from rv);have e':(if cs.contains c=true then gs.lookup f else none)=some d:=e2;split at e'
   ·rename_i hc;obtain⟨y,l1,l2⟩:=eU h3 e';cases dx with
    | none=>cases h2;cases l1
    | some dx=>exact eF I1 (Ai _ _ h1) (Ai _ _ h2) (hG▸t.xc c C hc hC) (hG▸n c C hc hC) l1 λ u' s2 I2 ru=>⟨y,H1,I2,ru,k y H1 s1' (aF l2)⟩
   ·cases e'
  | _=>cases e2
end
end PV
namespace PV
open PySem PySem.Spec
section
variable {A:Around}{T:String}{r d:Addr}{n:Nat}{P:Nat->Value->Prop}{OK:Heap->Prop}
end
section
variable {A:Around}
end
open L2
section
variable {a:Expr}{fa:FE}{p:Pos}
end
end PV
namespace PV
open PySem PySem.Spec L2 EX
open PyProof.Rows hiding St
theorem oZ {base:Heap}{x:Str}{f:Addr}{k:Nat}{b:FS}(F:FunD G.K x qual st f fd) (S:FnScope N ps (Ab st)) (hl:ps.length<=N.length)
  (hb:∀ (cdv:Value) (A:Around) (outer:List Env) (s:Shared) (H:Hp) (E:XK),Room k (A.deeper (envOfC qual (Ab st) s.heap.objs.size f cdv))->PSZs (cxOf (CX1 P w) P w G.K mg base N qual (Ab st) f cdv A outer s H E) G (Aw st) b) :
  FnOk P w G.K mg base (CX1 P w) (k+1) f fd ps (spZ G (runF N.length ps.length b)):=by
 obtain⟨oc,od,dV,kV,doc,pm,an,cdv,ct,osl,rfl,lk,hcd⟩:=F.ex;refine O_ lk hcd S (λ vs H Q E h=>?_) (λ A outer s H vs Q E hr h=>?_)
 ·obtain⟨A,ds,d,lv,r,e,_⟩:=h;unfold runF at e;split at e
  ·rename_i hz;rw[r.1];exact hz
  ·cases e
 ·obtain⟨A0,ds,d,lv,r,e,k,kx⟩:=h;unfold runF at e;split at e
  ·rename_i hz;have hzz:=hb cdv A outer s H E hr;refine⟨_,@hzz A0 H,Bm N.length ds,?_⟩;cases e1:b (Bm N.length ds) with
   | none=>simp[e1] at e
   | some o=>
    refine⟨o,Hl lv r (by rw[r.1,hz];exact hl),rfl,?_⟩;cases o with
    | nx ρ=>
     simp only[e1] at e;cases e;exact⟨λ σ H' ⟨A,w⟩=>k _ H' w.same .non,trivial⟩
    | rt d' ρ'=>
     simp only[e1] at e;cases e;exact⟨λ v σ H' A w r'=>k v H' w.same (r'.mono (Ck w.sub)),Z6 kx⟩
    | bk ρ=>simp[e1] at e
    | ct ρ=>simp[e1] at e
  ·cases e
def okID:D->Bool
 | .int n=>decide (n.natAbs.log2<1920)
 | _=>false
def okSD:D->Bool
 | .str z=>decide (z.length<=100000)&&z.cps.toList.all λ c=>decide (c<4294967296)
 | _=>false
theorem Rk (d:D) (h:okID d=true):∃ y,flV d=some y/\okI y:=by
 cases d with
 | int n=>exact⟨_,rfl,n,rfl,z0Z h⟩
 | _=>cases h
theorem My (d:D) (h:okSD d=true):∃ y,flV d=some y/\okS y:=by
 cases d with
 | str z=>
  simp only[okSD,z0q,z0K,z0C] at h;exact⟨_,rfl,z,rfl,h.1,h.2⟩
 | _=>cases h
structure Mx (K:zFr) (C:Addr) (m qual:Str) (st:Stmt) (ps:List Str) where
 f:Addr
 fd:FuncData
 F:Fun K m qual st f fd
 B:Binds K fd ps []
 me:Meth K C m f
structure Rx (K:zFr) (mg:Str->Option Value) (rn:Str) where
 R:Addr
 m:mg rn=some (.ref R)
 x:excX K R=true
 h1:PySem.W.specialIn K (.ref R) "__getattribute__"=some (some (.builtin "type.__getattribute__"))
 h2:PySem.W.readsIn K R (.type "type")=true
 h3:PySem.W.findCls K (.ref R) (.type "type") "__init__"=some (.val (.builtin "ValueError.__init__"))
structure Xx (G:Gx) (mg:Str->Option Value) (R:Addr) (cn f qual:Str) (st:Stmt) (ps:List Str) where
 C:Addr
 fi:Addr
 fd:FuncData
 g:G.xcl cn=some C
 xc:XC G.K C R
 hi:PySem.W.findIn G.K (.ref C) "__init__"=some (some (.ref fi))
 hf:PySem.W.isFn G.K (.ref fi)=true
 kp:PySem.W.keepIn G.K (.ref C)=true
 na:Av G.K C f
 m:mg cn=some (.ref C)
 F:Fun G.K "__init__" qual st fi fd
 B:Binds G.K fd ps []
section
variable {a ob:Expr}{fs:FA}{fa fo:FE}{p np cpos:Pos}
theorem fZ {k:Nat}{x:Str}{d:Dx X.K X.mg x st ps}(F:FnOk X.prog X.w X.K X.mg X.base (CX1 X.prog X.w) k d.f d.fd ps (spZ G g)) (hr:Room k' X.A) (ha:PFA X G (a::es) fs) (hle:k<=k':=by omega) (hg:Gl X x:=by rfl) (hdb:(x==("__debug__":Str))=false:=by decide)
  (he:starEach (a::es) X.env=(false,eval a X.env)::starEach es X.env:=by rfl) (hpl:(backTo pos (starEach es X.env)).any (·.1)=false:=by rfl):PFZ X G (.Call (.Name x p) (a::es) [] pos) (Am g fs):=lG F (hr.mono hle) hg d.m d.F.kp d.B ha hdb he hpl
theorem rZ {R:Addr}{x:Xx G X.mg R cn f qual st ps}{k:Nat}{c:V->Prop}{ok:D->Bool}(F:FnOk X.prog X.w X.K X.mg X.base CX0 k x.fi x.fd ps (spE X.K f c)) (hr:Room k' X.A) (hok:∀ d,ok d=true->∃ y,flV d=some y/\c y) (ha:PF X G a fa) (hle:k+1<=k':=by omega) (hG:G.K=X.K:=by rfl) (hg:Gl X cn:=by rfl) (hc:X.calm=true:=by rfl)
  (hdb:(cn==("__debug__":Str))=false:=by decide) (he:starEach [a] X.env=[(false,eval a X.env)]:=by rfl) (hpl:(backTo cpos (starEach [] X.env)).any (·.1)=false:=by rfl):PSZ X G (.Raise (some (.Call (.Name cn np) [a] [] cpos)) none pos) (retF (excF cn f ok fa)):=
 YB (hG▸x.xc) (hG▸x.hi) (hG▸x.hf) (hG▸x.kp) (hG▸x.na) F (hr.mono hle) (hG▸x.B) hg x.m x.g hc hok ha hdb he hpl
theorem sZ (hN:X.N.Nodup) (i:Nat) {x:Str}(ha:PFZ X G a fa) (hi:X.N[i]?=some x:=by rfl) (hx:Loc X.env.scope x:=by first | exact Or.inl rfl | exact Or.inr rfl) (hs:swapsWith a (some (.Name x p)) pos.line X.env=pure false:=by rfl)
  (hf:X.fn x=true∨X.env.scope.names.lookup x=some .local :=by first | exact .inl rfl | exact .inr rfl | assumption):PSZ X G (.Assign [.Name x p] a pos) (setZ i fa):=d7 (λ _ h=>QL hN hi hx h hs hf) ha
end
section
variable {x:Str}{base:Heap}{k:Nat}{b:FS}
theorem fnZ (d:Dx G.K mg x st ps) (S:FnScope N ps (Ab st))
  (hb:∀ (cdv:Value) (A:Around) (outer:List Env) (s:Shared) (H:Hp) (E:XK),Room k (A.deeper (envOfC x (Ab st) s.heap.objs.size d.f cdv))->PSZs (cxOf (CX1 P w) P w G.K mg base N x (Ab st) d.f cdv A outer s H E) G (Aw st) b) (hl:ps.length<=N.length:=by decide) :
  FnOk P w G.K mg base (CX1 P w) (k+1) d.f d.fd ps (spZ G (runF N.length ps.length b)):=oZ d.F S hl hb
end
def gx2 (K:zFr) (cn:Str) (C:Addr) (l:List (Str×Addr)):Gx:={ K:=K,cl:=λ c=>if c=cn then some C else none,xcl:=λ c=>l.lookup c }
section
variable {K:zFr}{x:Str}{f R:Addr}{dV kV:Value}{l:List (Str×Addr)}
theorem lN:(gx2 K cn C l).cl cn=some C:=if_pos rfl
theorem U5 (X:K.In h) (cl:Cls K C) (n:PySem.W.findIn K (.ref C) x=some none):∀ c C',(gx2 K cn C l).cl c=some C'->Cls K C'/\Av K C' x:=λ c C' h=>by
 unfold gx2 at h;simp only at h;split at h
 ·cases h;exact⟨cl,n⟩
 ·cases h
theorem N6 {P:Addr->Prop}:∀ {l:List (Str×Addr)},(∀ p∈l,P p.2)->∀ {c:Str}{C:Addr},l.lookup c=some C->P C
 | [],_,_,_,h=>nomatch h
 | (k,v)::r,hp,c,C,h=>by
  simp only[List.lookup] at h;split at h
  ·cases h;exact hp (k,v) z0k
  ·exact N6 (λ p hm=>hp p (z07 _ hm)) h
theorem lO {cs:List Str}(X:K.In h) (hp:∀ p∈l,XC K p.2 R/\XK2 K p.2):XT (gx2 K cn C l) cs R:=⟨λ c C' _ g=>(N6 (P:=λ C=>XC K C R/\XK2 K C) hp g).1,λ c C' _ g=>(N6 (P:=λ C=>XC K C R/\XK2 K C) hp g).2⟩
theorem lQ {cs:List Str}(X:K.In h) (hp:∀ p∈l,PySem.W.findIn K (.ref p.2) x=some none):∀ c C',cs.contains c=true->(gx2 K cn C l).xcl c=some C'->Av (gx2 K cn C l).K C' x:=λ c C' _ g=>N6 (P:=λ C=>PySem.W.findIn K (.ref C) x=some none) hp g
theorem aG {cv:List Value}{ns:List Str}:∀ {l:List (Str×Addr)},(∀ p∈l,PySem.W.kitAny K (.ref p.2) cv=some (ns.contains p.1))->∀ {c:Str}{C:Addr},l.lookup c=some C->PySem.W.kitAny K (.ref C) cv=some (ns.contains c)
 | [],_,_,_,h=>nomatch h
 | (k,v)::r,hp,c,C,h=>by
  simp only[List.lookup] at h;split at h
  ·rename_i e;have:c=k:=by simpa using e
   cases h;subst this;exact hp (c,v) z0k
  ·exact aG (λ p hm=>hp p (z07 _ hm)) h
theorem eV {cs:List Str}{cv:List Value}(X:K.In h) (h1:PySem.W.kitAny K (.type "NoneType") cv=some (ns.contains "NoneType")) (h2:PySem.W.kitAny K (.type "bool") cv=some (ns.contains "bool")) (h3:PySem.W.kitAny K (.type "int") cv=some (ns.contains "int")) (h4:PySem.W.kitAny K (.type "str") cv=some (ns.contains "str"))
  (hp:∀ p∈l,PySem.W.kitAny K (.ref p.2) cv=some (ns.contains p.1)):Kit (gx2 K cn C l) cs cv ns:=⟨h1,h2,h3,h4,λ c C' _ g=>aG hp g⟩
def kx2 {g:Addr}{n:Nat}{its:Array Value}{xs:List Str}(X:K.In h) (N:h.Ns mainGlobals mg) (a:PySem.W.nsIn K mainGlobals x=some (some (.ref g))) (lk:K.lookup g=some ⟨.type "tuple",od,.seq its n,osl⟩) (hz:its.size<=sizeLine) (r:Vals (xs.map V.str) its.toList):Kx (gx2 K cn C l) mg x (.tup (xs.map .str)):=⟨g,z12 X N a,Pg lk hz r⟩
def mx (X:K.In h) (a:PySem.W.findIn K (.ref C) m=some (some (.ref f))) (i:PySem.W.isFn K (.ref f)=true) (lk:K.lookup f=some ⟨oc,od,.func (PySem.W.fnOf m qual (Bv st) (Aw st) (Ab st) .none kV doc pm an cdv ct),osl⟩) (c:PySem.W.codeIn K cdv qual=true) (k:PySem.W.keepIn K (.ref f)=true)
  (b:∀ (kV doc pm:Value) (an:Option Addr) (cdv ct:Value) (us:List Value),us.length=ps.length->bindArgs (PySem.W.fnOf m qual (Bv st) (Aw st) (Ab st) .none kV doc pm an cdv ct) ⟨us,[]⟩=pure (ps.zip us)):Mx K C m qual st ps:=⟨f,_,G3 lk c k,(G3 lk c k).binds b,a,i,k⟩
def rx (X:K.In h) (N:h.Ns mainGlobals mg) (a:PySem.W.nsIn K mainGlobals x=some (some (.ref R))) (e:excX K R=true) (h1:PySem.W.specialIn K (.ref R) "__getattribute__"=some (some (.builtin "type.__getattribute__"))) (h2:PySem.W.readsIn K R (.type "type")=true)
  (h3:PySem.W.findCls K (.ref R) (.type "type") "__init__"=some (.val (.builtin "ValueError.__init__"))):Rx K mg x:=⟨R,z12 X N a,e,h1,h2,h3⟩
def xx {fn:Str}{fi:Addr}(X:K.In h) (N:h.Ns mainGlobals mg) (a:PySem.W.nsIn K mainGlobals x=some (some (.ref f))) (g:l.lookup x=some f) (xc:XC K f R) (hi:PySem.W.findIn K (.ref f) "__init__"=some (some (.ref fi))) (i:PySem.W.isFn K (.ref fi)=true) (kp:PySem.W.keepIn K (.ref f)=true) (na:PySem.W.findIn K (.ref f) fn=some none)
  (lk:K.lookup fi=some ⟨oc,od,.func (PySem.W.fnOf "__init__" qual (Bv st) (Aw st) (Ab st) .none kV doc pm an cdv ct),osl⟩) (c:PySem.W.codeIn K cdv qual=true) (k:PySem.W.keepIn K (.ref fi)=true)
  (b:∀ (kV doc pm:Value) (an:Option Addr) (cdv ct:Value) (us:List Value),us.length=ps.length->bindArgs (PySem.W.fnOf "__init__" qual (Bv st) (Aw st) (Ab st) .none kV doc pm an cdv ct) ⟨us,[]⟩=pure (ps.zip us)):Xx (gx2 K cn C l) mg R x fn qual st ps:=⟨f,fi,_,g,xc,hi,i,kp,na,z12 X N a,G3 lk c k,(G3 lk c k).binds b⟩
theorem Ov:bootBuiltins "ValueError"=some (.type "ValueError"):=by decide +kernel
end
end PV
namespace PV
open PySem PySem.Spec L2
open PyProof.Rows hiding St
def oh:R2:=λ x y H Q=>∃ a kvs k b,y=.ref a/\Rd H a (.dT kvs)/\x=.ref b/\H b=some (.tup (k.map kV))/\Q (.bl (valV kvs k).isSome) H
def inTO (ds:Option (List D)) (y:Option D):Option D:=ds.bind λ ds=>y.bind λ y=>match y with
 | .dt kds=>if ds.length<=sizeLine then (Hn ds).map λ k=>.bl (getK k kds).isSome else none
 | _=>none
def inTF (fs:FA) (fb:FE):FE:=λ ρ=>inTO (fs ρ) (fb ρ)
section
variable {b:Expr}{fb:FE}{p1:Pos}{fs:FA}
theorem eX (hu:X.A.units+1<cLine):OpR X (compareOp .In) oh:=by
 intro π s σ H x y v u Q I rx ry h;obtain⟨a,kvs,k,b,rfl,e,rfl,eb,q⟩:=h;cases ry;exact d_in hu I (.inr ⟨kvs,k,b,e,rfl,eb,rfl⟩) rx λ s' I'=>⟨.bl _,H,I',rfl,q⟩
theorem lR {x1} {k:Nat}(hr:Room k X.A) (ha:PFA X G es fs) (hb:PU X G b fb) (hm:behindInMarks .In b=false:=by with_unfolding_all rfl):PF X G (.Compare (.Tuple es x1 p1) [.In] [b] pos) (inTF fs fb):=λ A=>By (Vb (eX (Ek hr)) (QR (@ha A)) (@hb A) hm) λ σ H Q ⟨ρ,d,o,e,k⟩=>by
 unfold inTF inTO at e;cases e1:fs ρ with
 | none=>simp[e1] at e
 | some ds=>
  cases e2:fb ρ with
  | none=>simp[e1,e2] at e
  | some y=>
   rw[e1,e2] at e;cases y with
   | dt kds=>
    have e':(if ds.length<=sizeLine then (Hn ds).map λ k=>D.bl (getK k kds).isSome else none)=some d:=e;split at e'
    ·rename_i hz;cases e3:Hn ds with
     | none=>simp[e3] at e'
     | some ks=>
      rw[e3] at e';cases e';refine⟨ρ,ds,o,e1,λ xs H1 s1 r1=>⟨by rw[r1.1];exact hz,λ p hp=>?_⟩⟩;have ex:=KZ r1 e3;have s2:Same H1 (upd H1 p (.tup xs)):=Ay hp _;refine⟨ρ,.dt kds,o.mono (s1.trans s2),e2,λ v H3 s3 r3=>?_⟩;obtain⟨a,kvs,rfl,h1,h2,r⟩:=r3.dt;have h3:=(Ik (k:=ks) h2 r).2;refine⟨a,kvs,ks,p,rfl,h1,rfl,by rw[s3 _ _ Ae,ex],?_⟩;rw[h3];exact k _ H3 ((s1.trans s2).trans s3) (.bl _)
    ·cases e'
   | _=>cases e
end
structure Ax (mg:Str->Option Value) (x:Str) where
 a:Addr
 m:mg x=some (.ref a)
def ax {K:zFr}{h:Heap}{mg:Str->Option Value}{x:Str}{C:Addr}(X:K.In h) (N:h.Ns mainGlobals mg) (a:PySem.W.nsIn K mainGlobals x=some (some (.ref C))):Ax mg x:=⟨C,z12 X N a⟩
end PV
namespace PV
open PySem PySem.Spec L2 EX
open PyProof.Rows hiding St
def tXZ (X:Cx) (G:Gx) (A0:List Addr) (He:Hp) (h:FZ):TE:=λ σ H Q=>∃ ρ d ρ' A,OkW G A0 He A σ H ρ/\h ρ=some (d,ρ')/\(∀ v H' A',OkW G A0 He A' σ H' ρ'->Same (hid A H) (hid A' H')->Rep G (hid A' H') v d->Q v H')/\RzO X G A0 He d ρ'
def PXZ (X:Cx) (G:Gx) (e:Expr) (h:FZ):Prop:=∀ ⦃A0⦄ He,PE X e (tXZ X G A0 He h)
section
variable {a b c:Expr}{fa fb fc:FE}{p2 px rp p:Pos}{fs:FA}{h:FZ}{hs:FZA}
theorem PX.x (ha:PX X G a h):PXZ X G a h:=λ A0 He π s σ H Q I ⟨ρ,d,ρ',A,w,e,k,_⟩=>@ha A0 He π s σ H Q I ⟨ρ,d,ρ',A,w,e,k⟩
end
section
variable {k:Nat}{f:Addr}{o:Expr}{ta:TE}
end
section
variable {b:Expr}{rp p:Pos}{fs:FA}
end
def nxD (d:D):Option D:=match excOf d with | none=>some d | some _=>none
def noX (g:List D->Option D):List D->Option D:=λ ds=>(g ds).bind nxD
section
variable {K:zFr}{base:Heap}{k:Nat}{f:Addr}{sp':Sp}
theorem eY (F:FnOk P w K mg base (CX1 P w) k f fd ps sp) (h:∀ vs H Q E,sp' vs H Q E->sp vs H Q λ _ _ _=>False):FnOk P w K mg base CX0 k f fd ps sp':=
 ⟨λ vs H Q E q=>F.len vs H Q _ (h _ _ _ _ q),λ A outer s H args us vs Q E hr he hb hv hs=>z0N (F.run A outer s H args us vs Q _ hr he hb hv (h _ _ _ _ hs)) λ r s' q=>by
  cases r with
  | error v=>obtain⟨_,_,_,_,_,_,_,z⟩:=q;exact z.elim
  | ok fl=>cases fl<;>exact q⟩
theorem Ti {d:D}(e:noX g ds=some d):g ds=some d/\excOf d=none:=by
 unfold noX nxD at e;cases e1:g ds with
 | none=>simp[e1] at e
 | some d'=>
  rw[e1,z0a] at e;split at e
  ·rename_i z;cases e;exact⟨rfl,z⟩
  ·cases e
theorem iY (F:FnOk P w K mg base (CX1 P w) k f fd ps (spZ G g)):FnOk P w K mg base CX0 k f fd ps (spD G (noX g)):=
 eY F λ vs H Q E ⟨A,ds,d,lv,r,e,q⟩=>⟨A,ds,d,lv,r,(Ti e).1,q,λ c gs z=>by rw[(Ti e).2] at z;cases z⟩
end
section
variable {a b:Expr}{fs:FA}{rp p:Pos}{h:FZ}
end
end PV
namespace PV
open PySem PySem.Spec L2
open PyProof.Rows hiding St
theorem Fun.d {K:zFr}{x:Str}{f:Addr}(F:Fun K x qual st f fd):FunD K x qual st f fd:=⟨let ⟨oc,od,kV,q⟩:=F.ex;⟨oc,od,.none,kV,q⟩,F.kp⟩
end PV
namespace L2
theorem Fun.d {K:zFr}{x qual:PySem.Str}{st:PySem.Stmt}{f:PySem.Addr}{fd:PySem.FuncData}(F:Fun K x qual st f fd):PV.FunD K x qual st f fd:=PV.Fun.d F
end L2
namespace PV
open PySem PySem.Spec L2
section
variable {l1 l2:List Expr}{a b c:Expr}
theorem K3 {k j}:starEach (.Constant k j pos::es) env=(false,eval (.Constant k j pos) env)::starEach es env:=rfl
theorem Mz {x}:starEach (.Name x pos::es) env=(false,eval (.Name x pos) env)::starEach es env:=rfl
theorem CN {o}:starEach (.BinOp a o b pos::es) env=(false,eval (.BinOp a o b pos) env)::starEach es env:=rfl
theorem Cr {x}:starEach (.Attribute a x pos::es) env=(false,eval (.Attribute a x pos) env)::starEach es env:=rfl
theorem N7 {x}:starEach (.Tuple l1 x pos::es) env=(false,eval (.Tuple l1 x pos) env)::starEach es env:=rfl
theorem G8 {k}:starEach (.Call a l1 k pos::es) env=(false,eval (.Call a l1 k pos) env)::starEach es env:=rfl
end
section
variable {fs:FA}
theorem iS {i j} (h:PFA X G es fs):PFA X G (.Constant (.str i) j pos::es) (Aa (kF (.str i)) fs):=Ah KN h K3
theorem iI {i j} (h:PFA X G es fs):PFA X G (.Constant (.int i) j pos::es) (Aa (kF (.int i)) fs):=Ah Uq h K3
end
section
variable {cs:List Str}{R:Addr}
theorem eZ (x:XT G cs R):∀ c C,cs.contains c=true->G.xcl c=some C->∃ R',EX.XC G.K C R'/\(R=R'∨R=C):=λ c C h g=>⟨R,x.xc c C h g,.inl rfl⟩
end
open PyProof.Rows hiding St
section
variable {a b:Expr}{fs:FA}{px py pt:Pos}
end
end PV
namespace PV
open PySem PySem.Spec L2 EX
open PyProof.Rows hiding St
section
variable {a:Expr}{fa:FE}{np cpos p:Pos}{gb:FS}{fs:FA}
theorem OutX.base {A0:List Addr}{He Hf:Hp}{o:Out}(k:OutX X G A0 He o) (s:Same He Hf) (l0:∀ a∈A0,He a≠none):OutX X G A0 Hf o:=by
 cases o with
 | rt d ρ=>exact λ c gs z π σ H1 H s' e tb I ⟨A,w⟩ x=>k c gs z π σ H1 H s' e tb I ⟨A,w.base s l0⟩ x
 | _=>trivial
theorem Wk {it:Expr}(hp:PassesOwn (model X.prog X.w) X.A X.env X.xe) (hc:X.calm=true) (hi:PFI X G false tg it src) (hg:PGD X G tg fg) (hb:PSZs X G body gb)
  (hs:∀ x,foldedSetIterable it X.env x=pure x:=by intro _;rfl):PSZ X G (.For tg it body [] pos) (forS src fg gb):=λ A0 He π s σ H D I ⟨ρ,o,⟨A,w⟩,e,k,kx⟩=>by
 cases e1:src ρ with
 | none=>simp[forS,e1] at e
 | some ds=>
  have e':forF (λ d ρ=>(fg d ρ).bind gb) ds ρ=some o:=by
   have e2:forF (tgB fg gb) ds ρ=some o:=by simpa [forS,e1] using e
   exact e2
  have hb':PSs X body (λ D σ H=>∃ A0 He,tSZ X G A0 He gb D σ H):=λ π s σ H D I ⟨A0,He,q⟩=>@hb A0 He π s σ H D I q;have hg':PG X tg (λ v σ H Q=>∃ A0 He,tGD G A0 He fg v σ H Q):=λ π s σ H v u Q I r ⟨A0,He,q⟩=>@hg A0 He π s σ H v u Q I r q;refine QM hp hc (@hi A) hg' hb' hs π s σ H D I ⟨ρ,ds,w.ok,e1,λ J H1 s1 sr=>?_⟩;obtain⟨sHe,w2⟩:=(w.mono s1).here;have k2:=k.base sHe w.l0;have kx2:=kx.base sHe w.l0;generalize hHf:hid (A.filter λ a=>decide (a∉A0)) H1=Hf at sHe w2 k2 kx2;refine⟨λ i m σ' H'=>m=ds.length-i/\i<=ds.length/\∃ ρ',OkS G A0 Hf σ' H' ρ'/\forF (λ d ρ=>(fg d ρ).bind gb) (ds.drop i) ρ'=some o,⟨ds.length,by simp,z0M _,ρ,⟨A,w2⟩,by simpa using e'⟩,?_⟩;rintro i m σ3 H3 ⟨rfl,hil,ρ3,⟨B,w3⟩,e3⟩;have pl:Same (hid A H1) (hid B H3):=by rw[<-hHf] at w3;exact OkW.plain w.sub w3
  by_cases hlt:i<ds.length
  ·right;have hd:ds[i]?=some ds[i]:=by simp[hlt]
   have ed:ds.drop i=ds[i]::ds.drop (i+1):=z1k hlt;rw[ed] at e3;unfold forF at e3;refine⟨sr.go i H3 (pl.trans Ai) hlt,λ σ' H'=>∃ ρ',OkS G A0 Hf σ' H' ρ'/\forF (λ d ρ=>(fg d ρ).bind gb) (ds.drop (i+1)) ρ'=some o,λ σ' H' q=>⟨ds.length-(i+1),by omega,rfl,hlt,q⟩,λ x H' y=>?_⟩;obtain⟨sy,rx⟩:=sr.yld i H3 x H' _ (pl.trans Ai) hd y;refine⟨A0,Hf,B,ρ3,ds[i],?_⟩;cases e4:fg ds[i] ρ3 with
   | none=>simp[e4] at e3
   | some ρ4=>
    refine⟨ρ4,w3.mono sy,rx B w3.ok.live pl,rfl,λ σ5 H5 ok5=>⟨A0,Hf,ρ4,?_⟩⟩;cases e5:gb ρ4 with
    | none=>simp[e4,e5] at e3
    | some o5=>
     refine⟨o5,ok5,rfl,?_⟩;cases o5 with
     | nx ρ5=>
      simp only[e4,e5,z0a] at e3;exact⟨λ σ' H' ok'=>⟨ρ5,ok',e3⟩,trivial⟩
     | ct ρ5=>
      simp only[e4,e5,z0a] at e3;exact⟨λ σ' H' ok'=>⟨ρ5,ok',e3⟩,trivial⟩
     | bk ρ5=>
      simp only[e4,e5,z0a] at e3;cases e3;exact⟨λ σ' H' ok'=>k2 σ' H' ok',trivial⟩
     | rt d5 ρ5=>
      simp only[e4,e5,z0a] at e3;cases e3;exact⟨k2,kx2⟩
  ·left;have ei:i=ds.length:=by omega
   subst ei;rw[List.drop_length] at e3;cases e3;exact⟨sr.stop _ H3 (pl.trans Ai) (z03 _),k2 σ3 H3 ⟨B,w3⟩⟩
end
end PV
namespace EX
open PySem PySem.W PySem.Spec PyProof.Rows PySem.Calls
section
variable {A:Around}{K:Frag}{x:Addr}{ox:Obj}{name:Str}{v:Value}
open Builtin Builtin.ObjectAttr in
theorem aH {R dx:Addr}{oD:Obj}{cd:ClassData}{vs:Array Value}{m:Str->Option Value}{l:List Str}{Q:Unit->Shared->Prop}(X:K.In s.heap) (I:InstAt s.heap x ox C (some oD)) (hdx:ox.dict=some dx) (hfl:ox.data=.fields vs) (hs:findIn K (.ref C) "__setattr__"=some (some (.builtin "object.__setattr__"))) (hc:clsIn K C=some cd)
  (hm:cd.mro=[.ref C,.ref R,.type "ValueError",.type "Exception",.type "BaseException",.type "object"]) (hd:cd.hasDict=true) (ht:findIn K (.ref C) name=some none) (hn:s.heap.Ns1 dx m) (hw:Within m l) (hl:l.length<=10)
  (h:∀ h':Heap,h'.Ns1 dx (λ y=>if y=name then some v else m y)->Heap.SameBut dx s.heap h'->Q () { s with heap:=h',toks:=s.toks+2 }) :
  wpAny (model prog w) A (setAttr (.ref x) name v) Q E s:=by
 obtain⟨hp,g,d,t,os⟩:=s;have SF:=F.store_object;have VF:=F.store_ValueError;have hpass:refuseLoop (.ref x) "__setattr__" cd.mro=pure ():=by rw[hm,refuseLoop_ref,refuseLoop_ref];exact VF.passes _
 have sub:Looks (model prog w) hp (isInstance (.ref x) (.type "object")) true:=I.type.andThen (looks_mroIn X (by unfold mroIn;rw[hc,z0a,hm];rfl));have lm:Looks (model prog w) hp (mroOf (.ref C)) cd.mro:=(looks_clsIn X hc).andThen .now;have la:=looks_findIn (M:=model prog w) X ht;have lt:=I.type (M:=model prog w);have lc:=looks_clsIn (M:=model prog w) X hc;refine set_plain X I hs (codeAny_call_builtin SF.slot.plain SF.entry ?_);refine @check_slot (model prog w) _ _ ⟨hp,g,d,t+1,os⟩ "object.__setattr__" "object" "__setattr__" (.ref x) [.str name t,v] [] _ SF.kind SF.split sub (SF.args (.ref x) (.str name t) v) ?_;rw[osa_eq,refuse_eq];refine z00 (z00 (lt.at (z00 (lm.at ?_))));rw[hpass];refine z02 (z00 (lt.at (z00 (la.at (z00 (z02 ?_))))));dsimp only;obtain⟨hx,hcl,hn',hdi⟩:=I;obtain⟨oc,odi,oda,osl⟩:=ox;dsimp only at hcl hdi hfl hdx;subst hcl hfl hdx;unfold storeInOwnDict;refine z00 (z02 (z00 (z00 (wpAny_loadPart hx (z00 (lc.at ?_))))));rw[hd];refine z02 ?_;show wpAny _ _ (storeInDict dx (.str name t) name v) _ _ _;unfold storeInDict newKeyGuard;refine z00 (z02 (z00 (wpAny_nsSet1 hn λ h' hn' hs'=>?_)));obtain⟨oD',esD,epD,hoD,hdD,hcD⟩:=hn'.count (Within.cons name v hw);refine z00 (wpAny_lookBehind hoD (by rw[hdD];exact pastItsLine_dict (z0j hcD (by rw[z0o,sizeLine_eq];omega))) ?_);exact z02 (h h' hn' hs')
end
end EX
namespace EX
open PySem PySem.Spec L2
open PyProof.Rows hiding St
section
variable {e R dx:Addr}{A:Around}
theorem aJ {fs:List (Str×V)}{Q:Unit->Shared->Prop}(I:Inv X π σ H s) (he:H e=some (excO e C (some dx) tb)) (hd:H dx=some (.xd fs)) (x:XC X.K C R) (n:Av X.K C f) (ry:RelV y u) (hl:fs.length<=9)
  (h:∀ s',Inv X π σ (upd H dx (.xd ((f,y)::fs))) s'->Q () s'):wpAny (model X.prog X.w) A (setAttr (.ref e) f u) Q E s:=by
 obtain⟨⟨o,vs,q1,q2,q3,q4,q5,q6⟩,_⟩:=I.hok e _ he;obtain⟨mA,ns,r⟩:=I.hok dx _ hd;obtain⟨oD,g1,g2⟩:=Ig ns;obtain⟨cd,c1,c2,c3⟩:=x.cls;have ia:PySem.W.InstAt s.heap e o C (some oD):=⟨q1,q2,by unfold PySem.W.notCls;rw[q4],by rw[q3];exact g1⟩;have wi:Within mA (fs.map (·.1)):=λ g hg=>by
  have:=r g;cases q:fs.lookup g with
  | none=>
   rw[q] at this;cases z:mA g with
   | none=>exact absurd z hg
   | some w=>rw[z] at this;exact this.elim
  | some w=>
   clear this
   induction fs with
   | nil=>cases q
   | cons p rest ih=>
    obtain⟨a,b⟩:=p;simp only[List.lookup] at q;split at q
    ·rename_i ee;simp at ee;simp[ee]
    ·exact z07 _ (by
      have:∀ {l:List (Str×V)},l.lookup g=some w->g∈l.map (·.1):=λ {l}=>by
       induction l with
       | nil=>intro z;cases z
       | cons p l ih=>
        intro z;obtain⟨a,b⟩:=p;simp only[List.lookup] at z;split at z
        ·rename_i ee;simp at ee;simp[ee]
        ·exact z07 _ (ih z)
      exact this q)
 refine aH I.kIn ia q3 q4 x.sa c1 c2 c3 n ns wi (by rw[z01];omega) λ h' hn' hs'=>h _ ?_;have nx:∀ b v,H b=some v->(∀ gs,v≠.xd gs)->b≠dx:=λ b v q z w=>by rw[w,hd] at q;cases q;exact z _ rfl
 have ot:∀ b v,H b=some v->(∀ gs,v≠.xd gs)->upd H dx (.xd ((f,y)::fs)) b=some v:=λ b v q z=>by rw[Ad (nx b v q z)];exact q
 refine I.un ⟨λ b ob z nb _ _=>(hs'.2 b (Ne.symm (Ak hd nb))).trans z,λ b ob z nb _ _=>⟨ob.slots,(hs'.2 b (Ne.symm (Ak hd nb))).trans z⟩,λ b ob z nb _=>?_,λ b ob z _=>?_,λ b xs z=>ot b _ z (λ _ z=>nomatch z),λ b o' u' z=>ot b _ z (λ _ z=>nomatch z),λ b ps z=>⟨#[],by rw[ot b _ z (λ _ z=>nomatch z)];simp⟩⟩ λ b v z=>?_
 ·rw[Ad (Ne.symm (Ak hd nb))];exact nb
 ·by_cases hb:b=dx
  ·obtain⟨o',_,_,z',_⟩:=hn';rw[hb];exact⟨o',z'⟩
  ·exact⟨ob,(hs'.2 b hb).trans z⟩
 ·by_cases hb:b=dx
  ·subst hb;rw[Ae] at z;cases z;refine⟨_,hn',λ g=>?_⟩
   by_cases hg:g=f
   ·subst hg;simp[List.lookup];exact ry
   ·have:(g==f)=false:=z0p.mpr hg;simp only[List.lookup,this,hg,if_false];exact r g
  ·rw[Ad hb] at z;refine (I.hok b v z).stay (λ c w hc k=>(hs'.2 c ?_).trans k) (λ c q=>ot c _ q (λ _ z=>nomatch z)) (λ c xs q=>ot c _ q (λ _ z=>nomatch z))
   rcases hc with hc | hc
   ·rw[hc];exact hb
   ·exact nx c _ hc (λ _ z=>nomatch z)
end
section
variable {o value:Expr}{ta tv:TE}
theorem PP.imp {c c':St->Prop}(h:PP X c e) (w:∀ σ,c' σ->c σ):PP X c' e:=λ π s σ H I hc=>h π s σ H I (w σ hc)
def sXg (K:zFr) (ta tv:TE) (f:Str):TS:=λ D σ H=>tv σ H λ y H1=>ta σ H1 λ x H2=>∃ e C R tb dx fs,x=.ref e/\H2 e=some (excO e C (some dx) tb)/\H2 dx=some (.xd fs)/\XC K C R/\Av K C f/\fs.length<=9/\D.nx σ (upd H2 dx (.xd ((f,y)::fs)))
theorem aK (ha:PE X o ta) (hv:PE X value tv) (hs:swapsWith value (some (.Attribute o f pos')) pos.line X.env=pure false):PS X (.Assign [.Attribute o f pos'] value pos) (sXg X.K ta tv f):=by
 intro π s σ H D I h;refine plainObj_wpAny_Assign_Attribute (thn (hv π s σ H _ I h) λ u s1 ⟨y,H1,I1,ry,q⟩=>thn (ha π s1 σ H1 _ I1 q) λ ov s2 ⟨x,H2,I2,rx,e,C,R,tb,dx,fs,ex,ea,ed,c,n,hl,q2⟩=>?_) hs;subst ex;obtain rfl:ov=Value.ref e:=rx;exact aJ I2 ea ed c n ry hl λ s3 I3=>⟨σ,_,I3,q2⟩
end
def spE2 (K:zFr) (f g:Str) (c:V->V->Prop):Sp:=λ vs H Q _=>∃ e y z C R,vs=[.ref e,y,z]/\H e=some (excO e C none none)/\XC K C R/\(Av K C f/\Av K C g)/\c y z/\∀ dx,H dx=none->Q .non (upd (upd H dx (.xd [(g,z),(f,y)])) e (excO e C (some dx) none))
theorem U6 {K:zFr}{g:Str}{c:V->V->Prop}{cs:St->Prop}{Q:VK}{E:XK}(h:spE2 K f g c vs H Q E) (hN:N.length=3) (hc:∀ e y z,c y z->cs [some (.ref e),some y,some z]) :
  tSeq (YX (tSup K (Kr (tVar 0) (Kr (tTxt cs) tNil)))) (tSeq (sXf K (tVar 0) (tVar 1) f) (sXg K (tVar 0) (tVar 2) g)) { nx:=λ _ H'=>Q .non H',rt:=Q } (start N vs) H:=by
 obtain⟨e,y,z,C,R,rfl,he,xc,n,cy,q⟩:=h;have st:start N [.ref e,y,z]=[some (.ref e),some y,some z]:=by unfold L2.start;rw[hN];rfl
 rw[st];refine⟨_,rfl,hc e y z cy,λ t=>⟨e,t,C,R,none,none,rfl,he,xc,_,rfl,_,rfl,e,C,R,none,rfl,he,xc,n.1,λ dx hd=>?_⟩⟩;have ne:dx≠e:=λ w=>by rw[w,he] at hd;cases hd
 refine⟨_,rfl,_,rfl,e,C,R,none,dx,[(f,y)],rfl,Ae,by rw[Ad ne,Ae],xc,n.2,by simp,?_⟩;have:=q dx hd;have e2:upd (upd (upd H dx (.xd [(f,y)])) e (excO e C (some dx) none)) dx (.xd [(g,z),(f,y)])=upd (upd H dx (.xd [(g,z),(f,y)])) e (excO e C (some dx) none):=by
  funext b;unfold upd
  by_cases h1:b=dx
  ·subst h1;simp[ne]
  ·by_cases h2:b=e
   ·subst h2;simp[h1]
   ·simp[h1,h2]
 rw[e2];exact this
theorem aL {K:zFr}{g:Str}{c:V->V->Prop}{Q:VK}{E:XK}(h:spE2 K f g c vs H Q E):vs.length=3:=by
 obtain⟨e,y,z,C,R,rfl,_⟩:=h;rfl
def okII (y z:V):Prop:=okI y/\okI z
theorem e_ (e:Addr) (y z:V) (h:okII y z):Ke 1 [some (.ref e),some y,some z]/\Ke 2 [some (.ref e),some y,some z]:=by
 obtain⟨⟨n,rfl,h1⟩,⟨m,rfl,h2⟩⟩:=h;exact⟨⟨n,rfl,h1⟩,⟨m,rfl,h2⟩⟩
section
variable {R fi:Addr}{k:Nat}{g:Str}{c:V->V->Prop}
theorem aM {Q:VK}{z:V}(x:XC X.K C R) (hi:PySem.W.findIn X.K (.ref C) "__init__"=some (some (.ref fi))) (hf:PySem.W.isFn X.K (.ref fi)=true) (n:Av X.K C f) (n2:Av X.K C g)
  (F:FnOk X.prog X.w X.K X.mg X.base CX0 k fi fd ps (spE2 X.K f g c)) (hr:Room (k+1) X.A) (hb:Binds X.K fd ps []) (I:Inv X π σ H s) (r:Vals [y,z] us) (cy:c y z)
  (h:∀ e dx,H e=none->H dx=none->dx≠e->Q (.ref e) (upd (upd H dx (.xd [(g,z),(f,y)])) e (excO e C (some dx) none))):wpAny (model X.prog X.w) X.A (call (.ref C) us) (EP X π σ Q) X.xe s:=by
 have I2:=Inv.exc (C:=C) (us:=us) I;have hfe:H (s.heap.objs.size+1)=none:=I.hok.fresh (z13 _);have sp:spE2 X.K f g c [.ref (s.heap.objs.size+1),y,z] (upd H (s.heap.objs.size+1) (excO (s.heap.objs.size+1) C none none)) (λ v H2=>v=.non/\Q (.ref (s.heap.objs.size+1)) H2) E0:=by
  refine⟨_,y,z,C,R,rfl,Ae,x,⟨n,n2⟩,cy,λ dx hd=>⟨rfl,?_⟩⟩;have ne:dx≠s.heap.objs.size+1:=λ z=>by rw[z,Ae] at hd;cases hd
  rw[Ad ne] at hd;have:=h _ dx hfe hd ne;have e:upd (upd (upd H (s.heap.objs.size+1) (excO (s.heap.objs.size+1) C none none)) dx (.xd [(g,z),(f,y)])) (s.heap.objs.size+1) (excO (s.heap.objs.size+1) C (some dx) none)=upd (upd H dx (.xd [(g,z),(f,y)])) (s.heap.objs.size+1) (excO (s.heap.objs.size+1) C (some dx) none):=by
   funext b;unfold upd;split<;>rfl
  rw[e];exact this
 have r2:Vals [V.ref (s.heap.objs.size+1),y,z] (Value.ref (s.heap.objs.size+1)::us):=.cons rfl r;have hl:(Value.ref (s.heap.objs.size+1)::us).length=ps.length:=by rw[<-r2.length];exact F.len _ _ _ _ sp
 have hb':=hb { s with heap:=(s.heap.push (Fq us)).push (Gi C s.heap.objs.size) } (Value.ref (s.heap.objs.size+1)::us) I2.kIn (by rw[z0v];exact hl);rw[z0v] at hb';have hus:us.length<=sizeLine:=by rw[<-r.length];exact PV.Bw (by show 2<=_;decide)
 obtain⟨nm,qn,N,bs,bm,hdct,sn,sub,ab,col,dd,k0,k1,k2,k3,k5,hC,T⟩:=Ho I.kIn x.obj;have KI:=I.kIn;have run:=F.run _ X.stack _ _ ⟨Value.ref (s.heap.objs.size+1)::us,[]⟩ (Value.ref (s.heap.objs.size+1)::us) _ _ E0 (hr.make C us []) (I2.env0.make C us []) hb' r2 sp;obtain⟨hp,g',d,t,os⟩:=s;refine wpAny_call (Tc PySem.F.excBase_ValueError T hC (PySem.W.looks_findIn KI hi) (λ self=>PySem.W.bind_fn KI self (z0u.mp hf)) (z0N run λ r s' hq'=>?_) hus);cases r with
 | error e=>exact hq'.elim
 | ok fl=>
  cases fl with
  | ret u=>
   obtain⟨v,H',I3,rv,ev,q3⟩:=I2.after hq';subst ev;exact⟨rv,⟨V.ref (hp.objs.size+1),H',I3,rfl,q3⟩⟩
  | next=>exact False.elim hq'
  | brk=>exact False.elim hq'
  | cont=>exact False.elim hq'
end
end EX
namespace PV
open PySem PySem.Spec L2 EX
open PyProof.Rows hiding St
structure Xx2 (G:Gx) (mg:Str->Option Value) (R:Addr) (cn f g qual:Str) (st:Stmt) (ps:List Str) where
 C:Addr
 fi:Addr
 fd:FuncData
 gc:G.xcl cn=some C
 xc:XC G.K C R
 hi:PySem.W.findIn G.K (.ref C) "__init__"=some (some (.ref fi))
 hf:PySem.W.isFn G.K (.ref fi)=true
 kp:PySem.W.keepIn G.K (.ref C)=true
 na:Av G.K C f
 nb:Av G.K C g
 m:mg cn=some (.ref C)
 F:Fun G.K "__init__" qual st fi fd
 B:Binds G.K fd ps []
def two2 (mk:Str->List (Str×D)->D) (cn f g:Str) (ds:List D):Option D:=match ds with
 | [d1,d2]=>if (okID d1&&okID d2)=true then some (mk cn [(g,d2),(f,d1)]) else none
 | _=>none
def Wm (cn f g:Str) (fs:FA):FE:=λ ρ=>(fs ρ).bind (two2 .exc cn f g)
theorem YD {mk:Str->List (Str×D)->D}{g:Str}{d:D}(h:two2 mk cn f g ds=some d):∃ d1 d2 y z,ds=[d1,d2]/\flV d1=some y/\flV d2=some z/\okII y z/\d=mk cn [(g,d2),(f,d1)]:=by
 unfold two2 at h;split at h
 ·rename_i d1 d2;split at h
  ·rename_i hk;rw[z0q] at hk;obtain⟨y,hy,oy⟩:=Rk d1 hk.1;obtain⟨z,hz,oz⟩:=Rk d2 hk.2;cases h;exact⟨d1,d2,y,z,rfl,hy,hz,⟨oy,oz⟩,rfl⟩
  ·cases h
 ·cases h
section
variable {a b:Expr}{fs:FA}{np cpos:Pos}{R:Addr}{g:Str}{x:Xx2 G X.mg R cn f g qual st ps}{k:Nat}
theorem fB {d1 d2:D}{z:V}(r:RepL G H vs [d1,d2]) (hy:flV d1=some y) (hz:flV d2=some z):vs=[y,z]:=by
 obtain⟨v,ws,rfl,r1,r2⟩:=r.uncons;obtain⟨w,us,rfl,r3,r4⟩:=r2.uncons;have:=r4.nil_inv;subst this;rw[Nz r1 hy,Nz r3 hz]
theorem rZ2 (F:FnOk X.prog X.w X.K X.mg X.base CX0 k x.fi x.fd ps (spE2 X.K f g okII)) (hr:Room k' X.A) (ha:PFA X G [a,b] fs) (hle:k+1<=k':=by omega) (hG:G.K=X.K:=by rfl) (hg:Gl X cn:=by rfl) (hc:X.calm=true:=by rfl)
  (hdb:(cn==("__debug__":Str))=false:=by decide) (he:starEach [a,b] X.env=(false,eval a X.env)::starEach [b] X.env:=by rfl) (hpl:(backTo cpos (starEach [b] X.env)).any (·.1)=false:=by rfl) :
  PSZ X G (.Raise (some (.Call (.Name cn np) [a,b] [] cpos)) none pos) (retF (Wm cn f g fs)):=λ A0 He π s σ H D I ⟨ρ,o,⟨A,w⟩,e,k,kx⟩=>by
 unfold retF Wm at e;cases e1:fs ρ with
 | none=>simp[e1] at e
 | some ds=>
  rw[e1,z0a] at e;cases e2:two2 .exc cn f g ds with
  | none=>rw[e2] at e;cases e
  | some d=>
   rw[e2] at e;obtain⟨d1,d2,y,z,rfl,hy,hz,cy,rfl⟩:=YD e2;cases e;have kx:Rz X G A0 He cn [(g,d2),(f,d1)] ρ:=kx cn [(g,d2),(f,d1)] rfl;have call:wpAny (model X.prog X.w) X.A (eval (.Call (.Name cn np) [a,b] [] cpos) X.env) (λ v s₁=>∃ e C od,v=.ref e/\ExcP e C od none s₁.heap/\X.K.In s₁.heap/\excX X.K C=true/\X.xe (.ref e) s₁) X.xe s:=by
    refine z16 (GF I hg x.m ?_ hdb);have pa:=@ha A cpos π s σ H (λ vs H1=>vs=[y,z]/\OkW G A0 He A σ H1 ρ) I ⟨ρ,[d1,d2],w.ok,e1,λ vs H1 s1 r1=>⟨fB r1 hy hz,w.mono s1⟩⟩;refine z1d (h₀:=X.base) I.ok.mod.kin (hG▸x.kp) (thn pa λ us s1 ⟨vs,H1,I1,r,ev,w1⟩=>⟨I1.kIn,?_⟩) he hpl
    ·subst ev;refine thn (aM (Q:=λ v H2=>∃ e dx,v=.ref e/\H1 e=none/\H1 dx=none/\dx≠e/\H2=upd (upd H1 dx (.xd [(g,z),(f,y)])) e (excO e x.C (some dx) none)) (hG▸x.xc) (hG▸x.hi) (hG▸x.hf) (hG▸x.na) (hG▸x.nb) F (hr.mono hle) (hG▸x.B) I1 r cy λ e dx h1 h2 h3=>⟨e,dx,rfl,h1,h2,h3,rfl⟩) λ u s2 ⟨v2,H2,I2,r2,e,dx,ev,h1,h2,h3,eH⟩=>?_;subst ev eH;obtain rfl:u=Value.ref e:=r2;refine⟨e,x.C,some dx,rfl,(I2.hok e _ Ae).1,I2.kIn,hG▸x.xc.obj,?_⟩;refine kx π σ H1 _ s2 e none I2 ⟨A,w1⟩ ⟨⟨x.C,some dx,[(g,z),(f,y)],x.gc,Ae,(show upd (upd H1 dx (.xd [(g,z),(f,y)])) e (excO e x.C (some dx) none) dx=_ by rw[Ad h3];exact Ae),?_,λ d q=>by cases q;exact h2⟩,λ b u q=>?_,h1,λ T z=>nomatch z⟩
     ·simp[FsV,hy,hz]
     ·rw[Ad (Ak q h1),Ad (Ak q h2)];exact q
   show wpAny _ _ (exec (.Raise (some (.Call (.Name cn np) [a,b] [] cpos)) none pos) X.env) _ _ _;rw[arm_exec_Raise];refine z00 (wpAny_standAt (Tf (K:=X.K) (I.ok.hd hc) ?_));exact z00 (thn call λ v s1 q=>z00 (wpAny_standAt (z02 q)))
end
end PV
namespace EX
open PySem PySem.Spec L2
open PyProof.Rows hiding St
section
variable {R:Addr}
end
end EX
namespace PV
open PySem PySem.Spec L2 EX
open PyProof.Rows hiding St
section
variable {a:Expr}{fa:FE}{np cpos:Pos}{R:Addr}
end
section
variable {K:zFr}{x:Str}{f R:Addr}{kV:Value}{l:List (Str×Addr)}
def xx2 {fn gn:Str}{fi:Addr}(X:K.In h) (N:h.Ns mainGlobals mg) (a:PySem.W.nsIn K mainGlobals x=some (some (.ref f))) (g:l.lookup x=some f) (xc:XC K f R) (hi:PySem.W.findIn K (.ref f) "__init__"=some (some (.ref fi))) (i:PySem.W.isFn K (.ref fi)=true) (kp:PySem.W.keepIn K (.ref f)=true) (na:PySem.W.findIn K (.ref f) fn=some none) (nb:PySem.W.findIn K (.ref f) gn=some none)
  (lk:K.lookup fi=some ⟨oc,od,.func (PySem.W.fnOf "__init__" qual (Bv st) (Aw st) (Ab st) .none kV doc pm an cdv ct),osl⟩) (c:PySem.W.codeIn K cdv qual=true) (k:PySem.W.keepIn K (.ref fi)=true)
  (b:∀ (kV doc pm:Value) (an:Option Addr) (cdv ct:Value) (us:List Value),us.length=ps.length->bindArgs (PySem.W.fnOf "__init__" qual (Bv st) (Aw st) (Ab st) .none kV doc pm an cdv ct) ⟨us,[]⟩=pure (ps.zip us)):Xx2 (gx2 K cn C l) mg R x fn gn qual st ps:=⟨f,fi,_,g,xc,hi,i,kp,na,nb,z12 X N a,G3 lk c k,(G3 lk c k).binds b⟩
end
theorem scO {P:List Str}(a:sc.kind=.function:=by rfl) (b:sc.isCoroutine=false:=by rfl) (c:sc.isGenerator=false:=by rfl) (d:N.Nodup:=by decide +kernel) (e:N.take P.length=P:=by rfl)
  (f:∀ x∈P,sc.names.lookup x=some .local ∨sc.names.lookup x=some .cell :=by decide +kernel) (g:∀ y∈sc.names,y.2≠.free :=by decide +kernel):FnScope N P sc:=⟨a,b,c,d,e,f,g⟩
theorem pav {fs:FA}{x:Str}{px:Pos}(i:Nat) (h:PFA X G es fs) (hN:X.N[i]?=some x:=by rfl) (hv:Vis X.env.scope x:=by first | exact Or.inl rfl | exact Or.inr (Or.inl rfl) | exact Or.inr (Or.inr rfl)) (hd:(x==("__debug__":Str))=false:=by decide) (hcd:(x==("__classdict__":Str))=false:=by decide):PFA X G (.Name x px::es) (Aa (vF i) fs):=Ah (vr i hN hv hd hcd) h Mz
section
variable {K:zFr}{x:Str}{R f:Addr}{l:List (Str×Addr)}{cs:List Str}{cv:List Value}
def xcB (K:zFr) (R C:Addr):Bool:=excX K C&&decide (PySem.W.findIn K (.ref C) "__setattr__"=some (some (.builtin "object.__setattr__")))&&decide (PySem.W.findIn K (.ref C) "__getattribute__"=some (some (.builtin "BaseException.__getattribute__")))&&decide (PySem.W.findIn K (.ref C) "__getattr__"=some none) &&
 (PySem.W.clsIn K C).any (λ cd=>cd.mro==[.ref C,.ref R,.type "ValueError",.type "Exception",.type "BaseException",.type "object"]&&cd.hasDict)&&decide (PySem.W.findIn K (.ref C) "__class__"=some (some (.builtin "object.__class__")))
def xtB (K:zFr) (R:Addr) (l:List (Str×Addr)):Bool:=l.all (λ p=>xcB K R p.2)&&decide (PySem.W.specialIn K (.builtin "object.__class__") "__get__"=some (some (.builtin "getset_descriptor.__get__")))&&decide (PySem.W.takesIn K (.builtin "object.__class__")=some true)
theorem Wn (e:xtB K R l=true):∀ p∈l,XC K p.2 R/\XK2 K p.2:=λ p hp=>by
 unfold xtB at e;simp only[z0q,z0C,z0K] at e;obtain⟨⟨e1,e2⟩,e3⟩:=e;have q:=e1 p hp;unfold xcB at q;simp only[z0q,z0K] at q;obtain⟨⟨⟨⟨⟨q1,q2⟩,q3⟩,q4⟩,q5⟩,q6⟩:=q;exact⟨⟨q1,q2,q3,q4,q5⟩,⟨q6,e2,e3⟩⟩
theorem aN (e:xtB K R l=true) (g:l.lookup x=some f):XC K f R:=(N6 (P:=λ C=>XC K C R/\XK2 K C) (Wn e) g).1
theorem fC (X:K.In h) (e:xtB K R l=true):XT (gx2 K cn C l) cs R:=lO X (Wn e)
theorem Dz (X:K.In h) (e:kitB K l cv ns=true):Kit (gx2 K cn C l) cs cv ns:=by
 unfold kitB at e;simp only[z0q,List.all_cons,List.all_nil,z0C,z0u,and_true] at e;obtain⟨⟨e1,e2,e3,e4⟩,e5⟩:=e;exact eV X e1 e2 e3 e4 e5
def naB (K:zFr) (x:Str) (l:List (Str×Addr)):Bool:=l.all λ p=>decide (PySem.W.findIn K (.ref p.2) x=some none)
theorem M3 (X:K.In h) (e:naB K x l=true):∀ c C',cs.contains c=true->(gx2 K cn C l).xcl c=some C'->Av (gx2 K cn C l).K C' x:=lQ X λ p hp=>by
 unfold naB at e;rw[z0C] at e;exact z0Z (e p hp)
end
theorem iZ {α:Type}{us:List α}(h:us.length=1):∃ a,us=[a]:=by
 cases us with
 | nil=>cases h
 | cons a r=>exact⟨a,by rw[List.eq_nil_of_length_eq_zero (Nat.succ.inj h)]⟩
theorem ie {α:Type}{us:List α}(h:us.length=2):∃ a b,us=[a,b]:=by
 cases us with
 | nil=>cases h
 | cons z r=>
  obtain⟨a,rfl⟩:=iZ (Nat.succ.inj h);exact⟨z,a,rfl⟩
theorem ig {α:Type}{us:List α}(h:us.length=3):∃ a b c,us=[a,b,c]:=by
 cases us with
 | nil=>cases h
 | cons z r=>
  obtain⟨a,b,rfl⟩:=ie (Nat.succ.inj h);exact⟨z,a,b,rfl⟩
theorem ik {α:Type}{us:List α}(h:us.length=4):∃ a b c d,us=[a,b,c,d]:=by
 cases us with
 | nil=>cases h
 | cons z r=>
  obtain⟨a,b,c,rfl⟩:=ig (Nat.succ.inj h);exact⟨z,a,b,c,rfl⟩
theorem ou {α:Type}{us:List α}(h:us.length=5):∃ a b c d e,us=[a,b,c,d,e]:=by
 cases us with
 | nil=>cases h
 | cons z r=>
  obtain⟨a,b,c,d,rfl⟩:=ik (Nat.succ.inj h);exact⟨z,a,b,c,d,rfl⟩
abbrev EO:=Sum (Rho×Ef) (D×Rho)
abbrev FEz:=Rho->Ef->Option EO
def N8 (g:FEs):FEz:=λ ρ ε=>(g ρ ε).map .inl
def rtZ (o:Option Out):Option EO:=match o with
 | some (.rt d ρ')=>if noOw ρ'=true/\(excOf d).isSome=true then some (.inr (d,ρ')) else none
 | _=>none
def HS (g:FS):FEz:=λ ρ ε=>match g ρ with
 | some (.nx ρ')=>if noOw ρ'=true then some (.inl (ρ',ε)) else none
 | o=>rtZ o
def K4 (f:Str) (fk fv:FE):FEz:=λ ρ ε=>match fv ρ with
 | some v=>(match excOf v with | some _=>some (.inr (v,ρ)) | none=>(Pk f fk fv ρ ε).map .inl)
 | none=>none
def ifEZ (t:FTE) (g:FS):FEz:=λ ρ ε=>match t ρ ε with
 | some false=>some (.inl (ρ,ε))
 | some true=>rtZ (g ρ)
 | none=>none
def nilZ:FEz:=λ ρ ε=>some (.inl (ρ,ε))
def Hr (o:Option EO) (gs:FEz):Option EO:=o.bind λ o=>match o with | .inl r=>gs r.1 r.2 | .inr q=>some (.inr q)
def seqZ (g gs:FEz):FEz:=λ ρ ε=>Hr (g ρ ε) gs
def GZ (tg:FG) (b:FEz):List D->FEz
 | []=>λ ρ ε=>some (.inl (ρ,ε))
 | d::r=>λ ρ ε=>(tg d ρ).bind λ ρ'=>if noOw ρ'=true then Hr (b ρ' ε) (GZ tg b r) else none
def forZ (src:FI) (tg:FG) (b:FEz):FEz:=λ ρ ε=>(src ρ).bind λ ds=>GZ tg b ds ρ ε
def endZ:EO->Sum Ef D
 | .inl r=>.inl r.2
 | .inr q=>.inr q.1
def Jr (n np:Nat) (b:FEz) (x:Addr) (ds:List D):Option (Sum Ef D):=if ds.length+1=np then (b (Ra n x ds) []).map endZ else none
open Classical in
noncomputable def mkIZ (c:Str) (g:Addr->List D->Option (Sum Ef D)) (fs:FA):FE:=λ ρ=>(fs ρ).bind λ ds=>(g 0 ds).bind λ o=>if ∀ y,g y ds=some o then (match o with | .inl ε=>some (finE c ε) | .inr d=>if (excOf d).isSome=true then some d else none) else none
def tEZ (X:Cx) (G:Gx) (c:Str) (A0:List Addr) (He:Hp) (x:Addr) (g:FEz):TS:=λ D σ H=>∃ ρ ε o,EOkS G c A0 He x σ H ρ ε/\g ρ ε=some o/\(∀ r,o=.inl r->∀ σ' H',EOkS G c A0 He x σ' H' r.1 r.2->D.nx σ' H')/\∀ q,o=.inr q->RzO X G A0 He q.1 q.2
def PSEZ (X:Cx) (G:Gx) (c:Str) (st:Stmt) (g:FEz):Prop:=∀ ⦃A0⦄ He x,PS X st (tEZ X G c A0 He x g)
def Wq (X:Cx) (G:Gx) (c:Str) (st:List Stmt) (g:FEz):Prop:=∀ ⦃A0⦄ He x,PSs X st (tEZ X G c A0 He x g)
theorem N_ {c:Str}{x:Addr}{d:D}(o:EOk G c A0 He x A σ H ρ ε) (kx:RzO X G A0 He d ρ') (no:noOw ρ'=true) (s0:ρ'[0]?=some (.fz (.adr x))):RzO X G A H d ρ':=λ c gs z π σ' H1 H2 s e tb I ok y=>by
 obtain⟨B,w⟩:=o.unframe ok no s0;exact kx c gs z π σ' H1 H2 s e tb I ⟨B,w.w⟩ y
theorem aO {o:Option Out}{r:EO}(h:rtZ o=some r):∃ d ρ',o=some (.rt d ρ')/\noOw ρ'=true/\(excOf d).isSome=true/\r=.inr (d,ρ'):=by
 unfold rtZ at h;split at h
 ·rename_i d ρ';split at h
  ·rename_i hz;cases h;exact⟨d,ρ',rfl,hz.1,hz.2,rfl⟩
  ·cases h
 ·cases h
section
variable {c:Str}{a b k it:Expr}{fa fb fk:FE}{p2 p px:Pos}{rest:List Stmt}{g gs:FEz}{gp:FS}{ta tb:FTE}{tp:FT}
theorem PSE.z {g:FEs}(h:PSE X G c st g):PSEZ X G c st (N8 g):=λ A0 He x π s σ H D I ⟨ρ,ε,o,ok,e,k,_⟩=>by
 unfold N8 at e;cases e1:g ρ ε with
 | none=>simp[e1] at e
 | some r=>
  simp only[e1,z0w] at e;cases e;exact @h A0 He x π s σ H D I ⟨ρ,ε,r,ok,e1,k r rfl⟩
theorem Tj (h1:PSEZ X G c st g):Wq X G c [st] g:=λ A0 He x=>Gw (@h1 A0 He x)
theorem P0 (h1:PSEZ X G c st g) (h2:Wq X G c rest gs):Wq X G c (st::rest) (seqZ g gs):=λ A0 He x π s σ H D I ⟨ρ,ε,o,ok,e,k,kx⟩=>by
 refine Dr (@h1 A0 He x) (@h2 A0 He x) π s σ H D I ?_;unfold seqZ Hr at e;cases e1:g ρ ε with
 | none=>simp[e1] at e
 | some q=>
  simp only[e1,z0a] at e;refine⟨ρ,ε,q,ok,e1,λ r hr σ' H' o'=>?_,λ r hr=>?_⟩
  ·subst hr;exact⟨r.1,r.2,o,o',e,k,kx⟩
  ·subst hr;cases e;exact kx r rfl
theorem Kf (h:PSZ X G st gp) (hk:∀ ρ ρ',gp ρ=some (.nx ρ')->ρ'[0]?=ρ[0]?) (hk2:∀ ρ d ρ',gp ρ=some (.rt d ρ')->ρ'[0]?=ρ[0]?):PSEZ X G c st (HS gp):=λ A0 He x π s σ H D I ⟨ρ,ε,q,⟨A,o⟩,e,k,kx⟩=>by
 unfold HS at e;split at e
 ·rename_i ρ' e1;split at e
  ·rename_i no;cases e;exact @h A H π s σ H D I ⟨ρ,_,o.frame,e1,λ σ' H' w=>k _ rfl σ' H' (o.unframe w no (by rw[hk ρ ρ' e1];exact o.s0)),trivial⟩
  ·cases e
 ·obtain⟨d,ρ',e1,no,hd,rfl⟩:=aO e;have s0:ρ'[0]?=some (.fz (.adr x)):=by rw[hk2 ρ d ρ' e1];exact o.s0
  refine @h A H π s σ H D I ⟨ρ,_,o.frame,e1,λ v σ' H' B w r=>?_,N_ o (kx _ rfl) no s0⟩;rw[Kd r] at hd;cases hd
theorem Wr {s1:List Stmt}(ht:PTE X G c e ta) (h1:PSZs X G s1 gp) (hk2:∀ ρ d ρ',gp ρ=some (.rt d ρ')->ρ'[0]?=ρ[0]?):PSEZ X G c (.If e s1 [] pos) (ifEZ ta gp):=λ A0 He x π s σ H D I ⟨ρ,ε,q,⟨A,o⟩,e,k,kx⟩=>by
 have h1':PSs X s1 (λ D σ H=>∃ A He,tSZ X G A He gp D σ H):=λ π s σ H D I ⟨A,He,q⟩=>@h1 A He π s σ H D I q;refine VN (@ht A0 He x) h1' Lk π s σ H D I ?_;unfold ifEZ at e;split at e
 ·rename_i e1;cases e;exact⟨A,ρ,ε,_,o,e1,λ H1 s1=>iteF (k _ rfl σ H1 ⟨A,o.mono s1⟩)⟩
 ·rename_i e1;obtain⟨d,ρ',e2,no,hd,rfl⟩:=aO e;have s0:ρ'[0]?=some (.fz (.adr x)):=by rw[hk2 ρ d ρ' e2];exact o.s0
  refine⟨A,ρ,ε,_,o,e1,λ H1 s1=>iteT ⟨A,H1,ρ,_,(o.mono s1).frame,e2,λ v σ' H' B w r=>?_,N_ (o.mono s1) (kx _ rfl) no s0⟩⟩;rw[Kd r] at hd;cases hd
 ·cases e
theorem P_ {x:Str}{ap:Pos}(hu:X.A.units+1<cLine) (hcl:∀ c C,G.cl c=some C->Cls X.K C/\Av X.K C f) (hv:PE X (.Name x px) (tVar 0)) (ha:PF X G a fa) (hb:PFZ X G b fb) (hbase:attributeBase (.Name x px) f X.env (eval (.Name x px) X.env)=eval (.Name x px) X.env:=by rfl)
  (hs:swapsWith b (some (.Subscript (.Attribute (.Name x px) f ap) a spos)) pos.line X.env=pure false:=by rfl):PSEZ X G c (.Assign [.Subscript (.Attribute (.Name x px) f ap) a spos] b pos) (K4 f fa fb):=λ A0 He y π s σ H D I ⟨ρ,ε,r,⟨A,o⟩,e,k,kx⟩=>by
 refine Ih hu (Ue hv hbase) (@ha A) (@hb A H) hs π s σ H D I ?_;unfold K4 at e;split at e
 ·rename_i v e1;split at e
  ·rename_i w e2;cases e;refine⟨ρ,v,A,o.frameW,e1,λ u H1 s1 r1=>?_,N_ o (kx _ rfl) o.no o.s0⟩;rw[Kd r1] at e2;cases e2
  ·rename_i e2;unfold Pk at e;cases e3:fa ρ with
   | none=>simp[e1,e3] at e
   | some kd=>
    simp only[e1,e3,z0a] at e;split at e
    ·rename_i d e4;cases e5:Df d kd v with
     | none=>simp[e5] at e
     | some d'=>
      simp only[e5,z0w] at e;cases e;unfold Df at e5;split at e5
      ·rename_i kds;cases e6:keyD kd with
       | none=>simp[e6] at e5
       | some q=>
        simp only[e6,z0a] at e5;split at e5
        ·rename_i hz;cases e5;refine⟨ρ,v,A,o.frameW,e1,λ u H1 s1 r1=>?_,λ c gs z=>by rw[e2] at z;cases z⟩;have o1:=o.mono s1;obtain⟨C,dx,fs,as,h1,h2,h3⟩:=o1.ob;obtain⟨p,q1,q2,q3,q4,q5,kvs,t1,t2,t3⟩:=h3.get e4;refine⟨_,o.at0,y,C,dx,fs,_,rfl,h1,(hcl _ _ h2).1,(hcl _ _ h2).2,q1,ρ,kd,o1.w.ok,e3,λ yv H2 s2 r2=>?_⟩;have ek:=Gn r2 e6;subst ek;have o2:=o1.mono s2;obtain⟨C',dx',fs',as',g1,g2,g3⟩:=o2.ob;rw[s2 _ _ h1] at g1;cases g1;have hl:kvs.length<sizeLine:=by
          have:=congrArg List.length t2;rw[z01,z01] at this;omega
         refine⟨p,_,rfl,DPut.k (s2 _ _ t1) hl,?_⟩;have pk:=Mj (k:=q) (r1.mono (Aq s2)) t2 (t3.mono (Aq s2));have sx:JB p H2 (upd H2 p (.dK (putK kvs q u))):=λ b w hb hw=>by rw[Ad hb];exact hw
         refine k _ rfl _ _ ⟨A,o2.wr q3 q4 sx (by rw[Ae];exact Nt.dK) ⟨C,dx,fs,as',by rw[Ad (Ne.symm q5)];exact s2 _ _ h1,g2,?_⟩⟩;refine g3.wr e4 q1 sx q3 ⟨_,Ae,pk.1,?_⟩;rw[Cm q3];exact pk.2
        ·cases e5
      ·cases e5
    ·cases e
 ·cases e
theorem RzO.base' {d:D}(h:RzO X G A0 He d ρ) (s:Same He Hf) (l0:∀ a∈A0,He a≠none):RzO X G A0 Hf d ρ:=λ c gs z π σ H1 H2 s2 e tb I ⟨B,w⟩ y=>h c gs z π σ H1 H2 s2 e tb I ⟨B,w.base s l0⟩ y
theorem Tn {gb:FEz}(hp:PassesOwn (model X.prog X.w) X.A X.env X.xe) (hc:X.calm=true) (hi:PFI X G false tg it src) (hg:PGD X G tg fg) (hk:∀ d ρ ρ',fg d ρ=some ρ'->ρ'[0]?=ρ[0]?) (hb:Wq X G c body gb)
  (hs:∀ x,foldedSetIterable it X.env x=pure x:=by intro _;rfl):PSEZ X G c (.For tg it body [] pos) (forZ src fg gb):=λ A0 He x π s σ H D I ⟨ρ,ε,r,⟨A,o⟩,e,k,kx⟩=>by
 cases e1:src ρ with
 | none=>simp[forZ,e1] at e
 | some ds=>
  have e':GZ fg gb ds ρ ε=some r:=by simpa [forZ,e1] using e
  have hb':PSs X body (λ D σ H=>∃ A0 He x,tEZ X G c A0 He x gb D σ H):=λ π s σ H D I ⟨A0,He,x,q⟩=>@hb A0 He x π s σ H D I q;have hg':PG X tg (λ v σ H Q=>∃ A0 He,tGD G A0 He fg v σ H Q):=λ π s σ H v u Q I r ⟨A0,He,q⟩=>@hg A0 He π s σ H v u Q I r q;refine QM hp hc (@hi A) hg' hb' hs π s σ H D I ⟨ρ,ds,o.w.ok,e1,λ J H1 s1 sr=>?_⟩;have o1:=o.mono s1;obtain⟨sHe,w2⟩:=o1.w.here;generalize hHf:hid (A.filter λ a=>decide (a∉A0)) H1=Hf at sHe w2;have k2:∀ q,r=.inl q->∀ σ' H',EOkS G c A0 Hf x σ' H' q.1 q.2->D.nx σ' H':=λ q hq σ' H' ⟨B,z⟩=>k q hq σ' H' ⟨B,z.w.base sHe o.w.l0,z.no,z.xA,z.x0,z.s0,z.ob⟩;have kx2:∀ q,r=.inr q->RzO X G A0 Hf q.1 q.2:=λ q hq=>(kx q hq).base' sHe o.w.l0;refine⟨λ i m σ' H'=>m=ds.length-i/\i<=ds.length/\∃ ρ' ε',EOkS G c A0 Hf x σ' H' ρ' ε'/\GZ fg gb (ds.drop i) ρ' ε'=some r,⟨ds.length,by simp,z0M _,ρ,ε,⟨A,w2,o1.no,o1.xA,o1.x0,o1.s0,o1.ob⟩,by simpa using e'⟩,?_⟩;rintro i m σ3 H3 ⟨rfl,hil,ρ3,ε3,⟨B,o3⟩,e3⟩;have pl:Same (hid A H1) (hid B H3):=by rw[<-hHf] at o3;exact OkW.plain o.w.sub o3.w
  by_cases hlt:i<ds.length
  ·right;have hd:ds[i]?=some ds[i]:=by simp[hlt]
   have ed:ds.drop i=ds[i]::ds.drop (i+1):=z1k hlt;rw[ed] at e3;unfold GZ at e3;refine⟨sr.go i H3 (pl.trans Ai) hlt,λ σ' H'=>∃ ρ' ε',EOkS G c A0 Hf x σ' H' ρ' ε'/\GZ fg gb (ds.drop (i+1)) ρ' ε'=some r,λ σ' H' q=>⟨ds.length-(i+1),by omega,rfl,hlt,q⟩,λ y H' yy=>?_⟩;obtain⟨sy,rx⟩:=sr.yld i H3 y H' _ (pl.trans Ai) hd yy;have o4:=o3.mono sy;cases e4:fg ds[i] ρ3 with
   | none=>simp[e4] at e3
   | some ρ4=>
    simp only[e4,z0a] at e3;split at e3
    ·rename_i no;refine⟨B,H',B,ρ3,ds[i],ρ4,o4.frameW,rx B o3.w.ok.live pl,e4,λ σ5 H5 ok5=>?_⟩;unfold Hr at e3;cases e5:gb ρ4 ε3 with
     | none=>simp[e5] at e3
     | some q=>
      simp only[e5,z0a] at e3;refine⟨A0,Hf,x,ρ4,ε3,q,o4.unframe ok5 no (by rw[hk _ _ _ e4];exact o4.s0),e5,λ u hu σ' H' o'=>?_,λ u hu=>?_⟩
      ·subst hu;exact⟨u.1,u.2,o',e3⟩
      ·subst hu;cases e3;exact kx2 u rfl
    ·cases e3
  ·left;have ei:i=ds.length:=by omega
   subst ei;rw[List.drop_length] at e3;cases e3;exact⟨sr.stop _ H3 (pl.trans Ai) (z03 _),k2 _ rfl σ3 H3 ⟨B,o3⟩⟩
end
def tEIZ (X:Cx) (G:Gx) (c:Str) (A0:List Addr) (He:Hp) (x:Addr) (g:FEz):TS:=λ D σ H=>∃ ρ ε o,EOkS G c A0 He x σ H ρ ε/\g ρ ε=some o/\(∀ r,o=.inl r->∀ σ' H',Same He H'->Rep G (hid A0 H') (.ref x) (finE c r.2)->D.nx σ' H')/\∀ q,o=.inr q->RzO X G A0 He q.1 q.2
def PSIZ (X:Cx) (G:Gx) (c:Str) (st:List Stmt) (g:FEz):Prop:=∀ ⦃A0⦄ He x,PSs X st (tEIZ X G c A0 He x g)
theorem aP {c:Str}:PSIZ X G c [] nilZ:=λ A0 He x π s σ H D I ⟨ρ,ε,r,⟨A,o⟩,e,k,_⟩=>by
 cases e;obtain⟨H',I',q1,q2⟩:=o.whole I;exact Lk π s σ H' D I' (k _ rfl σ H' q1 q2)
theorem Dp {c:Str}{rest:List Stmt}{g gs:FEz}(h1:PSEZ X G c st g) (h2:PSIZ X G c rest gs):PSIZ X G c (st::rest) (seqZ g gs):=λ A0 He x π s σ H D I ⟨ρ,ε,o,ok,e,k,kx⟩=>by
 refine Dr (@h1 A0 He x) (@h2 A0 He x) π s σ H D I ?_;unfold seqZ Hr at e;cases e1:g ρ ε with
 | none=>simp[e1] at e
 | some q=>
  simp only[e1,z0a] at e;refine⟨ρ,ε,q,ok,e1,λ r hr σ' H' o'=>?_,λ r hr=>?_⟩
  ·subst hr;exact⟨r.1,r.2,o,o',e,k,kx⟩
  ·subst hr;cases e;exact kx r rfl
def spIZ (G:Gx) (c:Str) (g:Addr->List D->Option (Sum Ef D)):Sp:=λ vs H Q E=>∃ A x vs' ds o C dx,vs=.ref x::vs'/\(∀ a∈A,Nt (H a))/\x∉A/\H x=some (.ins C dx [])/\G.cl c=some C/\RepL G (hid (x::A) H) vs' ds/\g x ds=some o ∧
 (∀ ε,o=.inl ε->∀ H',JB x H H'->Rep G (hid A H') (.ref x) (finE c ε)->Q .non H')/\∀ d,o=.inr d->XW G (hid [x] H) d E
theorem fD {base:Heap}{f:Addr}{A:Around}{E:XK}{d:D}(h:XW G He d E) :
  RzO (cxOf (CX1 P w) P w G.K mg base N qual scope f cd A outer s H E) G A0 He d ρ:=λ c gs z π σ H1 H2 s2 e tb I ⟨A1,ok⟩ x=>by
 show wpAny _ _ (leaving _ _) _ _ _;unfold leaving;refine z00 (Nv (X:=cxOf (CX1 P w) P w G.K mg base N qual scope f cd A outer s H E) rfl rfl I (x.base ok.same) λ T H' s' I' x'=>?_);exact⟨e,H',rfl,I'.os,I'.bare,I'.base,I'.hok,h c gs z e T H' x'⟩
theorem o7 {base:Heap}{x c:Str}{f:Addr}{k:Nat}{b:FEz}(F:Fun G.K x qual st f fd) (S:FnScope N ps (Ab st)) (hl:ps.length<=N.length)
  (hb:∀ (cdv:Value) (A:Around) (outer:List Env) (s:Shared) (H:Hp) (E:XK),Room k (A.deeper (envOfC qual (Ab st) s.heap.objs.size f cdv))->PSIZ (cxOf (CX1 P w) P w G.K mg base N qual (Ab st) f cdv A outer s H E) G c (Aw st) b) :
  FnOk P w G.K mg base (CX1 P w) (k+1) f fd ps (spIZ G c (Jr N.length ps.length b)):=by
 obtain⟨oc,od,kV,doc,pm,an,cdv,ct,osl,rfl,lk,hcd⟩:=F.ex;refine O_ lk hcd S (λ vs H Q E h=>?_) (λ A outer s H vs Q E hr h=>?_)
 ·obtain⟨A,x,vs',ds,o,C,dx,rfl,lv,hx,hH,hc,r,e,_⟩:=h;unfold Jr at e;split at e
  ·rename_i hz;rw[z0o,r.1];exact hz
  ·cases e
 ·obtain⟨A1,x,vs',ds,o,C,dx,rfl,lv,hx,hH,hc,r,e,k,kx⟩:=h;unfold Jr at e;split at e
  ·rename_i hz;have lv':∀ a∈x::A1,Nt (H a):=λ a ha=>by
    rcases z06.mp ha with z | z
    ·rw[z,hH];exact Nt.ins
    ·exact lv a z
   have r':RepL G (hid (x::A1) H) (.ref x::vs') (.adr x::ds):=.cons (.adr x) r;obtain⟨B,w⟩:=Hl (N:=N) lv' r' (by rw[z0o,r.1];omega);cases e1:b (Ra N.length x ds) [] with
   | none=>simp[e1] at e
   | some q=>
    simp only[e1,z0w] at e;cases e;have hzz:=hb cdv A outer s H E hr;refine⟨_,@hzz A1 (hid [x] H) x,Ra N.length x ds,[],q,?_,e1,λ u hu σ' H' s' rv=>?_,λ u hu=>?_⟩
    ·refine⟨B,⟨Ai,λ a ha=>w.sub a (z07 _ ha),λ a ha=>?_,λ a ha=>?_,w.ok,λ i d a h _=>absurd h (CK (JS _ _) i d),λ y d _ h=>absurd h (CK (JS _ _) 0 d)⟩,JS _ _,w.sub x z0k,hx,rfl,C,dx,[],[],hH,hc,.nil⟩
     ·rcases w.fr a ha with z | z
      ·rcases z06.mp z with z | z
       ·right;unfold hid;rw[if_pos (by simp[z])]
       ·exact .inl z
      ·right;unfold hid;split
       ·rfl
       ·exact z
     ·rw[Ao (λ z=>hx (by simp at z;rw[<-z];exact ha))];exact (lv a ha).ne
    ·subst hu;exact k _ rfl H' (λ b o hb ho=>s' b o (by rw[Ao (by simpa using hb)];exact ho)) rv
    ·subst hu;exact fD (kx _ rfl)
  ·cases e
section
variable {k:Nat}{f:Addr}{x:Str}{p:Pos}{o:Expr}{ta:TE}{t:TA}
theorem YF {Q:VK}(M:Mk X.K C f) (F:FnOk X.prog X.w X.K X.mg X.base (CX1 X.prog X.w) k f fd ps sp) (hr:Room (k+1) X.A) (hb:Binds X.K fd ps [])
  (I:Inv X π σ H s) (r:Vals vs us)
  (h:∀ x dx,H x=none->H dx=none->dx≠x->sp (.ref x::vs) (upd (upd H dx (.own x)) x (.ins C dx [])) (λ v H2=>v=.non/\Q (.ref x) H2) (TX X σ)) :
  wpAny (model X.prog X.w) X.A (call (.ref C) us) (EP X π σ Q) X.xe s:=by
 have hq:=h (s.heap.objs.size+1) s.heap.objs.size (I.hok.fresh (z13 _)) (I.hok.fresh (z03 _)) (z0e (Nat.lt_succ_self _));have I2:=Inv.made (C:=C) I;have r2:Vals (V.ref (s.heap.objs.size+1)::vs) (Value.ref (s.heap.objs.size+1)::us):=.cons rfl r;have hl:(Value.ref (s.heap.objs.size+1)::us).length=ps.length:=by
  have e:=r2.length;rw[F.len _ _ _ _ hq] at e;exact e.symm
 have hb':=hb _ (Value.ref (s.heap.objs.size+1)::us) I2.kIn (by rw[z0v];exact hl);rw[z0v] at hb';refine wpAny_call (Yi (f:=f) I.kIn M.makes M.init (z0u.mp M.fn) (z0N (F.run _ X.stack _ _ ⟨Value.ref (s.heap.objs.size+1)::us,[]⟩ (Value.ref (s.heap.objs.size+1)::us) _ _ _ (hr.make C us [])
  (I2.env0.make C us []) hb' r2 hq) λ r s' hq'=>?_))
 cases r with
 | error v=>
  obtain⟨e,H',rfl,q1,q2,q3,q4,q5⟩:=hq';exact q5 π s' (I2.call' q1 q3 q4 q2 λ _ z=>nomatch z)
 | ok fl=>
  cases fl with
  | ret u=>
   obtain⟨v,H',I3,rv,ev,q3⟩:=I2.after hq';subst ev;exact⟨rv,⟨V.ref (s.heap.objs.size+1),H',I3,rfl,q3⟩⟩
  | next=>exact False.elim hq'
  | brk=>exact False.elim hq'
  | cont=>exact False.elim hq'
def lU (X:Cx) (C:Addr) (sp:Sp) (t:TA):TE:=λ σ H Q=>t σ H λ vs H1=>∀ x dx,H1 x=none->H1 dx=none->dx≠x->sp (.ref x::vs) (upd (upd H1 dx (.own x)) x (.ins C dx [])) (λ v H2=>v=.non/\Q (.ref x) H2) (TX X σ)
theorem aQ (M:Mk X.K C f) (F:FnOk X.prog X.w X.K X.mg X.base (CX1 X.prog X.w) k f fd ps sp) (hr:Room (k+1) X.A) (hg:Gl X x) (hm:X.mg x=some (.ref C)) (hb:Binds X.K fd ps [])
  (ha:PA X (e::es) t) (hdb:(x==("__debug__":Str))=false:=by decide) (he:starEach (e::es) X.env=(false,eval e X.env)::starEach es X.env:=by rfl) (hpl:(backTo pos (starEach es X.env)).any (·.1)=false:=by rfl) :
  PE X (.Call (.Name x p) (e::es) [] pos) (lU X C sp t):=by
 intro π s σ H Q I h;refine z16 (GF I hg hm ?_ hdb);refine z1d (h₀:=X.base) I.ok.mod.kin M.kp (thn (ha pos π s σ H _ I h) λ us s1 ⟨vs,H1,I1,r,q⟩=>⟨I1.kIn,?_⟩) he hpl;exact YF M F hr hb I1 r q
end
section
variable {a b:Expr}{fa fb:FE}{p2 p:Pos}{fs:FA}
theorem fG {k:Nat}{f:Addr}{g:Addr->List D->Option (Sum Ef D)}{x:Str}(hcl:G.cl cn=some C) (M:Mk X.K C f) (F:FnOk X.prog X.w X.K X.mg X.base (CX1 X.prog X.w) k f fd ps (spIZ G cn g)) (hr:Room (k+1) X.A) (hg:Gl X x) (hm:X.mg x=some (.ref C)) (hb:Binds X.K fd ps [])
  (ha:PFA X G (a::es) fs) (hdb:(x==("__debug__":Str))=false:=by decide) (he:starEach (a::es) X.env=(false,eval a X.env)::starEach es X.env:=by rfl) (hpl:(backTo pos (starEach es X.env)).any (·.1)=false:=by rfl) :
  PFZ X G (.Call (.Name x p) (a::es) [] pos) (mkIZ cn g fs):=λ A0 He=>λ π s σ H Q I ⟨ρ,d,A,w,e,k,kx⟩=>by
 refine aQ M F hr hg hm hb (@ha A) hdb he hpl π s σ H Q I ?_;unfold mkIZ at e;cases e1:fs ρ with
 | none=>simp[e1] at e
 | some ds=>
  cases e3:g 0 ds with
  | none=>simp[e1,e3] at e
  | some o=>
   simp only[e1,e3,z0a] at e;split at e
   ·rename_i hall;refine⟨ρ,ds,w.ok,e1,λ vs H1 s1 rv=>λ y dx hy hdx hne=>?_⟩;have sm:Same H1 (upd (upd H1 dx (.own y)) y (.ins C dx [])):=(Ay hdx _).trans (Ay (by rw[Ad (Ne.symm hne)];exact hy) _);have lv1:=(w.ok.mono s1).live;refine⟨A,y,vs,ds,o,C,dx,rfl,λ b hb=>?_,λ z=>(lv1 y z).ne hy,Ae,hcl,rv.mono (Ij sm hy),hall y,λ ε hε H' sx rv'=>?_,λ d' hd'=>?_⟩
    ·exact (lv1 b hb).mono λ u e=>sm _ _ e
    ·subst hε;cases e;refine⟨rfl,k _ H' (λ b u hb=>sx b u (λ z=>?_) (sm _ _ (s1 _ _ hb))) rv'⟩;have:=s1 _ _ hb;rw[z,hy] at this;cases this
    ·subst hd';simp only[] at e;split at e
     ·cases e;intro c gs z e' T H' x';refine iW (w.mono s1) kx c gs z e' T H' (x'.base λ b u hb=>?_);rw[Ao (λ z=>by simp at z;rw[z,hy] at hb;cases hb)];exact sm _ _ hb
     ·cases e
   ·cases e
end
theorem OD {f:FE}(ρ ρ':Rho) (h:Dg f ρ=some (.nx ρ')):ρ'[0]?=ρ[0]?:=by
 unfold Dg at h;cases e:f ρ with
 | none=>simp[e] at h
 | some d=>
  simp only[e,z0w] at h;split at h
  ·cases h
  ·cases h;rfl
theorem Kg {f:FE}(ρ:Rho) (d:D) (ρ':Rho) (h:Dg f ρ=some (.rt d ρ')):ρ'[0]?=ρ[0]?:=by
 unfold Dg at h;cases e:f ρ with
 | none=>simp[e] at h
 | some d=>
  simp only[e,z0w] at h;split at h
  ·cases h;rfl
  ·cases h
theorem aR {f:FE}(ρ:Rho) (d:D) (ρ':Rho) (h:retF f ρ=some (.rt d ρ')):ρ'[0]?=ρ[0]?:=by
 unfold retF at h;cases e:f ρ with
 | none=>simp[e] at h
 | some d=>
  simp only[e,z0w] at h;cases h;rfl
section
open PySem PySem.Spec L2
end
open PySem PySem.Spec L2 EX
open PyProof.Rows hiding St
def isoD (c:Str) (b:Bool):D->Option D
 | .ob c' _=>if c'=c then some (.bl b) else none
 | _=>none
section
variable {a sp k v:Expr}{fa fk fv:FE}{p:Pos}{cv:List Value}{c:Str}{b:Bool}
theorem aU (hG:G.K=X.K) (hc:G.cl c=some C) (cl:Cls G.K C) (k2:XK2 G.K C) (hm:PySem.W.mroIn G.K C (.type "object")=some true) (kt:PySem.W.kitAny G.K (.ref C) cv=some b):Dn X (.builtin "isinstance") (λ xs H Q=>∃ x v A gs,xs=[x,v]/\Rep G (hid A H) x (.ob c gs)/\SpecV H v cv/\Q (.bl b) H):=by
 rintro π s σ H xs us Q I r ⟨x,v,A,gs,rfl,rp,sv,q⟩;cases r with
 | cons rx r=>
  cases r with
  | cons rv r=>
   cases r;have fin:∀ tk,EP X π σ Q (.bool b) { s with toks:=tk }:=λ tk=>⟨.bl b,H,I.tok _,rfl,q⟩;cases rp with
   | @ob y dx C' c' fs gs hC h1 l1 r2=>
    rw[hc] at hC;cases hC;obtain rfl:=(show _=Value.ref y from rx);obtain⟨mA,J,_⟩:=Ln I.hok (Ai _ _ h1);obtain⟨od,Ia,_⟩:=J.look;exact Io I (PySem.W.kitx_own (hG▸cl.get "__class__") (hG▸cl.hd) (hG▸k2.ha) (hG▸k2.hn) (hG▸k2.htk) (hG▸hm)) Ia (hG▸kt) (λ z=>nomatch z) sv rv fin
theorem aV {x:Str}(hG:G.K=X.K) (hc:G.cl c=some C) (cl:Cls G.K C) (k2:XK2 G.K C) (hmr:PySem.W.mroIn G.K C (.type "object")=some true) (kt:PySem.W.kitAny G.K (.ref C) cv=some b) (hg:Gl X x) (hm:X.mg x=none) (hv:bootBuiltins x=some (.builtin "isinstance")) (ha:PF X G a fa) (hsp:PE X sp (Th cv))
  (hn:x≠"__name__":=by decide) (hdb:(x==("__debug__":Str))=false:=by decide) (he:starEach [a,sp] X.env=(false,eval a X.env)::starEach [sp] X.env:=by rfl) (he2:starEach [sp] X.env=(false,eval sp X.env)::starEach [] X.env:=by rfl) :
  PF X G (.Call (.Name x p) [a,sp] [] pos) (uF (isoD c b) fa):=λ A=>By (JW (aU hG hc cl k2 hmr kt) hg hm hv (Bh (@ha A) (Bh hsp Dt he2) he) hn hdb he (by rw[he2];rfl)) λ σ H Q ⟨ρ,d,o,e,k⟩=>by
 unfold uF at e;cases e1:fa ρ with
 | none=>simp[e1] at e
 | some dx=>
  rw[e1] at e;have e2:isoD c b dx=some d:=e;unfold isoD at e2;split at e2
  ·rename_i c' gs;split at e2
   ·rename_i hcc;subst hcc;cases e2;exact⟨ρ,_,o,e1,λ v H1 s1 r1=>λ w H2 s2 sv=>⟨v,w,A,gs,rfl,r1.mono (Aq s2),sv,k _ H2 (s1.trans s2) (.bl b)⟩⟩
   ·cases e2
  ·cases e2
end
section
variable {a ob:Expr}{fs:FA}{fo:FE}{p:Pos}
theorem mA {k:Nat}{c:Str}{d:Mx X.K C m qual st ps}{pl:Sem Bool}(hc:G.cl c=some C) (cl:Cls X.K C) (F:FnOk X.prog X.w X.K X.mg X.base CX0 k d.f d.fd ps (spD G g)) (hr:Room k' X.A) (ho:PF X G ob fo) (ha:PFA X G (a::es) fs) (hle:k<=k':=by omega)
  (hst:starEach (a::es) X.env=(false,eval a X.env)::starEach es X.env:=by rfl) (hpl:(backTo pos (starEach es X.env)).any (·.1)=false:=by rfl)
  (ht:eval (.Call (.Attribute ob m apos) (a::es) [] pos) X.env=(do
   let ov <-eval ob X.env
   standAt apos.atName
   let (f,first) <-holding [ov] (getMethod ov m pl)
   callWith pos f first (backTo pos (starEach (a::es) X.env)) (backToKw pos (keywordEach [] X.env))):=by rfl) :
  PF X G (.Call (.Attribute ob m apos) (a::es) [] pos) (TY c m g fo fs):=λ A=>By (cH (@ho A) cl d.me F (hr.mono hle) d.B .nil Yx (@ha A) hst hpl ht) λ σ H Q ⟨ρ,dd,o,e,k⟩=>by
 unfold TY at e;cases e0:fo ρ with
 | none=>simp[e0] at e
 | some oo=>
  rw[e0] at e;have e':(if Jq c m oo=true then (fs ρ).bind λ ds=>g (oo::ds) else none)=some dd:=e;split at e'
  ·rename_i hob;cases e1:fs ρ with
   | none=>simp[e1] at e'
   | some ds=>
    have e2:g (oo::ds)=some dd:=by simpa [e1] using e'
    refine⟨ρ,oo,o,e0,λ v H1 s1 r1=>?_⟩;cases oo with
    | ob c' gs=>
     simp only[Jq,z0q,z0u,Option.isNone_iff_eq_none] at hob;obtain⟨rfl,hn⟩:=hob;cases r1 with
     | ob hC h1 l1 r2=>
      rw[hc] at hC;cases hC;refine⟨_,_,_,rfl,Ai _ _ h1,X_ l1 hn,ρ,ds,o.mono s1,e1,λ vs H2 s2 r3=>?_⟩;refine⟨A,.ob c' gs::ds,dd,((o.mono s1).mono s2).live,?_,e2,λ v H3 s3 r4=>k v H3 ((s1.trans s2).trans s3) r4⟩;rw[z0v];exact .cons (Rep.mono (.ob hc h1 l1 r2) (Aq s2)) r3
    | _=>simp[Jq] at hob
  ·cases e'
theorem lV {K:zFr}{l:List (Str×Addr)}(X:K.In h) (h1:PySem.W.findIn K (.ref C) "__class__"=some (some (.builtin "object.__class__"))) (h2:PySem.W.specialIn K (.builtin "object.__class__") "__get__"=some (some (.builtin "getset_descriptor.__get__"))) (h3:PySem.W.takesIn K (.builtin "object.__class__")=some true):XK2 (gx2 K cn C l).K C:=⟨h1,h2,h3⟩
theorem lW {K:zFr}{l:List (Str×Addr)}(X:K.In h) (h1:PySem.W.mroIn K C (.type "object")=some true):PySem.W.mroIn (gx2 K cn C l).K C (.type "object")=some true:=h1
theorem lX {K:zFr}{l:List (Str×Addr)}(X:K.In h) (h1:PySem.W.kitAny K (.ref C) [.ref C]=some true):PySem.W.kitAny (gx2 K cn C l).K (.ref C) [.ref C]=some true:=h1
end
abbrev Mu:=List (Addr×D)
def ksM (μ:Mu):List Addr:=μ.map (·.1)
abbrev KM:=Out->Mu->Prop
abbrev FM:=Rho->Mu->KM->Prop
structure OkM (G:Gx) (A0:List Addr) (He Hb:Hp) (A:List Addr) (σ:St) (H:Hp) (ρ:Rho) (μ:Mu):Prop where
 w:OkW G (ksM μ++A0) Hb A σ H ρ
 sb:Same He Hb
 l0:∀ a∈A0,He a≠none
 nf:∀ a∈ksM μ,He a=none
 nd:(ksM μ).Nodup
 top:∀ p∈μ,Top G A H p.1 p.2
def OkMS (G:Gx) (A0:List Addr) (He:Hp) (σ:St) (H:Hp) (ρ:Rho) (μ:Mu):Prop:=∃ A Hb,OkM G A0 He Hb A σ H ρ μ
theorem Top.keep {A':List Addr}{d:D}(t:Top G A H a d) (e:H' a=H a) (s:Same (hid A H) (hid A' H')):Top G A' H' a d:=by
 cases d with
 | lst ds=>obtain⟨xs,a1,a2⟩:=t;exact⟨xs,by rw[e];exact a1,a2.mono s⟩
 | dk ds=>obtain⟨xs,a1,a2,a3⟩:=t;exact⟨xs,by rw[e];exact a1,a2,a3.mono s⟩
 | dt ds=>obtain⟨xs,a1,a2,a3⟩:=t;exact⟨xs,by rw[e];exact a1,a2,a3.mono s⟩
 | ob c gs=>obtain⟨C,dx,xs,a1,a2,a3⟩:=t;exact⟨C,dx,xs,by rw[e];exact a1,a2,a3.mono s⟩
 | _=>exact t.elim
theorem Eo {μ:Mu}{p:Addr×D}(h:p∈μ):p.1∈ksM μ:=z0b.mpr ⟨p,h,rfl⟩
theorem il {μ:Mu}(h:a∈ksM μ):∃ d,(a,d)∈μ:=by
 obtain⟨p,h1,h2⟩:=z0b.mp h;exact⟨p.2,by rw[<-h2];exact h1⟩
theorem lookup_mem {μ:Mu}{d:D}(h:μ.lookup a=some d):(a,d)∈μ:=by
 induction μ with
 | nil=>cases h
 | cons p r ih=>
  rw[z09] at h;cases q:(a==p.1) with
  | true=>
   rw[q] at h;cases h;rw[eq_of_beq q];exact z0k
  | false=>
   rw[q] at h;exact z07 _ (ih h)
def putA (a:Addr) (c:D) (μ:Mu):Mu:=μ.map λ p=>if p.1=a then (a,c) else p
theorem U7 (a:Addr) (c:D) (μ:Mu):ksM (putA a c μ)=ksM μ:=by
 unfold ksM putA;rw[z0i];refine List.map_congr_left λ p _=>?_;show (if p.1=a then (a,c) else p).1=p.1;split
 ·rename_i h;exact h.symm
 ·rfl
section
variable {Hb:Hp}{μ:Mu}
theorem OkM.mono (o:OkM G A0 He Hb A σ H ρ μ) (s:Same H H'):OkM G A0 He Hb A σ H' ρ μ:=
 ⟨o.w.mono s,o.sb,o.l0,o.nf,o.nd,λ p h=>(o.top p h).mono s⟩
theorem OkM.set {v:V}{d:D}(o:OkM G A0 He Hb A σ H ρ μ) (r:Rep G (hid A H) v d) (i:Nat):OkM G A0 He Hb A (σ.set i (some v)) H (ρ.set i (.fz d)) μ:=
 ⟨o.w.set r i,o.sb,o.l0,o.nf,o.nd,o.top⟩
theorem OkM.inA (o:OkM G A0 He Hb A σ H ρ μ) {a:Addr}(h:a∈ksM μ):a∈A:=o.w.sub a (z0F _ h)
theorem OkM.n0 (o:OkM G A0 He Hb A σ H ρ μ) {a:Addr}(h:a∈ksM μ):a∉A0:=λ z=>o.l0 a z (o.nf a h)
theorem OkM.same (o:OkM G A0 He Hb A σ H ρ μ):Same He H:=o.sb.trans o.w.same
theorem OkM.fr (o:OkM G A0 He Hb A σ H ρ μ) {a:Addr}(h:a∈A):a∈A0∨He a=none:=by
 rcases o.w.fr a h with z | z
 ·rcases z0y.mp z with z | z
  ·exact .inr (o.nf a z)
  ·exact .inl z
 ·exact .inr (o.sb.free z)
theorem OkM.lift (o:OkM G A0 He Hb A σ H ρ μ):∃ Hf,OkW G (ksM μ++A0) Hf A σ H ρ/\∀ A' σ' H' ρ',OkW G (ksM μ++A0) Hf A' σ' H' ρ'->OkM G A0 He Hf A' σ' H' ρ' μ:=by
 obtain⟨s1,w2⟩:=o.w.here;refine⟨_,w2,λ A' σ' H' ρ' w'=>⟨w',o.sb.trans s1,o.l0,o.nf,o.nd,λ p hp=>?_⟩⟩;have t:=o.top p hp;refine t.keep ?_ (OkW.plain o.w.sub w');cases e:H p.1 with
 | none=>exact absurd e t.live.ne
 | some u=>
  refine w'.same p.1 u ?_;rw[Ao (λ z=>by
   have:=(z0s.mp z).2;exact (z0Z this) (z0F _ (Eo hp)))]
  exact e
theorem OkM.new {c:D}(o:OkM G A0 He Hb A σ H ρ μ) (s:Same H H') (hp:H p=none) (t:Top G (p::A) H' p c):OkMS G A0 He σ H' ρ ((p,c)::μ)/\p∉ksM μ/\OkM G A0 He (λ b=>if b=p then H' b else Hb b) (p::A) σ H' ρ ((p,c)::μ):=by
 have npA:p∉A:=λ z=>(o.w.ok.live p z).ne hp;have npk:p∉ksM μ:=λ z=>npA (o.inA z);have m:OkM G A0 He (λ b=>if b=p then H' b else Hb b) (p::A) σ H' ρ ((p,c)::μ):=by
  refine⟨⟨λ b u h=>?_,λ a ha=>?_,λ a ha=>?_,λ a ha=>?_,o.w.ok.fill s hp t.live,λ i d a h1 h2=>?_,o.w.lt⟩,λ b u h=>?_,o.l0,λ a ha=>?_,?_,λ q hq=>?_⟩
  ·by_cases q:b=p
   ·simp only[q,if_true] at h ⊢;exact h
   ·simp only[q,if_false] at h;exact s b u (o.w.same b u h)
  ·rcases z06.mp ha with z | z
   ·rw[z];exact z0k
   ·exact z07 _ (o.w.sub a z)
  ·rcases z06.mp ha with z | z
   ·rw[z];exact .inl z0k
   ·rcases o.w.fr a z with q | q
    ·exact .inl (z07 _ q)
    ·right;have:a≠p:=λ e=>npA (e▸z);simp only[this,if_false];exact q
  ·rcases z06.mp ha with z | z
   ·have z':a=p:=z;simp only[z',if_true];exact t.live.ne
   ·have:a≠p:=λ e=>npA (e▸o.w.sub a z);simp only[this,if_false];exact o.w.l0 a z
  ·intro z
   rcases z06.mp z with z | z
   ·obtain⟨q,q1,q2,_⟩:=o.w.ok.ow i d h1;rw[h2] at q1;cases q1;exact npA ((show a=p from z)▸q2)
   ·exact o.w.ow0 i d a h1 h2 z
  ·have h':=o.sb b u h;have:b≠p:=λ e=>by
    rw[e] at h';rw[o.w.same p u h'] at hp;cases hp
   simp only[this,if_false];exact h'
  ·rcases z06.mp ha with z | z
   ·rw[z];exact o.same.free hp
   ·exact o.nf a z
  ·exact z0O.mpr ⟨npk,o.nd⟩
  ·rcases z06.mp hq with z | z
   ·rw[z];exact t
   ·exact (o.top q z).fill s hp
 exact⟨⟨_,_,m⟩,npk,m⟩
theorem OkM.wr {c:D}(o:OkM G A0 He Hb A σ H ρ μ) (hq:q∈ksM μ) (sx:JB q H H') (t:Top G A H' q c):OkM G A0 He (λ b=>if b=q then H' b else Hb b) A σ H' ρ (putA q c μ):=by
 have hA:=o.inA hq;have sm:=Fi hA sx;have own:∀ (i:Nat) (d:D) (a:Addr),ρ[i]?=some (.ow d)->σ[i]?=some (some (.ref a))->a≠q:=λ i d a h1 h2 z=>o.w.ow0 i d a h1 h2 (z▸z0F _ hq);have key:OkW G (ksM μ++A0) (λ b=>if b=q then H' b else Hb b) A σ H' ρ:=by
  refine⟨λ b u h=>?_,o.w.sub,λ a ha=>?_,λ a ha=>?_,⟨o.w.ok.len,λ b hb=>?_,λ j e h=>?_,λ j e h=>?_,o.w.ok.inj⟩,o.w.ow0,o.w.lt⟩
  ·by_cases z:b=q
   ·simp only[z,if_true] at h ⊢;exact h
   ·simp only[z,if_false] at h;exact sx b u z (o.w.same b u h)
  ·by_cases z:a=q
   ·exact .inl (z▸z0F _ hq)
   ·rcases o.w.fr a ha with y | y
    ·exact .inl y
    ·right;simp only[z,if_false];exact y
  ·by_cases z:a=q
   ·simp only[z,if_true];exact t.live.ne
   ·simp only[z,if_false];exact o.w.l0 a ha
  ·by_cases z:b=q
   ·rw[z];exact t.live
   ·exact (o.w.ok.live b hb).mono λ u e=>sx b u z e
  ·obtain⟨v,q1,q2⟩:=o.w.ok.fz j e h;exact⟨v,q1,q2.mono sm⟩
  ·obtain⟨a,q1,q2,q3⟩:=o.w.ok.ow j e h;exact⟨a,q1,q2,q3.other (own j e a h q1) hA sx⟩
 refine⟨by rw[U7];exact key,λ b u h=>?_,o.l0,by rw[U7];exact o.nf,by rw[U7];exact o.nd,λ p hp=>?_⟩
 ·have:b≠q:=λ e=>by
   rw[e,o.nf q hq] at h;cases h
  simp only[this,if_false];exact o.sb b u h
 ·obtain⟨p0,h0,e0⟩:=z0b.mp hp;split at e0
  ·rw[<-e0];exact t
  ·rename_i z;rw[<-e0];exact (o.top p0 h0).other z hA sx
theorem OkM.at (o:OkM G A0 He Hb A σ H ρ μ) {i:Nat}{a:Addr}(h:ρ[i]?=some (.fz (.adr a))):σ[i]?=some (some (.ref a)):=by
 obtain⟨v,q1,q2⟩:=o.w.ok.fz i _ h;cases q2;exact q1
end
def D_ (μ:Mu):List Nat->List Addr->Rho->Option Rho
 | [],_,ρ=>some ρ
 | j::js,seen,ρ=>match ρ[j]? with
  | some (.fz (.adr a))=>if a∈seen then none else (μ.lookup a).bind λ c=>D_ μ js (a::seen) (ρ.set j (.ow c))
  | _=>none
theorem QB {G:Gx}{A:List Addr}{σ:St}{H:Hp}{μ:Mu}(inA:∀ p∈μ,p.1∈A) (top:∀ p∈μ,Top G A H p.1 p.2):∀ (js:List Nat) (seen:List Addr) (ρ ρ':Rho),Okp G A σ H ρ->(∀ (i:Nat) (d:D) (a:Addr),ρ[i]?=some (.ow d)->σ[i]?=some (some (.ref a))->a∉ksM μ∨a∈seen)->D_ μ js seen ρ=some ρ'->Okp G A σ H ρ'
 | [],_,ρ,ρ',o,_,e=>by cases e;exact o
 | j::js,seen,ρ,ρ',o,hs,e=>by
  unfold D_ at e;split at e
  ·rename_i a ej;split at e
   ·cases e
   ·rename_i na;cases el:μ.lookup a with
    | none=>rw[el] at e;cases e
    | some c=>
     rw[el] at e;have hm:=lookup_mem el;obtain⟨v,q1,q2⟩:=o.fz j _ ej;cases q2;have ne:∀ (i:Nat) (d:D) (b:Addr),ρ[i]?=some (.ow d)->σ[i]?=some (some (.ref b))->b≠a:=λ i d b h1 h2 z=>by
      rcases hs i d b h1 h2 with y | y
      ·exact y (z▸Eo hm)
      ·exact na (z▸y)
     refine QB inA top js (a::seen) _ ρ' ⟨by rw[z0J];exact o.len,o.live,λ i d h=>?_,λ i d h=>?_,λ i k d f b h1 h2 h3 h4=>?_⟩ (λ i d b h1 h2=>?_) e
     ·rcases BZ h with ⟨_,hz,_⟩ | ⟨_,hz⟩
      ·cases hz
      ·exact o.fz i d hz
     ·rcases BZ h with ⟨hj,hz,_⟩ | ⟨_,hz⟩
      ·cases hz;subst hj;exact⟨a,q1,inA _ hm,top _ hm⟩
      ·exact o.ow i d hz
     ·rcases BZ h1 with ⟨hi,_,_⟩ | ⟨hi,z1⟩<;>rcases BZ h2 with ⟨hk,_,_⟩ | ⟨hk,z2⟩
      ·rw[hi,hk]
      ·subst hi;rw[q1] at h3;cases h3;exact absurd rfl (ne k f _ z2 h4)
      ·subst hk;rw[q1] at h4;cases h4;exact absurd rfl (ne i d _ z1 h3)
      ·exact o.inj i k d f b z1 z2 h3 h4
     ·rcases BZ h1 with ⟨hi,_,_⟩ | ⟨hi,z1⟩
      ·subst hi;rw[q1] at h2;cases h2;exact .inr z0k
      ·exact (hs i d b z1 h2).imp id λ y=>z07 _ y
  ·cases e
theorem OkM.view {Hb:Hp}{μ:Mu}(o:OkM G A0 He Hb A σ H ρ μ) {js:List Nat}{ρ':Rho}(e:D_ μ js [] ρ=some ρ'):Okp G A σ H ρ':=
 QB (λ p h=>o.inA (Eo h)) o.top js [] ρ ρ' o.w.ok (λ i d a h1 h2=>.inl λ z=>o.w.ow0 i d a h1 h2 (z0F _ z)) e
abbrev FXM:=Rho->Mu->(D->Mu->Prop)->Prop
def puM (g:FS):FM:=λ ρ μ K=>∃ o,g ρ=some o/\K o μ
def thM (gs:FM) (K:KM):KM:=λ o μ=>match o with | .nx ρ=>gs ρ μ K | o=>K o μ
def seqM (g gs:FM):FM:=λ ρ μ K=>g ρ μ (thM gs K)
def nxM:FM:=λ ρ μ K=>K (.nx ρ) μ
def vwM {α:Type}(js:List Nat) (f:Rho->Option α) (ρ:Rho) (μ:Mu):Option α:=(D_ μ js [] ρ).bind f
def ifM (js:List Nat) (t:FT) (g gs:FM):FM:=λ ρ μ K=>match vwM js t ρ μ with | some true=>g ρ μ K | some false=>gs ρ μ K | none=>False
def bdM (go:FM) (K:KM):KM:=λ o μ=>match o with | .nx ρ=>go ρ μ K | .ct ρ=>go ρ μ K | .bk ρ=>K (.nx ρ) μ | .rt e ρ=>K (.rt e ρ) μ
def QC (tg:FG) (b:FM):List D->FM
 | [],ρ,μ,K=>K (.nx ρ) μ
 | d::r,ρ,μ,K=>∃ ρ1,tg d ρ=some ρ1/\b ρ1 μ (bdM (QC tg b r) K)
def forM (src:FI) (tg:FG) (b:FM):FM:=λ ρ μ K=>∃ ds,src ρ=some ds/\QC tg b ds ρ μ K
def pvX (js:List Nat) (f:FE):FXM:=λ ρ μ K=>∃ d,vwM js f ρ μ=some d/\K d μ
def newX (f:FE):FXM:=λ ρ μ K=>∃ c,f ρ=some c/\∀ p,p∉ksM μ->K (.adr p) ((p,c)::μ)
abbrev GM:=List D->Mu->(D->Mu->Prop)->Prop
def calX (g:GM) (fs:FA):FXM:=λ ρ μ K=>∃ ds,fs ρ=some ds/\g ds μ K
def K5 (i:Nat) (h:FXM):FM:=λ ρ μ K=>h ρ μ λ d μ'=>K (.nx (ρ.set i (.fz d))) μ'
def JC (h:FXM):FM:=λ ρ μ K=>h ρ μ λ _ μ'=>K (.nx ρ) μ'
def ir (h:FXM):FM:=λ ρ μ K=>h ρ μ λ d μ'=>K (.rt d ρ) μ'
def iu (i:Nat) (fk:FE) (h:FXM):FM:=λ ρ μ K=>h ρ μ λ v μ'=>∃ y x z,fk ρ=some y/\ρ[i]?=some (.ow x)/\Df x y v=some z/\K (.nx (ρ.set i (.ow z))) μ'
def JD (i:Nat) (fk:FE) (h:FXM):FM:=λ ρ μ K=>h ρ μ λ v μ'=>∃ y a x z,fk ρ=some y/\ρ[i]?=some (.fz (.adr a))/\μ'.lookup a=some x/\Df x y v=some z/\K (.nx ρ) (putA a z μ')
def mutX (i:Nat) (js:List Nat) (g:D->List D->Option (D×D)) (fs:FA):FXM:=λ ρ μ K=>∃ ds a c v c',vwM js fs ρ μ=some ds/\ρ[i]?=some (.fz (.adr a))/\μ.lookup a=some c/\g c ds=some (v,c')/\K v (putA a c' μ)
def pubM (i:Nat) (g:FM):FM:=λ ρ μ K=>∃ c,ρ[i]?=some (.ow c)/\∀ p,p∉ksM μ->g (ρ.set i (.fz (.adr p))) ((p,c)::μ) K
def der:Nat->Mu->D->D
 | 0,_,d=>d
 | n+1,μ,.adr a=>match μ.lookup a with | some c=>der n μ c | none=>.adr a
 | n+1,μ,.lst ds=>.lst (ds.map (der n μ))
 | n+1,μ,.tup ds=>.tup (ds.map (der n μ))
 | n+1,μ,.dk kds=>.dk (kds.map λ p=>(p.1,der n μ p.2))
 | _+1,_,d=>d
def derS (n:Nat) (μ:Mu):Slot->Slot
 | .fz d=>.fz (der n μ d)
 | z=>z
def frzM (n:Nat) (g:FM):FM:=λ ρ μ K=>g (ρ.map (derS n μ)) [] K
def finM (K:D->Mu->Prop):KM:=λ o μ=>match o with | .rt d _=>K d μ | .nx _=>K .non μ | _=>False
def runM (n np:Nat) (b:FM):GM:=λ ds μ K=>ds.length=np/\b (Bm n ds) μ (finM K)
def Kh (G:Gx) (A0:List Addr) (He:Hp) (D:Ends):Out->Mu->Prop
 | .nx ρ,μ=>∀ σ H,OkMS G A0 He σ H ρ μ->D.nx σ H
 | .rt d ρ,μ=>∀ v σ H A Hb,OkM G A0 He Hb A σ H ρ μ->Rep G (hid A H) v d->D.rt v H
 | .bk ρ,μ=>∀ σ H,OkMS G A0 He σ H ρ μ->D.bk σ H
 | .ct ρ,μ=>∀ σ H,OkMS G A0 He σ H ρ μ->D.ct σ H
def tM (G:Gx) (A0:List Addr) (He:Hp) (g:FM):TS:=λ D σ H=>∃ ρ μ K,OkMS G A0 He σ H ρ μ/\g ρ μ K/\∀ o μ',K o μ'->Kh G A0 He D o μ'
def PSM (X:Cx) (G:Gx) (st:Stmt) (g:FM):Prop:=∀ ⦃A0⦄ He,PS X st (tM G A0 He g)
def PSMs (X:Cx) (G:Gx) (st:List Stmt) (g:FM):Prop:=∀ ⦃A0⦄ He,PSs X st (tM G A0 He g)
def tMX (G:Gx) (A0:List Addr) (He:Hp) (h:FXM):TE:=λ σ H Q=>∃ ρ μ K,OkMS G A0 He σ H ρ μ/\h ρ μ K/\∀ v H' d μ' A Hb,K d μ'->OkM G A0 He Hb A σ H' ρ μ'->Rep G (hid A H') v d->Q v H'
def PMX (X:Cx) (G:Gx) (e:Expr) (h:FXM):Prop:=∀ ⦃A0⦄ He,PE X e (tMX G A0 He h)
section
variable {Hb:Hp}{μ:Mu}
theorem OkM.base (o:OkM G A0 Hf Hb A σ H ρ μ) (s:Same He Hf) (l0:∀ a∈A0,He a≠none):OkM G A0 He Hb A σ H ρ μ:=
 ⟨o.w,s.trans o.sb,l0,λ a h=>s.free (o.nf a h),o.nd,o.top⟩
theorem OkM.here (o:OkM G A0 He Hb A σ H ρ μ):Same He (hid (A.filter λ a=>decide (a∉A0)) H)/\∃ Hc,OkM G A0 (hid (A.filter λ a=>decide (a∉A0)) H) Hc A σ H ρ μ:=by
 have hb:∀ b,b∈(A.filter λ a=>decide (a∉A0))↔b∈A/\b∉A0:=λ b=>by simp[z0s]
 have s1:Same He (hid (A.filter λ a=>decide (a∉A0)) H):=λ b u h=>by
  rw[Ao]
  ·exact o.same b u h
  ·intro z;obtain⟨z1,z2⟩:=(hb b).mp z
   rcases o.fr z1 with q | q
   ·exact z2 q
   ·rw[q] at h;cases h
 obtain⟨s2,w2⟩:=o.w.here;refine⟨s1,_,w2,λ b u h=>?_,λ a ha h=>?_,λ a ha=>?_,o.nd,o.top⟩
 ·unfold hid at h ⊢;split at h
  ·cases h
  ·rename_i nb;rw[if_neg]
   ·exact h
   ·intro z;have z':=z0s.mp z;refine nb ((hb b).mpr ⟨z'.1,λ y=>?_⟩);exact (z0Z z'.2) (z0t _ y)
 ·rw[Ao (λ z=>((hb a).mp z).2 ha)] at h;exact (o.w.ok.live a (o.w.sub a (z0t _ ha))).ne h
 ·unfold hid;rw[if_pos ((hb a).mpr ⟨o.inA ha,o.n0 ha⟩)]
theorem OkM.plain (sub:∀ a∈A0,a∈B) (o:OkM G A0 (hid (B.filter λ a=>decide (a∉A0)) H1) Hb A σ H ρ μ):Same (hid B H1) (hid A H):=λ b u h=>by
 unfold hid at h;split at h
 ·cases h
 ·rename_i hb;have e:hid (B.filter λ a=>decide (a∉A0)) H1 b=some u:=by
   rw[Ao (λ z=>hb (z0s.mp z).1)];exact h
  rw[Ao]
  ·exact o.same b u e
  ·intro z
   rcases o.fr z with q | q
   ·exact hb (sub b q)
   ·rw[q] at e;cases e
theorem Kh.base {Hf:Hp}{D:Ends}{o:Out}(k:Kh G A0 He D o μ) (s:Same He Hf) (l0:∀ a∈A0,He a≠none):Kh G A0 Hf D o μ:=by
 cases o with
 | nx ρ=>exact λ σ H ⟨A,Hb,w⟩=>k σ H ⟨A,Hb,w.base s l0⟩
 | rt d ρ=>exact λ v σ H A Hb w r=>k v σ H A Hb (w.base s l0) r
 | bk ρ=>exact λ σ H ⟨A,Hb,w⟩=>k σ H ⟨A,Hb,w.base s l0⟩
 | ct ρ=>exact λ σ H ⟨A,Hb,w⟩=>k σ H ⟨A,Hb,w.base s l0⟩
theorem OkM.subA0 (o:OkM G A0 He Hb A σ H ρ μ):∀ a∈A0,a∈A:=λ a h=>o.w.sub a (z0t _ h)
theorem OkM.ends {D:Ends}(up:∀ A' σ' H' ρ',OkW G (ksM μ++A0) Hf A' σ' H' ρ'->OkM G A0 He Hf A' σ' H' ρ' μ) {o:Out}(k:Kh G A0 He D o μ):Ky G (ksM μ++A0) Hf D o:=by
 cases o with
 | nx ρ=>exact λ σ H ⟨A,w⟩=>k σ H ⟨A,Hf,up _ _ _ _ w⟩
 | rt d ρ=>exact λ v σ H A w r=>k v σ H A Hf (up _ _ _ _ w) r
 | bk ρ=>exact λ σ H ⟨A,w⟩=>k σ H ⟨A,Hf,up _ _ _ _ w⟩
 | ct ρ=>exact λ σ H ⟨A,w⟩=>k σ H ⟨A,Hf,up _ _ _ _ w⟩
theorem OkM.wrO {d0 d:D}{u:HO}(o:OkM G A0 He Hb A σ H ρ μ) (hi:ρ[i]?=some (.ow d0)) (hs:σ[i]?=some (some (.ref p))) (t:Top G A (upd H p u) p d):OkM G A0 He Hb A σ (upd H p u) (ρ.set i (.ow d)) μ:=by
 have n:=o.w.ow0 i d0 p hi hs;obtain⟨q,q1,q2,_⟩:=o.w.ok.ow i d0 hi;rw[hs] at q1;cases q1;exact⟨o.w.wr hi hs t,o.sb,o.l0,o.nf,o.nd,λ c hc=>(o.top c hc).other (λ z:c.1=p=>n (by rw[<-z];exact z0F _ (Eo hc))) q2 (λ b x nb hb=>by rw[Ad nb];exact hb)⟩
end
section
variable {a b c:Expr}{fa fb fc:FE}{p2:Pos}{rest:List Stmt}{gp:FS}{g gs gb:FM}{h:FXM}
theorem FN:PSMs X G [] nxM:=λ A0 He π s σ H D I ⟨ρ,μ,K,ok,e,k⟩=>Lk π s σ H D I (k _ _ e σ H ok)
theorem BJ (h1:PSM X G st g) (h2:PSMs X G rest gs):PSMs X G (st::rest) (seqM g gs):=λ A0 He π s σ H D I ⟨ρ,μ,K,ok,e,k⟩=>by
 refine Dr (@h1 A0 He) (@h2 A0 He) π s σ H D I ⟨ρ,μ,_,ok,e,λ o μ' q=>?_⟩;cases o with
 | nx ρ'=>exact λ σ' H' ok'=>⟨ρ',μ',K,ok',q,k⟩
 | rt d ρ'=>exact k _ _ q
 | bk ρ'=>exact k _ _ q
 | ct ρ'=>exact k _ _ q
theorem CP (h1:PSM X G st g):PSMs X G [st] g:=λ A0 He=>Gw (@h1 A0 He)
theorem EY (h:PSD X G st gp):PSM X G st (puM gp):=λ A0 He π s σ H D I ⟨ρ,μ,K,⟨A,Hb,w⟩,⟨o,e,q⟩,k⟩=>by
 obtain⟨Hf,w1,up⟩:=w.lift;exact @h (ksM μ++A0) Hf π s σ H D I ⟨ρ,o,⟨A,w1⟩,e,OkM.ends up (k _ _ q)⟩
theorem Hs {α:Type}{js:List Nat}{f:Rho->Option α}{μ:Mu}{d:α}(e:vwM js f ρ μ=some d):∃ ρ',D_ μ js [] ρ=some ρ'/\f ρ'=some d:=by
 unfold vwM at e;cases e1:D_ μ js [] ρ with
 | none=>rw[e1] at e;cases e
 | some ρ'=>rw[e1] at e;exact⟨ρ',rfl,e⟩
theorem G9 {s1 s2:List Stmt}(js:List Nat) (ht:PFT X G c ga) (h1:PSMs X G s1 g) (h2:PSMs X G s2 gs):PSM X G (.If c s1 s2 pos) (ifM js ga g gs):=λ A0 He π s σ H D I ⟨ρ,μ,K,⟨A,Hb,w⟩,e,k⟩=>by
 refine VN (@ht A) (@h1 A0 He) (@h2 A0 He) π s σ H D I ?_;unfold ifM at e;split at e
 ·rename_i e1;obtain⟨ρ',e2,e3⟩:=Hs e1;exact⟨ρ',_,w.view e2,e3,λ H1 s1=>iteT ⟨ρ,μ,K,⟨A,Hb,w.mono s1⟩,e,k⟩⟩
 ·rename_i e1;obtain⟨ρ',e2,e3⟩:=Hs e1;exact⟨ρ',_,w.view e2,e3,λ H1 s1=>iteF ⟨ρ,μ,K,⟨A,Hb,w.mono s1⟩,e,k⟩⟩
 ·exact e.elim
theorem M4 {it:Expr}(hp:PassesOwn (model X.prog X.w) X.A X.env X.xe) (hc:X.calm=true) (hi:PFI X G false tg it src) (hg:PGD X G tg fg) (hb:PSMs X G body gb)
  (hs:∀ x,foldedSetIterable it X.env x=pure x:=by intro _;rfl):PSM X G (.For tg it body [] pos) (forM src fg gb):=λ A0 He π s σ H D I ⟨ρ,μ,K,⟨A,Hb,w⟩,⟨ds,e1,e⟩,k⟩=>by
 have hb':PSs X body (λ D σ H=>∃ A0 He,tM G A0 He gb D σ H):=λ π s σ H D I ⟨A0,He,q⟩=>@hb A0 He π s σ H D I q;have hg':PG X tg (λ v σ H Q=>∃ A0 He,tGD G A0 He fg v σ H Q):=λ π s σ H v u Q I r ⟨A0,He,q⟩=>@hg A0 He π s σ H v u Q I r q;refine QM hp hc (@hi A) hg' hb' hs π s σ H D I ⟨ρ,ds,w.w.ok,e1,λ J H1 s1 sr=>?_⟩;obtain⟨sHe,Hc,w2⟩:=(w.mono s1).here;have k2:∀ o μ',K o μ'->Kh G A0 _ D o μ':=λ o μ' q=>(k o μ' q).base sHe w.l0;generalize hHf:hid (A.filter λ a=>decide (a∉A0)) H1=Hf at sHe w2 k2;refine⟨λ i m σ' H'=>m=ds.length-i/\i<=ds.length/\∃ ρ' μ',OkMS G A0 Hf σ' H' ρ' μ'/\QC fg gb (ds.drop i) ρ' μ' K,⟨ds.length,by simp,z0M _,ρ,μ,⟨A,Hc,w2⟩,by simpa using e⟩,?_⟩;rintro i m σ3 H3 ⟨rfl,hil,ρ3,μ3,⟨B,Hd,w3⟩,e3⟩;have pl:Same (hid A H1) (hid B H3):=by rw[<-hHf] at w3;exact OkM.plain w.subA0 w3
 by_cases hlt:i<ds.length
 ·right;have hd:ds[i]?=some ds[i]:=by simp[hlt]
  have ed:ds.drop i=ds[i]::ds.drop (i+1):=z1k hlt;rw[ed] at e3;obtain⟨ρ4,e4,e5⟩:=e3;refine⟨sr.go i H3 (pl.trans Ai) hlt,λ σ' H'=>∃ ρ' μ',OkMS G A0 Hf σ' H' ρ' μ'/\QC fg gb (ds.drop (i+1)) ρ' μ' K,λ σ' H' q=>⟨ds.length-(i+1),by omega,rfl,hlt,q⟩,λ x H' y=>?_⟩;obtain⟨sy,rx⟩:=sr.yld i H3 x H' _ (pl.trans Ai) hd y;obtain⟨Hg,w4,up⟩:=(w3.mono sy).lift;refine⟨ksM μ3++A0,Hg,B,ρ3,ds[i],ρ4,w4,rx B w3.w.ok.live pl,e4,λ σ5 H5 ⟨A5,ok5⟩=>⟨A0,Hf,ρ4,μ3,_,⟨A5,Hg,up _ _ _ _ ok5⟩,e5,λ o5 μ5 q5=>?_⟩⟩;cases o5 with
  | nx ρ5=>exact λ σ' H' ok'=>⟨ρ5,μ5,ok',q5⟩
  | ct ρ5=>exact λ σ' H' ok'=>⟨ρ5,μ5,ok',q5⟩
  | bk ρ5=>exact λ σ' H' ok'=>k2 _ _ q5 σ' H' ok'
  | rt d5 ρ5=>exact k2 _ _ q5
 ·left;have ei:i=ds.length:=by omega
  subst ei;rw[List.drop_length] at e3;exact⟨sr.stop _ H3 (pl.trans Ai) (z03 _),k2 _ _ e3 σ3 H3 ⟨B,Hd,w3⟩⟩
theorem U8 (js:List Nat) (ha:PF X G a fa):PMX X G a (pvX js fa):=λ A0 He π s σ H Q I ⟨ρ,μ,K,⟨A,Hb,w⟩,⟨d,e,q⟩,k⟩=>by
 obtain⟨ρ',e2,e3⟩:=Hs e;exact @ha A π s σ H Q I ⟨ρ',d,w.view e2,e3,λ v H' sm r=>k v H' d μ A Hb q (w.mono sm) r⟩
theorem Ip (ha:PN X G a fa):PMX X G a (newX fa):=λ A0 He π s σ H Q I ⟨ρ,μ,K,⟨A,Hb,w⟩,⟨c,e,q⟩,k⟩=>
 @ha A π s σ H Q I ⟨ρ,c,w.w.ok,e,λ p H' sm hp t=>by
  obtain⟨_,np,m⟩:=w.new sm hp t;exact k _ H' _ _ _ _ (q p np) m (.adr p)⟩
theorem aW {x:Str}{p:Pos}(hp:∀ te,PE X a te->PS X (.Assign [.Name x p] a pos) (tAsg te (GK i))) (ha:PMX X G a h):PSM X G (.Assign [.Name x p] a pos) (K5 i h):=λ A0 He π s σ H D I ⟨ρ,μ,K,ok,e,k⟩=>
 hp _ (@ha A0 He) π s σ H D I ⟨ρ,μ,_,ok,e,λ v H' d μ' A Hb q w r=>k _ _ q _ _ ⟨A,Hb,w.set r i⟩⟩
theorem Js (ha:PMX X G a h) (hs:swapsWith a none pos.line X.env=pure false:=by rfl):PSM X G (.Expr a pos) (JC h):=λ A0 He π s σ H D I ⟨ρ,μ,K,ok,e,k⟩=>
 Ie (@ha A0 He) hs π s σ H D I ⟨ρ,μ,_,ok,e,λ v H' d μ' A Hb q w r=>k _ _ q _ _ ⟨A,Hb,w⟩⟩
theorem aX (ha:PMX X G a h):PSM X G (.Return (some a) pos) (ir h):=λ A0 He π s σ H D I ⟨ρ,μ,K,ok,e,k⟩=>
 YZ (@ha A0 He) π s σ H D I ⟨ρ,μ,_,ok,e,λ v H' d μ' A Hb q w r=>k _ _ q v σ H' A Hb w r⟩
theorem OJ {x y v z:D}{vv yv:V}(t:Top G A H p x) (hA:p∈A) (e3:Df x y v=some z) (ry:Rep G (hid A H) yv y) (rv:Rep G (hid A H) vv v):∃ u,DPut H p yv vv (upd H p u)/\Top G A (upd H p u) p z:=by
 unfold Df at e3;split at e3
 ·rename_i kds;cases e4:keyD y with
  | none=>simp[e4] at e3
  | some q=>
   simp only[e4,z0a] at e3;split at e3
   ·rename_i hz;cases e3;obtain⟨kvs,h2,hk,r⟩:=t;have ek:=Gn ry e4;subst ek;have hl:kvs.length<sizeLine:=by
     have:=congrArg List.length hk;rw[z01,z01] at this;omega
    have pk:=Mj (k:=q) rv hk r;refine⟨_,DPut.k h2 hl,_,Ae,pk.1,?_⟩;rw[Cm hA];exact pk.2
   ·cases e3
 ·cases e3
theorem aZ {x:Str}(hu:X.A.units+1<cLine) (hv:PE X (.Name x xpos) (tVar i)) (ha:PF X G a fa) (hb:PMX X G b h)
  (hs:swapsWith b (some (.Subscript (.Name x xpos) a spos)) pos.line X.env=pure false:=by rfl):PSM X G (.Assign [.Subscript (.Name x xpos) a spos] b pos) (iu i fa h):=λ A0 He π s σ H D I ⟨ρ,μ,K,ok,e,k⟩=>by
 have ha':PE X a (λ σ H Q=>∃ A,tF G A fa σ H Q):=λ π s σ H Q I ⟨A,q⟩=>@ha A π s σ H Q I q;refine Ih hu hv ha' (@hb A0 He) hs π s σ H D I ⟨ρ,μ,_,ok,e,λ v H' d μ' A Hb ⟨y,x0,z,e2,hi,e3,q⟩ w r=>?_⟩;obtain⟨p,h1,hA,t⟩:=w.w.ok.ow i _ hi;refine⟨_,h1,A,ρ,y,w.w.ok,e2,λ yv H2 s2 r2=>?_⟩;have w2:=w.mono s2;obtain⟨u,q1,q2⟩:=OJ (t.mono s2) hA e3 r2 (r.mono (Aq s2));exact⟨p,_,rfl,q1,k _ _ q _ _ ⟨A,Hb,w2.wrO hi h1 q2⟩⟩
theorem Jt {x:Str}(hu:X.A.units+1<cLine) (hv:PE X (.Name x xpos) (tVar i)) (ha:PF X G a fa) (hb:PMX X G b h)
  (hs:swapsWith b (some (.Subscript (.Name x xpos) a spos)) pos.line X.env=pure false:=by rfl):PSM X G (.Assign [.Subscript (.Name x xpos) a spos] b pos) (JD i fa h):=λ A0 He π s σ H D I ⟨ρ,μ,K,ok,e,k⟩=>by
 have ha':PE X a (λ σ H Q=>∃ A,tF G A fa σ H Q):=λ π s σ H Q I ⟨A,q⟩=>@ha A π s σ H Q I q;refine Ih hu hv ha' (@hb A0 He) hs π s σ H D I ⟨ρ,μ,_,ok,e,λ v H' d μ' A Hb ⟨y,p,x0,z,e2,hi,hl,e3,q⟩ w r=>?_⟩;have hm:=lookup_mem hl;refine⟨_,w.at hi,A,ρ,y,w.w.ok,e2,λ yv H2 s2 r2=>?_⟩;have w2:=w.mono s2;obtain⟨u,q1,q2⟩:=OJ (w2.top _ hm) (w.inA (Eo hm)) e3 r2 (r.mono (Aq s2));exact⟨p,_,rfl,q1,k _ _ q _ _ ⟨A,_,w2.wr (Eo hm) (λ b x nb hb=>by rw[Ad nb];exact hb) q2⟩⟩
def SndM (G:Gx) (r:V->List V->Hp->VK->Prop) (g:D->List D->Option (D×D)):Prop:=∀ (A:List Addr) (H:Hp) (l:Addr) (vs:List V) (c:D) (ds:List D) (v c':D) (Q:VK),(∀ a∈A,Nt (H a))->l∈A->Top G A H l c->RepL G (hid A H) vs ds->g c ds=some (v,c')->(∀ vv H',JB l H H'->Top G A H' l c'->Rep G (hid A H') vv v->Q vv H')->r (.ref l) vs H Q
theorem fH {x name:Str}{T id:String}{r:V->List V->Hp->VK->Prop}{gm:D->List D->Option (D×D)}{fs:FA}(js:List Nat) (pa:PlainAttrs T) (slot:PySem.Slot T name id) (hty:typeOf (.builtin id)=pure (.type "method_descriptor")) (hm:MtM X id r) (sn:SndM G r gm)
  (tv:∀ (A:List Addr) (H:Hp) (l:Addr) (c:D) (ds:List D) (vc:D×D),gm c ds=some vc->Top G A H l c->tyV X.K T (.ref l) H) (hv:PE X (.Name x xpos) (tVar i)) (ha:PFA X G (e::es) fs)
  (hbase:attributeBase (.Name x xpos) name X.env (eval (.Name x xpos) X.env)=eval (.Name x xpos) X.env:=by rfl)
  (hfew:((backTo pos (starEach (e::es) X.env)).all (λ x=>!x.1)&&(backToKw pos (keywordEach [] X.env)).all (λ x=>x.1.isSome)&&decide ((e::es).length+([]:List Keyword).length+(if ([]:List Keyword).isEmpty then 0 else 1)<30))=true:=by rfl)
  (hline:(apos.endLine==pos.line)=true:=by rfl) (hs:starEach (e::es) X.env=(false,eval e X.env)::starEach es X.env:=by rfl) (hpl:(backTo pos (starEach es X.env)).any (·.1)=false:=by rfl) :
  PMX X G (.Call (.Attribute (.Name x xpos) name apos) (e::es) [] pos) (mutX i js gm fs):=λ A0 He π s σ H Q I ⟨ρ,μ,K,⟨A,Hb,w⟩,⟨ds,l,c,v,c',e1,hi,hl,e2,q⟩,k⟩=>by
 obtain⟨ρ',e3,e4⟩:=Hs e1;have hm':=lookup_mem hl;refine gj pa slot hty hm hv (@ha A) hbase hfew hline hs hpl π s σ H Q I ⟨_,w.at hi,tv _ _ _ _ _ _ e2 (w.top _ hm'),ρ',ds,w.view e3,e4,λ vs H1 s1 r1=>?_⟩;have w1:=w.mono s1;exact sn A H1 l vs c ds v c' Q w1.w.ok.live (w.inA (Eo hm')) (w1.top _ hm') r1 e2 λ vv H' sx t rv=>k vv H' v _ A _ q (w1.wr (Eo hm') sx t) rv
theorem fJ (h:PSM X G st g):PSM X G st (pubM i g):=λ A0 He π s σ H D I ⟨ρ,μ,K,⟨A,Hb,w⟩,⟨c,hi,q⟩,k⟩=>by
 obtain⟨p,h1,hA,t⟩:=w.w.ok.ow i c hi;have n0:=w.w.ow0 i c p hi h1;have npk:p∉ksM μ:=λ z=>n0 (z0F _ z);have hep:He p=none:=(w.fr hA).resolve_left λ z=>n0 (z0t _ z);have w':=w.w.set (d:=.adr p) (v:=.ref p) (.adr p) i;have hset:σ.set i (some (.ref p))=σ:=by
  refine List.ext_getElem? λ j=>?_
  by_cases hj:i=j
  ·subst hj;rw[z0H (z0z.mp h1).1,h1]
  ·rw[z0n hj]
 rw[hset] at w';refine @h A0 He π s σ H D I ⟨_,_,K,⟨A,λ b=>if b=p then H b else Hb b,?_⟩,q p npk,k⟩;refine⟨⟨λ b u h=>?_,λ a ha=>?_,λ a ha=>?_,λ a ha=>?_,w'.ok,λ j d a h1' h2'=>?_,w'.lt⟩,λ b u h=>?_,w.l0,λ a ha=>?_,z0O.mpr ⟨npk,w.nd⟩,λ x hx=>?_⟩
 ·by_cases z:b=p
  ·simp only[z,if_true] at h ⊢;exact h
  ·simp only[z,if_false] at h;exact w.w.same b u h
 ·rcases z06.mp ha with z | z
  ·rw[z];exact hA
  ·exact w.w.sub a z
 ·by_cases z:a=p
  ·rw[z];exact .inl z0k
  ·rcases w.w.fr a ha with y | y
   ·exact .inl (z07 _ y)
   ·right;simp only[z,if_false];exact y
 ·rcases z06.mp ha with z | z
  ·simp only[show a=p from z,if_true];exact t.live.ne
  ·by_cases y:a=p
   ·simp only[y,if_true];exact t.live.ne
   ·simp only[y,if_false];exact w.w.l0 a z
 ·intro z
  rcases z06.mp z with z | z
  ·have z':a=p:=z;subst z'
   rcases BZ h1' with ⟨_,hz,_⟩ | ⟨hj,hz⟩
   ·cases hz
   ·exact hj (w.w.ok.inj j i d c a hz hi h2' h1)
  ·exact w'.ow0 j d a h1' h2' z
 ·have:b≠p:=λ z=>by rw[z,hep] at h;cases h
  simp only[this,if_false];exact w.sb b u h
 ·rcases z06.mp ha with z | z
  ·rw[z];exact hep
  ·exact w.nf a z
 ·rcases z06.mp hx with z | z
  ·rw[z];exact t
  ·exact w.top x z
end
def spM (G:Gx) (g:GM):Sp:=λ vs H Q _=>∃ A ds μ K,(∀ a∈A,Nt (H a))/\(ksM μ).Nodup/\(∀ p∈μ,p.1∈A/\Top G A H p.1 p.2)/\RepL G (hid A H) vs ds/\g ds μ K ∧
 ∀ v H' A' μ' d,K d μ'->(∀ b u,b∉ksM μ->H b=some u->H' b=some u)->(∀ a∈A,a∉ksM μ->a∈A')->(∀ a∈A',Nt (H' a))->(ksM μ').Nodup->(∀ p∈μ',p.1∈A'/\Top G A' H' p.1 p.2)->(∀ a∈ksM μ',a∈ksM μ∨H a=none)->Rep G (hid A' H') v d->Q v H'
theorem YG {μ:Mu}(live:∀ a∈A,Nt (H a)) (nd:(ksM μ).Nodup) (ct:∀ p∈μ,p.1∈A/\Top G A H p.1 p.2) (r:RepL G (hid A H) vs ds) (hn:vs.length<=N.length):OkM G (A.filter λ a=>decide (a∉ksM μ)) (hid (ksM μ) H) H A (start N vs) H (Bm N.length ds) μ:=by
 have inA:∀ a∈ksM μ,a∈A:=λ a h=>by obtain⟨d,hd⟩:=il h;exact (ct _ hd).1
 have hm:∀ a,a∈(A.filter λ a=>decide (a∉ksM μ))↔a∈A/\a∉ksM μ:=λ a=>by simp[z0s]
 obtain⟨A1,w⟩:=Hl (N:=N) live r hn;have key:∀ a,a∈ksM μ++(A.filter λ a=>decide (a∉ksM μ))↔a∈A:=λ a=>by
  rw[z0y,hm];constructor
  ·rintro (h | h)
   ·exact inA a h
   ·exact h.1
  ·intro h
   by_cases z:a∈ksM μ
   ·exact .inl z
   ·exact .inr ⟨h,z⟩
 have no:∀ (i:Nat) (d:D),(Bm N.length ds)[i]?≠some (.ow d):=λ i d h=>by
  unfold Bm at h
  by_cases hi:i<ds.length
  ·rw[z0P (by simpa using hi),z0c] at h;cases e:ds[i]? with
   | none=>rw[e] at h;cases h
   | some d=>rw[e] at h;cases h
  ·rw[z0U (by simpa using z0I.mp hi),List.getElem?_replicate] at h;split at h<;>cases h
 have okp:Okp G A (start N vs) H (Bm N.length ds):=by
  refine⟨w.ok.len,live,λ i d h=>?_,λ i d h=>absurd h (no i d),λ i j d e a h _ _ _=>absurd h (no i d)⟩;obtain⟨v,q1,q2⟩:=w.ok.fz i d h;exact⟨v,q1,q2.mono (Ck w.sub)⟩
 refine⟨⟨Same.refl H,λ a ha=>(key a).mp ha,λ a ha=>.inl ((key a).mpr ha),λ a ha=>(live a ((key a).mp ha)).ne,okp,λ i d a h _=>absurd h (no i d),λ x d _ h=>absurd h (no 0 d)⟩,Ai,λ a ha=>?_,λ a ha=>?_,nd,λ p hp=>(ct p hp).2⟩
 ·rw[Ao ((hm a).mp ha).2];exact (live a ((hm a).mp ha).1).ne
 ·unfold hid;rw[if_pos ha]
theorem fn_M {base:Heap}{x:Str}{f:Addr}{k:Nat}{b:FM}(F:FunD G.K x qual st f fd) (S:FnScope N ps (Ab st)) (hl:ps.length<=N.length)
  (hb:∀ (cdv:Value) (A:Around) (outer:List Env) (s:Shared) (H:Hp) (E:XK),Room k (A.deeper (envOfC qual (Ab st) s.heap.objs.size f cdv))->PSMs (cxOf CX0 P w G.K mg base N qual (Ab st) f cdv A outer s H E).nox G (Aw st) b) :
  FnOk P w G.K mg base CX0 (k+1) f fd ps (spM G (runM N.length ps.length b)):=by
 obtain⟨oc,od,dV,kV,doc,pm,an,cdv,ct,osl,rfl,lk,hcd⟩:=F.ex;refine O_ lk hcd S (λ vs H Q E h=>?_) (λ A outer s H vs Q E hr h=>?_)
 ·obtain⟨A,ds,μ,K,lv,nd,ct,r,e,_⟩:=h;rw[r.1];exact e.1
 ·obtain⟨A1,ds,μ,K,lv,nd,ct,r,e,k⟩:=h;have hzz:=hb cdv A outer s H E hr;have fin:∀ (σ':St) (H':Hp) (A2:List Addr) (Hb:Hp) (ρ:Rho) (μ':Mu) (v:V) (d:D),OkM G (A1.filter λ a=>decide (a∉ksM μ)) (hid (ksM μ) H) Hb A2 σ' H' ρ μ'->Rep G (hid A2 H') v d->K d μ'->Q v H':=λ σ' H' A2 Hb ρ μ' v d w rv kd=>by
   refine k v H' A2 μ' d kd (λ b u nb hb=>w.same b u (by rw[Ao nb];exact hb)) (λ a ha na=>w.subA0 a (by simp[z0s,ha,na])) w.w.ok.live w.nd (λ p hp=>⟨w.inA (Eo hp),w.top p hp⟩) (λ a ha=>?_) rv;have:=w.nf a ha
   by_cases z:a∈ksM μ
   ·exact .inl z
   ·rw[Ao z] at this;exact .inr this
  refine⟨_,(@hzz (A1.filter λ a=>decide (a∉ksM μ)) (hid (ksM μ) H)).nox,Bm N.length ds,μ,_,⟨A1,H,YG lv nd ct r (by rw[r.1,e.1];exact hl)⟩,e.2,λ o μ' q=>?_⟩;cases o with
  | nx ρ=>exact λ σ H' ⟨A,Hb,w⟩=>fin σ H' A Hb ρ μ' .non .non w .non q
  | rt d' ρ'=>exact λ v σ H' A Hb w r'=>fin σ H' A Hb ρ' μ' v d' w r' q
  | bk ρ=>exact q.elim
  | ct ρ=>exact q.elim
theorem o8 {base:Heap}{x:Str}{f:Addr}{k:Nat}{b:FM}(F:FunD G.K x qual st f fd) (S:FnScope N ps (Ab st)) (hl:ps.length<=N.length)
  (hb:∀ (cdv:Value) (A:Around) (outer:List Env) (s:Shared) (H:Hp) (E:XK),Room k (A.deeper (envOfC qual (Ab st) s.heap.objs.size f cdv))->PSMs (cxOf CX0 P w G.K mg base N qual (Ab st) f cdv A outer s H E).nox G (Aw st) b)
  (hg:∀ ds d,g ds=some d->runM N.length ps.length b ds [] λ d' _=>d'=d) :
  FnOk P w G.K mg base CX0 (k+1) f fd ps (spD G g):=
 (fn_M F S hl hb).imp λ vs H Q E ⟨A,ds,d,lv,r,e,q⟩=>⟨A,ds,[],_,lv,List.nodup_nil,λ p hp=>(nomatch hp),r,hg ds d e,λ v H' A' μ' d' e' sm sb lv' nd' ct' fr' rv=>by
  subst e';exact q v H' (λ b u hb=>sm b u (λ z=>nomatch z) hb) (rv.mono (Ck λ a ha=>sb a ha (λ z=>nomatch z)))⟩
section
variable {a b c:Expr}{fa fb fc:FE}{p2 p:Pos}{fs:FA}{g:FM}
theorem lY {Hb:Hp}{μ:Mu}{gm:GM}{K:D->Mu->Prop}{Q:VK}{E:XK}(w1:OkM G A0 He Hb A σ H1 ρ μ) (r1:RepL G (hid A H1) vs ds) (e2:gm ds μ K)
  (k:∀ v H' d μ' A Hb,K d μ'->OkM G A0 He Hb A σ H' ρ μ'->Rep G (hid A H') v d->Q v H'):spM G gm vs H1 Q E:=by
 refine⟨A,ds,μ,K,w1.w.ok.live,w1.nd,λ p hp=>⟨w1.inA (Eo hp),w1.top p hp⟩,r1,e2,λ v H' A' μ' d kd sm sb lv nd ct fr rv=>?_⟩;have hA:∀ z,z∈(A.filter λ a=>decide (a∉ksM μ))++ksM μ'↔(z∈A/\z∉ksM μ)∨z∈ksM μ':=λ z=>by simp[z0s]
 generalize hA2:(A.filter λ a=>decide (a∉ksM μ))++ksM μ'=A2 at hA;have sub:∀ z∈A2,z∈A':=λ z hz=>by
  rcases (hA z).mp hz with h | h
  ·exact sb z h.1 h.2
  ·obtain⟨d,hd⟩:=il h;exact (ct _ hd).1
 have pl:Same (hid A H1) (hid A2 H'):=λ b u hb=>by
  unfold hid at hb;split at hb
  ·cases hb
  ·rename_i nb;rw[Ao]
   ·exact sm b u (λ z=>nb (w1.inA z)) hb
   ·intro z
    rcases (hA b).mp z with h | h
    ·exact nb h.1
    ·rcases fr b h with y | y
     ·exact nb (w1.inA y)
     ·rw[y] at hb;cases hb
 have own:∀ (i:Nat) (e:D) (q:Addr),ρ[i]?=some (.ow e)->σ[i]?=some (some (.ref q))->q∈A->q∉ksM μ/\q∉ksM μ'/\q∉A0:=λ i e q h1 h2 h3=>by
  have n:=w1.w.ow0 i e q h1 h2;have n1:q∉ksM μ:=λ z=>n (z0F _ z);refine⟨n1,λ z=>?_,λ z=>n (z0t _ z)⟩
  rcases fr q z with y | y
  ·exact n1 y
  ·exact (w1.w.ok.live q h3).ne y
 have keepB:∀ z,z∈A->z∉ksM μ->H' z=H1 z:=λ z hz nz=>by
  cases e:H1 z with
  | none=>exact absurd e (w1.w.ok.live z hz).ne
  | some u=>exact sm z u nz e
 have okp:Okp G A2 σ H' ρ:=by
  refine⟨w1.w.ok.len,λ z hz=>lv z (sub z hz),λ i e h=>?_,λ i e h=>?_,w1.w.ok.inj⟩
  ·obtain⟨v,q1,q2⟩:=w1.w.ok.fz i e h;exact⟨v,q1,q2.mono pl⟩
  ·obtain⟨q,q1,q2,q3⟩:=w1.w.ok.ow i e h;have n:=own i e q h q1 q2;exact⟨q,q1,(hA q).mpr (.inl ⟨q2,n.1⟩),q3.keep (keepB q q2 n.1) pl⟩
 have hb2:∀ z,z∈(A2.filter λ a=>decide (a∉ksM μ'++A0))↔z∈A2/\z∉ksM μ'++A0:=λ z=>by simp[z0s]
 have sub2:∀ z∈ksM μ'++A0,z∈A2:=λ z hz=>by
  rcases z0y.mp hz with h | h
  ·exact (hA z).mpr (.inr h)
  ·exact (hA z).mpr (.inl ⟨w1.subA0 z h,λ y=>w1.n0 y h⟩)
 refine k v H' d μ' A2 (hid (A2.filter λ a=>decide (a∉ksM μ'++A0)) H') kd ⟨⟨Ai,sub2,λ z hz=>?_,λ z hz h=>?_,okp,λ i e q h1 h2 z=>?_,w1.w.lt⟩,λ b u hb=>?_,w1.l0,λ z hz=>?_,nd,λ q hq=>((ct q hq).2).sub sub⟩ (rv.mono (Ck sub))
 ·by_cases y:z∈ksM μ'++A0
  ·exact .inl y
  ·right;unfold hid;rw[if_pos ((hb2 z).mpr ⟨hz,y⟩)]
 ·rw[Ao (λ y=>((hb2 z).mp y).2 hz)] at h;exact (lv z (sub z (sub2 z hz))).ne h
 ·obtain⟨q',q1,q2,_⟩:=w1.w.ok.ow i e h1;rw[h2] at q1;cases q1;have n:=own i e q h1 h2 q2
  rcases z0y.mp z with y | y
  ·exact n.2.1 y
  ·exact n.2.2 y
 ·have h1:=w1.same b u hb;have nb:b∉ksM μ:=λ z=>by rw[w1.nf b z] at hb;cases hb
  rw[Ao]
  ·exact sm b u nb h1
  ·intro z;obtain⟨z1,z2⟩:=(hb2 b).mp z
   rcases (hA b).mp z1 with y | y
   ·rcases w1.fr y.1 with x | x
    ·exact z2 (z0t _ x)
    ·rw[x] at hb;cases hb
   ·exact z2 (z0F _ y)
 ·rcases fr z hz with y | y
  ·exact w1.nf z y
  ·exact w1.same.free y
theorem aa {k:Nat}{f:Addr}{gm:GM}{x:Str}(F:FnOk X.prog X.w X.K X.mg X.base CX0 k f fd ps (spM G gm)) (hr:Room k X.A) (hg:Gl X x) (hm:X.mg x=some (.ref f)) (hk:PySem.W.keepIn X.K (.ref f)=true)
  (hb:Binds X.K fd ps []) (ha:PFA X G (a::es) fs) (hdb:(x==("__debug__":Str))=false:=by decide) (he:starEach (a::es) X.env=(false,eval a X.env)::starEach es X.env:=by rfl) (hpl:(backTo pos (starEach es X.env)).any (·.1)=false:=by rfl) :
  PMX X G (.Call (.Name x p) (a::es) [] pos) (calX gm fs):=λ A0 He π s σ H Q I ⟨ρ,μ,K,⟨A,Hb,w⟩,⟨ds,e1,e2⟩,k⟩=>by
 refine Ve F hr hg hm hk hb .nil Yx (@ha A) hdb he hpl π s σ H Q I ⟨ρ,ds,w.w.ok,e1,λ vs H1 s1 r1=>?_⟩;have w1:=w.mono s1;show spM G gm (vs++[]) H1 Q E0;rw[z0v];exact lY w1 r1 e2 k
theorem Ju {F:Hp}{μ:Mu}(hc:∀ p∈μ,Rep G F (.ref p.1) p.2):∀ (n:Nat) {v:V}{d:D},Rep G F v d->Rep G F v (der n μ d)
 | 0,v,d,r=>r
 | n+1,v,d,r=>by
  have getm:∀ {ds:List D}{i:Nat}{e:D},(ds.map (der n μ))[i]?=some e->∃ e0,ds[i]?=some e0/\e=der n μ e0:=λ {ds i e} h=>by
   rw[z0c] at h;cases q:ds[i]? with
   | none=>rw[q] at h;cases h
   | some e0=>rw[q] at h;exact⟨e0,rfl,(z0f h).symm⟩
  cases r with
  | non=>exact .non
  | bl b=>exact .bl b
  | int i=>exact .int i
  | str x=>exact .str x
  | tup h l k=>
   refine .tup h (by rw[z01];exact l) λ i x e h1 h2=>?_;obtain⟨e0,q1,rfl⟩:=getm h2;exact Ju hc n (k i x e0 h1 q1)
  | lst h l k=>
   refine .lst h (by rw[z01];exact l) λ i x e h1 h2=>?_;obtain⟨e0,q1,rfl⟩:=getm h2;exact Ju hc n (k i x e0 h1 q1)
  | dk h l k=>
   refine .dk h (by rw[z0i];exact l) λ i x e h1 h2=>?_;rw[z0i,z0c] at h2;rename_i kds;cases q:kds[i]? with
   | none=>rw[q] at h2;cases h2
   | some e0=>
    rw[q] at h2;cases h2;exact Ju hc n (k i x e0.2 h1 (by rw[z0c,q];rfl))
  | dt h l k=>exact .dt h l k
  | adr a=>
   show Rep G F _ (match μ.lookup a with | some c=>der n μ c | none=>.adr a);cases e:μ.lookup a with
   | none=>exact .adr a
   | some c=>exact Ju hc n (hc _ (lookup_mem e))
  | ob c h l k=>exact .ob c h l k
  | err c h q f=>exact .err c h q f
theorem QD {A:List Addr}{π:zP}{s:Shared}{σ:St}:∀ {μ:Mu}{H:Hp},Inv X π σ H s->(ksM μ).Nodup->(∀ p∈μ,p.1∈A/\Top G A H p.1 p.2) ->
  ∃ H' A',Inv X π σ H' s/\(∀ b,b∉ksM μ->H' b=H b)/\(∀ b,b∈A'↔b∈A/\b∉ksM μ)/\Same (hid A H) (hid A' H')/\∀ p∈μ,Rep G (hid A' H') (.ref p.1) p.2
 | [],H,I,_,_=>⟨H,A,I,λ _ _=>rfl,λ b=>by simp[ksM],Same.refl _,λ p hp=>(nomatch hp)⟩
 | (a,d)::μ,H,I,nd,ct=>by
  obtain⟨na,nd'⟩:=z0O.mp nd;obtain⟨H1,A1,i1,i2,i3,i4,i5⟩:=QD (μ:=μ) I nd' λ p hp=>ct p (z07 _ hp);obtain⟨hA,t⟩:=ct (a,d) z0k;have ha:a∈A1:=(i3 a).mpr ⟨hA,na⟩;obtain⟨H2,j1,j2,j3,j4⟩:=WN i1 ha (t.keep (i2 a na) i4);refine⟨H2,A1.filter λ b=>decide (b≠a),j1,λ b hb=>?_,λ b=>?_,i4.trans j3,λ p hp=>?_⟩
  ·have hb':b≠a/\b∉ksM μ:=⟨λ z=>hb (by rw[z];exact z0k),λ z=>hb (z07 _ z)⟩;rw[j2 b hb'.1,i2 b hb'.2]
  ·rw[Jm,i3 b];show _↔b∈A/\b∉a::ksM μ;simp only[z06,not_or];exact⟨λ ⟨⟨p1,p2⟩,p3⟩=>⟨p1,p3,p2⟩,λ ⟨p1,p3,p2⟩=>⟨⟨p1,p2⟩,p3⟩⟩
  ·rcases z06.mp hp with z | z
   ·rw[z];exact j4
   ·exact (i5 p z).mono j3
theorem fK (n:Nat) (h:PSM X G st g):PSM X G st (frzM n g):=λ A0 He π s σ H Ds I ⟨ρ,μ,K,⟨A,Hb,w⟩,q,k⟩=>by
 obtain⟨H',A',i1,i2,i3,i4,i5⟩:=QD (A:=A) I w.nd λ p hp=>⟨w.inA (Eo hp),w.top p hp⟩;have getm:∀ {i:Nat}{z:Slot},(ρ.map (derS n μ))[i]?=some z->(∃ d,ρ[i]?=some (.fz d)/\z=.fz (der n μ d))∨(ρ[i]?=some z/\∀ d,z≠.fz d):=λ {i z} hz=>by
  rw[z0c] at hz;cases q:ρ[i]? with
  | none=>rw[q] at hz;cases hz
  | some y=>
   rw[q] at hz;cases y with
   | fz d=>exact .inl ⟨d,rfl,(z0f hz).symm⟩
   | ow d=>cases hz;exact .inr ⟨rfl,λ d=>nofun⟩
   | un=>cases hz;exact .inr ⟨rfl,λ d=>nofun⟩
 have getO:∀ {i:Nat}{d:D},(ρ.map (derS n μ))[i]?=some (.ow d)->ρ[i]?=some (.ow d):=λ {i d} hz=>by
  rcases getm hz with ⟨_,_,e⟩ | ⟨e,_⟩
  ·cases e
  ·exact e
 have sub0:∀ a∈A0,a∈A':=λ a ha=>(i3 a).mpr ⟨w.subA0 a ha,λ z=>w.n0 z ha⟩;have lv:∀ a∈A',Nt (H' a):=λ a ha=>by
  obtain⟨h1,h2⟩:=(i3 a).mp ha;rw[i2 a h2];exact w.w.ok.live a h1
 have okp:Okp G A' σ H' (ρ.map (derS n μ)):=by
  refine⟨by rw[z01];exact w.w.ok.len,lv,λ i d hz=>?_,λ i d hz=>?_,λ i j d e a h1 h2 h3 h4=>w.w.ok.inj i j d e a (getO h1) (getO h2) h3 h4⟩
  ·rcases getm hz with ⟨d0,e0,e1⟩ | ⟨_,e⟩
   ·cases e1;obtain⟨v,q1,q2⟩:=w.w.ok.fz i d0 e0;exact⟨v,q1,Ju i5 n (q2.mono i4)⟩
   ·exact absurd rfl (e d)
  ·obtain⟨a,q1,q2,q3⟩:=w.w.ok.ow i d (getO hz);have na:a∉ksM μ:=λ z=>w.w.ow0 i d a (getO hz) q1 (z0F _ z);exact⟨a,q1,(i3 a).mpr ⟨q2,na⟩,q3.keep (i2 a na) i4⟩
 have hm:∀ z,z∈(A'.filter λ a=>decide (a∉A0))↔z∈A'/\z∉A0:=λ z=>by simp[z0s]
 refine @h A0 He π s σ H' Ds i1 ⟨_,[],K,⟨A',hid (A'.filter λ a=>decide (a∉A0)) H',⟨Ai,sub0,λ a ha=>?_,λ a ha hz=>?_,okp,λ i d a h1 h2 z=>?_,λ x d hx h0=>w.w.lt x d hx (getO h0)⟩,λ b u hb=>?_,w.l0,λ a ha=>(nomatch ha),List.nodup_nil,λ p hp=>(nomatch hp)⟩,q,k⟩
 ·by_cases y:a∈A0
  ·exact .inl y
  ·right;unfold hid;rw[if_pos ((hm a).mpr ⟨ha,y⟩)]
 ·rw[Ao (λ y=>((hm a).mp y).2 ha)] at hz;exact (lv a (sub0 a ha)).ne hz
 ·exact w.w.ow0 i d a (getO h1) h2 (z0t _ z)
 ·have nb:b∉ksM μ:=λ z=>by rw[w.nf b z] at hb;cases hb
  rw[Ao]
  ·rw[i2 b nb];exact w.same b u hb
  ·intro z;obtain⟨z1,z2⟩:=(hm b).mp z
   rcases w.fr ((i3 b).mp z1).1 with x | x
   ·exact z2 x
   ·rw[x] at hb;cases hb
end
section
variable {a:Expr}{fa:FE}{p:Pos}{ta:TA}
end
section
open PySem.MeetsSeq PySem.SeqAt
end
section
theorem lZ {l:Addr}(t:Top G A H l (.lst ds)):tyV X.K "list" (.ref l) H:=by
 obtain⟨xs,h,_⟩:=t;exact .inl ⟨rfl,xs,.of h⟩
end
section
variable {a:Expr}{fa:FE}{p2 px rp p:Pos}{h:FZ}
end
section
variable {t u:Str}{elt iter:Expr}{ifs:List Expr}{p1 p2 pt:Pos}{k1:Nat}
end
open Classical in
noncomputable def theD (g:GM) (P:List D->D->Prop):List D->Option D:=λ ds=>if h:∃ d,g ds [] (λ d' _=>d'=d)/\P ds d then some (choose h) else none
theorem fL {g:GM}{P:List D->D->Prop}{d:D}(h:theD g P ds=some d):g ds [] (λ d' _=>d'=d):=by
 unfold theD at h;split at h
 ·rename_i q;cases h;exact (Classical.choose_spec q).1
 ·cases h
theorem fO {g:GM}{P:List D->D->Prop}{d:D}(h:g ds [] λ d' _=>d'=d) (p:P ds d):∃ e,theD g P ds=some e/\P ds e:=by
 have q:∃ d,g ds [] (λ d' _=>d'=d)/\P ds d:=⟨d,h,p⟩;exact⟨Classical.choose q,dif_pos q,(Classical.choose_spec q).2⟩
section
variable {a b c:Expr}{fa fb fc:FE}{p2:Pos}{fs:FA}{h:FXM}
theorem fM {k:Nat}{x:Str}{p:Pos}{d:Dx X.K X.mg x st ps}{g:GM}(F:FnOk X.prog X.w X.K X.mg X.base CX0 k d.f d.fd ps (spM G g)) (hr:Room k' X.A) (ha:PFA X G (a::es) fs) (hle:k<=k':=by omega) (hg:Gl X x:=by rfl) (hdb:(x==("__debug__":Str))=false:=by decide)
  (he:starEach (a::es) X.env=(false,eval a X.env)::starEach es X.env:=by rfl) (hpl:(backTo pos (starEach es X.env)).any (·.1)=false:=by rfl):PMX X G (.Call (.Name x p) (a::es) [] pos) (calX g fs):=aa F (hr.mono hle) hg d.m d.F.kp d.B ha hdb he hpl
theorem sXM (hN:X.N.Nodup) (i:Nat) {x:Str}{p:Pos}(ha:PMX X G a h) (hi:X.N[i]?=some x:=by rfl) (hx:Loc X.env.scope x:=by first | exact Or.inl rfl | exact Or.inr rfl) (hs:swapsWith a (some (.Name x p)) pos.line X.env=pure false:=by rfl)
  (hf:X.fn x=true∨X.env.scope.names.lookup x=some .local :=by first | exact .inl rfl | exact .inr rfl | assumption):PSM X G (.Assign [.Name x p] a pos) (K5 i h):=aW (λ _ h=>QL hN hi hx h hs hf) ha
end
theorem fnM {base:Heap}{x:Str}{k:Nat}{b:FM}(d:Dx G.K mg x st ps) (S:FnScope N ps (Ab st))
  (hb:∀ (cdv:Value) (A:Around) (outer:List Env) (s:Shared) (H:Hp) (E:XK),Room k (A.deeper (envOfC x (Ab st) s.heap.objs.size d.f cdv))->PSMs (cxOf CX0 P w G.K mg base N x (Ab st) d.f cdv A outer s H E).nox G (Aw st) b) (hl:ps.length<=N.length:=by decide) :
  FnOk P w G.K mg base CX0 (k+1) d.f d.fd ps (spM G (runM N.length ps.length b)):=fn_M d.F S hl hb
theorem fnDM {base:Heap}{x:Str}{k:Nat}{b:FM}{Pr:List D->D->Prop}(d:Dx G.K mg x st ps) (S:FnScope N ps (Ab st))
  (hb:∀ (cdv:Value) (A:Around) (outer:List Env) (s:Shared) (H:Hp) (E:XK),Room k (A.deeper (envOfC x (Ab st) s.heap.objs.size d.f cdv))->PSMs (cxOf CX0 P w G.K mg base N x (Ab st) d.f cdv A outer s H E).nox G (Aw st) b) (hl:ps.length<=N.length:=by decide) :
  FnOk P w G.K mg base CX0 (k+1) d.f d.fd ps (spD G (theD (runM N.length ps.length b) Pr)):=o8 d.F S hl hb λ ds d' h=>fL h
end PV
namespace PV
open PySem PySem.Spec PySem.Calls L2 EX
open PyProof.Rows hiding St
section
variable {A:Around}{r l:Addr}{items:Array Value}
end
section
variable {a:Expr}{fa:FE}{p pos2 p2:Pos}{te:TE}
end
end PV
namespace PV
open PySem PySem.Spec L2 EX
open PyProof.Rows hiding St
section
variable {a b c:Expr}{fa fb fc:FE}{p2 p:Pos}{fs:FA}{g gs gb:FM}{h:FXM}
end
section
variable {a b:Expr}{fs:FA}
end
def rIns:V->List V->Hp->VK->Prop:=λ x vs H Q=>∃ l xs i y,x=.ref l/\vs=[.int i,y]/\H l=some (.lst xs)/\0<=i/\i.toNat<=xs.length/\xs.length<sizeLine/\Q .non (upd H l (.lst (xs.take i.toNat++y::xs.drop i.toNat)))
section
variable {a b:Expr}{fs:FA}
theorem fP {i:Int}(h0:0<=i) (h:i.toNat<=16777216):¬(!Builtin.List.listFitsIndex i)=true:=by
 have e:Builtin.List.listFitsIndex i=true:=by
  unfold Builtin.List.listFitsIndex;rw[z0q,z0K,z0K];omega
 rw[e];exact z0m
theorem fQ (its:List Value) (u:Value) {i:Int}(h0:0<=i) (h:i.toNat<=its.length):(λ xs:Array Value=>have k:=if i<0 then (i+((xs.size:Nat):Int)).toNat else min i.toNat xs.size;(xs.extract 0 k).push u++xs.extract k) its.toArray=(its.take i.toNat++u::its.drop i.toNat).toArray:=by
 show (its.toArray.extract 0 (if i<0 then (i+((its.toArray.size:Nat):Int)).toNat else min i.toNat its.toArray.size)).push u++its.toArray.extract (if i<0 then (i+((its.toArray.size:Nat):Int)).toNat else min i.toNat its.toArray.size)=_;rw[if_neg (by omega),z0g,Nat.min_eq_left h];apply Array.ext';simp;exact List.take_of_length_le (by rw[z0W];exact z03 _)
theorem lg:MtM X "list.insert" rIns:=by
 intro π s σ H x vs v us Q I rx rv h;obtain⟨l,xs,i,y,rfl,rfl,hH,h0,hk,hz,q⟩:=h;cases rx;obtain⟨ui,u,rfl,ri,ru⟩:=rv.two;obtain⟨t,rfl⟩:=ri;obtain⟨z,its,n,r,hl,e⟩:=I.lstM hH;have ll:xs.length=its.length:=r.length;have hs:its.toArray.size<=sizeLine:=by rw[z0g];omega
 have sl:sizeLine=16777216:=rfl;have M:=PySem.AutoListH.list_insert_list_int_val_1 l its.toArray n i t u (fP h0 (by omega)) hs;clear sl;refine call_meets F.slot_list_insert ⟨_,e,rfl⟩ F.entry_list_insert (F.args_list_insert_3 _ _ _) M ⟨e,?_⟩;refine⟨.non,_,I.lset (its':=its.take i.toNat++u::its.drop i.toNat) hH e (fQ its u h0 (by omega)) ((r.take _).append (.cons ru (r.drop _))) ?_,rfl,q⟩;rw[z0A,z0o,z0T,z0W];omega
def insM:D->List D->Option (D×D)
 | .lst ds,[.int i,x]=>if 0<=i/\i.toNat<=ds.length/\ds.length<sizeLine then some (.non,.lst (ds.take i.toNat++x::ds.drop i.toNat)) else none
 | _,_=>none
theorem aj:SndM G rIns insM:=λ A H l vs c ds v c' Q lv hA t r e k=>by
 unfold insM at e;split at e
 ·rename_i zs i x;split at e
  ·rename_i hz;cases e;obtain⟨xs,h1,h2⟩:=t;obtain⟨y,ys,rfl,r1,r2⟩:=r.uncons;obtain⟨y2,ys2,rfl,r3,r4⟩:=r2.uncons;have e0:=r4.nil_inv;subst e0;cases r1;refine⟨l,xs,i,y2,rfl,rfl,h1,hz.1,by rw[h2.1];exact hz.2.1,by rw[h2.1];exact hz.2.2,k _ _ (λ b o nb hb=>by rw[Ad nb];exact hb) ⟨_,Ae,?_⟩ .non⟩;rw[Cm hA];exact (h2.take _).append (.cons r3 (h2.drop _))
  ·cases e
 ·cases e
theorem lu (A:List Addr) (H:Hp) (l:Addr) (c:D) (ds:List D) (vc:D×D) (e:insM c ds=some vc) (t:Top G A H l c):tyV X.K "list" (.ref l) H:=by
 unfold insM at e;split at e
 ·exact lZ t
 ·cases e
theorem mIns {x:Str}(js:List Nat) (hv:PE X (.Name x xpos) (tVar i)) (ha:PFA X G [a,b] fs) (hbase:attributeBase (.Name x xpos) "insert" X.env (eval (.Name x xpos) X.env)=eval (.Name x xpos) X.env:=by rfl)
  (hfew:((backTo pos (starEach [a,b] X.env)).all (λ x=>!x.1)&&(backToKw pos (keywordEach [] X.env)).all (λ x=>x.1.isSome)&&decide ([a,b].length+([]:List Keyword).length+(if ([]:List Keyword).isEmpty then 0 else 1)<30))=true:=by rfl)
  (hline:(apos.endLine==pos.line)=true:=by rfl) (hs:starEach [a,b] X.env=(false,eval a X.env)::starEach [b] X.env:=by rfl) (hpl:(backTo pos (starEach [b] X.env)).any (·.1)=false:=by rfl):PMX X G (.Call (.Attribute (.Name x xpos) "insert" apos) [a,b] [] pos) (mutX i js insM fs):=
 fH js PySem.F.plainAttrs_list PySem.F.slot_list_insert PySem.F.type_list_insert lg aj lu hv ha hbase hfew hline hs hpl
end
def Ws (i:Nat) (js:List Nat) (fk:FE) (h:FXM):FM:=λ ρ μ K=>h ρ μ λ v μ'=>∃ y a x z,vwM js fk ρ μ'=some y/\ρ[i]?=some (.fz (.adr a))/\μ'.lookup a=some x/\Df x y v=some z/\K (.nx ρ) (putA a z μ')
theorem ak {a b:Expr}{fa:FE}{h:FXM}{x:Str}(js:List Nat) (hu:X.A.units+1<cLine) (hv:PE X (.Name x xpos) (tVar i)) (ha:PF X G a fa) (hb:PMX X G b h)
  (hs:swapsWith b (some (.Subscript (.Name x xpos) a spos)) pos.line X.env=pure false:=by rfl):PSM X G (.Assign [.Subscript (.Name x xpos) a spos] b pos) (Ws i js fa h):=λ A0 He π s σ H D I ⟨ρ,μ,K,ok,e,k⟩=>by
 have ha':PE X a (λ σ H Q=>∃ A,tF G A fa σ H Q):=λ π s σ H Q I ⟨A,q⟩=>@ha A π s σ H Q I q;refine Ih hu hv ha' (@hb A0 He) hs π s σ H D I ⟨ρ,μ,_,ok,e,λ v H' d μ' A Hb ⟨y,p,x0,z,e2,hi,hl,e3,q⟩ w r=>?_⟩;have hm:=lookup_mem hl;obtain⟨ρ',e4,e5⟩:=Hs e2;refine⟨_,w.at hi,A,ρ',y,w.view e4,e5,λ yv H2 s2 r2=>?_⟩;have w2:=w.mono s2;obtain⟨u,q1,q2⟩:=OJ (w2.top _ hm) (w.inA (Eo hm)) e3 r2 (r.mono (Aq s2));exact⟨p,_,rfl,q1,k _ _ q _ _ ⟨A,_,w2.wr (Eo hm) (λ b x nb hb=>by rw[Ad nb];exact hb) q2⟩⟩
def Wt:D->Option D
 | .lst ds=>some (.lst ds)
 | _=>none
theorem fU {a:Expr}{fa:FE}{p:Pos}(hG:G.K=X.K) (hg:Gl X "list") (hm:X.mg "list"=none) (ha:PU X G a fa) (he:starEach [a] X.env=[(false,eval a X.env)]:=by rfl) :
  PN X G (.Call (.Name "list" p) [a] [] pos) (uF Wt fa):=λ A=>By (PB Gz hg hm RQ (Bh (@ha A) Dt he) (by decide) (by decide) he rfl) λ σ H Q ⟨ρ,d,o,e,k⟩=>by
 obtain⟨dx,e1,e2⟩:=Mi e;refine⟨ρ,dx,o,e1,λ v H1 s1 r1=>?_⟩;unfold Wt at e2;split at e2
 ·rename_i ds;cases e2;obtain⟨q,xs,rfl,h1,rr⟩:=r1.lst;refine⟨q,xs,rfl,.inl (by rw[<-hG];exact h1),λ l hl=>?_⟩;refine k l _ (s1.trans (Ay hl _)) (s1.free hl) ⟨xs,Ae,rr.mono λ b u hb=>?_⟩;unfold hid at hb;split at hb
  ·cases hb
  ·rename_i nb;have nl:b≠l:=λ z=>by rw[z,hl] at hb;cases hb
   rw[Ao,Ad nl]
   ·exact hb
   ·intro z
    rcases z06.mp z with z | z
    ·exact nl z
    ·exact nb z
 ·cases e2
def altF (f g:FE):FE:=λ ρ=>match f ρ with | some d=>some d | none=>g ρ
theorem lz {a:Expr}{f g:FE}(h1:PF X G a f) (h2:PF X G a g):PF X G a (altF f g):=λ A π s σ H Q I ⟨ρ,d,o,e,k⟩=>by
 unfold altF at e;split at e
 ·rename_i e1;cases e;exact @h1 A π s σ H Q I ⟨ρ,_,o,e1,k⟩
 ·exact @h2 A π s σ H Q I ⟨ρ,d,o,e,k⟩
end PV
namespace K03
open PySem L2 PV
abbrev cs (x:Str):List Nat:=x.cps.toList
def LET:Str:="abcdefghijklmnopqrstuvwxyz"
def IsL (x:Str):Prop:=∀ c∈cs x,c∈cs LET
def KEPT:List Str:=["not","and","or","some","all"]
structure Wd (x:Str):Prop where
 lo:1<=x.length
 hi:x.length<=8
 isL:IsL x
 kept:x∉KEPT
structure Wl where
 n:Nat
 ms:List (Str×List Nat)
 ts:List (Str×List (Nat×Nat))
abbrev iN (t:Nat):D:=.int (t:Int)
abbrev pN (q:Nat×Nat):D:=.tup [.int (q.1:Int),.int (q.2:Int)]
def lM (l:List Nat):D:=.lst (l.map iN)
def lT (l:List (Nat×Nat)):D:=.lst (l.map pN)
def eM (ms:List (Str×List Nat)):List (Key×D):=ms.map λ p=>(.inr p.1,lM p.2)
def eT (ts:List (Str×List (Nat×Nat))):List (Key×D):=ts.map λ p=>(.inr p.1,lT p.2)
def kT (l:List (Nat×Nat)):D:=.dt (l.map λ q=>([(.inl (q.1:Int):Key),.inl (q.2:Int)],.bl true))
def oT (ts:List (Str×List (Nat×Nat))):List (Key×D):=ts.map λ p=>(.inr p.1,kT p.2)
structure WOk (W:Wl):Prop where
 n5:W.n<=5
 m3:W.ms.length<=3
 t3:W.ts.length<=3
 mw:∀ p∈W.ms,Wd p.1
 tw:∀ p∈W.ts,Wd p.1
 nd:(W.ms.map (·.1)++W.ts.map (·.1)).Nodup
 ml:∀ p∈W.ms,p.2.Nodup/\p.2.length<=100/\∀ t∈p.2,t<W.n
 tl:∀ p∈W.ts,p.2.Nodup/\p.2.length<=100/\∀ q∈p.2,q.1<W.n/\q.2<W.n
def iw (_:List D) (d:D):Prop:=d=.bl true
end K03
namespace K03
open PySem PySem.Spec L2 PV EX
open PyProof.Rows hiding St
noncomputable section
abbrev cs_:List Str:=["NoWord","NoThing","TooGreat"]
def c_KEPT_TEXTS:D:=(.tup ((["not","and","or","some","all"]:List Str).map .str))
def Ga:FS:=seqF (ifS (blF (bF ltD (vF 1) (uF lenD (vF 0)))) (retF (bF ixD (vF 0) (vF 1))) (nxF)) (retF (kF (.int 0)))
def Bd:List D->Option D:=runF 2 2 Ga
def DK:FS:=seqF (setF 10 (bF addD (bF addD (bF Bp (vF 3) (bF addD (vF 9) (kF (.int 3)))) (bF mulD (vF 9) (vF 9))) (bF mulD (uF intD (bF (eqD false) (vF 9) (vF 5))) (vF 7)))) (setF 8 (bF addD (vF 8) (bF ixE (vF 2) (bF modD (vF 10) (kF (.int 26))))))
def DN:FS:=seqF (setF 8 (kF (.str ""))) (seqF (forS (rngI (vF 4)) (BW 9) (DK)) (seqF (ifS (blF (bF (inF false) (vF 8) (lstF (Aa (kF (.str "not")) (Aa (kF (.str "and")) (Aa (kF (.str "or")) (Aa (kF (.str "some")) (Aa (kF (.str "all")) (nilA))))))))) (setF 8 (bF addD (vF 8) (kF (.str "x")))) (nxF)) (mutF appL 6 (vF 8))))
def G_:FS:=seqF (setF 2 (kF (.str "abcdefghijklmnopqrstuvwxyz"))) (seqF (setF 3 (bF modD (vF 0) (kF (.int 2147483629)))) (seqF (setF 4 (bF addD (kF (.int 1)) (bF modD (vF 3) (kF (.int 8))))) (seqF (setF 5 (bF modD (bF Bp (vF 3) (kF (.int 8))) (vF 4))) (seqF (setW 6 (lstF (nilA))) (seqF (forS (rngI (vF 1)) (BW 7) (DN)) (fzS [6] (retF (vF 6))))))))
def FP:List D->Option D:=runF 11 2 G_
def Cy:FS:=ifS (blF (bF (eqD false) (bF modD (vF 0) (kF (.int 3))) (kF (.int 0)))) (mutF appL 2 (bF (eqD false) (bF modD (bF Bp (bF Bp (vF 0) (kF (.int 3))) (bF shlD (kF (.int 1)) (vF 4))) (kF (.int 2))) (kF (.int 1)))) (seqF (setF 3 (bF modD (bF addD (bF addD (bF addD (bF mulD (vF 3) (vF 3)) (bF mulD (kF (.int 48271)) (vF 3))) (vF 4)) (kF (.int 1))) (kF (.int 2147483629)))) (mutF appL 2 (bF (eqD false) (bF modD (bF Bp (vF 3) (kF (.int 7))) (bF mulD (kF (.int 2)) (bF modD (vF 0) (kF (.int 3))))) (kF (.int 0)))))
def Ht:FS:=seqF (setW 2 (lstF (nilA))) (seqF (setF 3 (bF modD (bF Bp (vF 0) (kF (.int 3))) (kF (.int 2147483629)))) (seqF (forS (rngI (vF 1)) (BW 4) (Cy)) (fzS [2] (retF (vF 2)))))
def Ex:List D->Option D:=runF 5 2 Ht
def Ft:FT:=trF (bF ixE (vF 9) (vF 10))
def Hu:FE:=vF 10
def Fv:FT:=trF (bF ixE (vF 9) (vF 10))
def Fw:FE:=tupF (Aa (bF Bp (vF 10) (vF 3)) (Aa (bF modD (vF 10) (vF 3)) (nilA)))
def Bs:FS:=ifS (blF (bF ltD (vF 8) (vF 4))) (seqF (setF 9 (Am (Ex) (Aa (Am (Bd) (Aa (vF 0) (Aa (bF addD (bF addD (vF 1) (kF (.int 2))) (vF 8)) (nilA)))) (Aa (vF 3) (nilA))))) (putF 6 (bF ixE (vF 5) (vF 8)) (Gk (rngI (vF 3)) (Ft) (Hu)))) (seqF (setF 9 (Am (Ex) (Aa (Am (Bd) (Aa (vF 0) (Aa (bF subD (bF addD (bF addD (vF 1) (kF (.int 5))) (vF 8)) (vF 4)) (nilA)))) (Aa (bF mulD (vF 3) (vF 3)) (nilA))))) (putF 7 (bF ixE (vF 5) (vF 8)) (Gk (rngI (bF mulD (vF 3) (vF 3))) (Fv) (Fw))))
def HB:FS:=seqF (setF 2 (Am (Bd) (Aa (vF 0) (Aa (vF 1) (nilA))))) (seqF (setF 3 (bF ixE (lstF (Aa (bF modD (bF Bp (vF 2) (kF (.int 9))) (kF (.int 5))) (Aa (kF (.int 5)) (nilA)))) (uF intD (bF (eqD false) (bF modD (bF Bp (vF 2) (kF (.int 45))) (kF (.int 12))) (kF (.int 11)))))) (seqF (setF 4 (bF modD (vF 2) (kF (.int 4)))) (seqF (setF 5 (Am (FP) (Aa (Am (Bd) (Aa (vF 0) (Aa (bF addD (vF 1) (kF (.int 1))) (nilA)))) (Aa (bF addD (vF 4) (bF modD (bF Bp (vF 2) (kF (.int 4))) (kF (.int 4)))) (nilA))))) (seqF (setW 6 (kF (.dk []))) (seqF (setW 7 (kF (.dk []))) (seqF (forS (rngI (uF lenE (vF 5))) (BW 8) (Bs)) (fzS [6,7] (retF (lstF (Aa (vF 3) (Aa (vF 6) (Aa (vF 7) (nilA)))))))))))))
def DW:List D->Option D:=runF 10 2 HB
def Ea:FS:=ifS (blF (bF gtD (vF 0) (vF 1))) (retF (Wm "TooGreat" "number" "most" (Aa (vF 0) (Aa (vF 1) (nilA))))) (nxF)
def An:List D->Option D:=runF 2 2 Ea
def CQ:FS:=ifS (orT (blF (bF ltD (vF 1) (kF (.int 0)))) (blF (bF geD (vF 1) (vF 0)))) (retF (excF "NoThing" "thing" okID (vF 1))) (nxF)
def Aj:List D->Option D:=runF 2 2 CQ
def B_:FS:=seqF (Dg (Am (Aj) (Aa (vF 0) (Aa (vF 3) (nilA))))) (putF 2 (vF 3) (kF (.bl true)))
def Es:FS:=seqF (setW 2 (kF (.dk []))) (seqF (forS (seqA (vF 1)) (BW 3) (B_)) (fzS [2] (retF (vF 2))))
def Ca:List D->Option D:=runF 4 2 Es
def Be:FS:=seqF (Dg (Am (Aj) (Aa (vF 0) (Aa (vF 3) (nilA))))) (seqF (Dg (Am (Aj) (Aa (vF 0) (Aa (vF 4) (nilA))))) (S8 2 (Aa (vF 3) (Aa (vF 4) (nilA))) (kF (.bl true))))
def FQ:FS:=seqF (setW 2 (kF (.dt []))) (seqF (forS (seqA (vF 1)) (tupG 2 (Bq 3 (Bq 4 (nilG)))) (Be)) (fzS [2] (retF (vF 2))))
def Cu:List D->Option D:=runF 5 2 FQ
def Ey:FE:=bF (inF false) (vF 1) (kF (.str "abcdefghijklmnopqrstuvwxyz"))
def Kl:FS:=seqF (ifS (orT (blF (bF (inF false) (vF 0) (kF c_KEPT_TEXTS))) (orT (blF (bF (eqD false) (uF lenE (vF 0)) (kF (.int 0)))) (blF (bF gtD (uF lenE (vF 0)) (kF (.int 8)))))) (retF (kF (.bl false))) (nxF)) (retF (uF allD (Gk (seqA (vF 0)) (allT) (Ey))))
def BL:List D->Option D:=runF 1 1 Kl
def Bt:FEz:=seqZ (ifEZ (Jl (notT (trF (Am (BL) (Aa (vF 4) (nilA)))))) (retF (excF "NoWord" "word" okSD (vF 4)))) (K4 "marked" (vF 4) (Am (Ca) (Aa (vF 1) (Aa (vF 5) (nilA)))))
def Bu:FEz:=seqZ (ifEZ (orTE (Jl (notT (trF (Am (BL) (Aa (vF 4) (nilA)))))) (inTE "marked" (vF 4))) (retF (excF "NoWord" "word" okSD (vF 4)))) (K4 "tied" (vF 4) (Am (Cu) (Aa (vF 1) (Aa (vF 6) (nilA)))))
def Bb:FEz:=seqZ (HS (Dg (Am (An) (Aa (vF 1) (Aa (kF (.int 5)) (nilA)))))) (seqZ (HS (Dg (Am (An) (Aa (uF lenE (vF 2)) (Aa (kF (.int 3)) (nilA)))))) (seqZ (HS (Dg (Am (An) (Aa (uF lenE (vF 3)) (Aa (kF (.int 3)) (nilA)))))) (seqZ (N8 (WM "size" (vF 1))) (seqZ (N8 (Kz "marked" (kF (.dk [])))) (seqZ (N8 (Kz "tied" (kF (.dk [])))) (seqZ (forZ (JQ (vF 2)) (tupG 2 (Bq 4 (Bq 5 (nilG)))) (Bt)) (seqZ (forZ (JQ (vF 3)) (tupG 2 (Bq 4 (Bq 6 (nilG)))) (Bu)) (nilZ))))))))
def A_:Addr->List D->Option (Sum Ef D):=Jr 7 4 Bb
def Dq:FS:=seqF (setF 3 (kF .non)) (seqF (tryF cs_ 4 (setZ 3 (mkIZ "World" (A_) (Aa (vF 0) (Aa (vF 1) (Aa (vF 2) (nilA)))))) (setF 3 (vF 4))) (retF (vF 3)))
def Bf:List D->Option D:=runF 5 3 Dq
def Hv:FS:=seqF (ifS (blF (bF (inF true) (vF 1) (uF (fldD "marked") (vF 0)))) (retF (excF "NoWord" "word" okSD (vF 1))) (nxF)) (seqF (Dg (Am (Aj) (Aa (uF (fldD "size") (vF 0)) (Aa (vF 2) (nilA))))) (retF (bF (inF false) (vF 2) (bF ixE (uF (fldD "marked") (vF 0)) (vF 1)))))
def Ez:List D->Option D:=runF 3 3 Hv
def Gj:FS:=seqF (ifS (blF (bF (inF true) (vF 1) (uF (fldD "tied") (vF 0)))) (retF (excF "NoWord" "word" okSD (vF 1))) (nxF)) (seqF (Dg (Am (Aj) (Aa (uF (fldD "size") (vF 0)) (Aa (vF 2) (nilA))))) (seqF (Dg (Am (Aj) (Aa (uF (fldD "size") (vF 0)) (Aa (vF 3) (nilA))))) (retF (inTF (Aa (vF 2) (Aa (vF 3) (nilA))) (bF ixE (uF (fldD "tied") (vF 0)) (vF 1))))))
def Di:List D->Option D:=runF 4 4 Gj
def Eb:FS:=ifS (blF (bF (eqD true) (TY "World" "has" (noX (Ez)) (vF 3) (Aa (vF 4) (Aa (kF (.int 0)) (nilA)))) (bF (inF false) (kF (.int 0)) (bF ixE (vF 1) (vF 4))))) (retF (kF (.bl false))) (nxF)
def Ec:FS:=ifS (blF (bF (eqD true) (TY "World" "leads" (noX (Di)) (vF 3) (Aa (vF 4) (Aa (kF (.int 0)) (Aa (kF (.int 0)) (nilA))))) (bF (inF false) (tupF (Aa (kF (.int 0)) (Aa (kF (.int 0)) (nilA)))) (bF ixE (vF 2) (vF 4))))) (retF (kF (.bl false))) (nxF)
def FW:FS:=seqF (setF 3 (Am (Bf) (Aa (vF 0) (Aa (vF 1) (Aa (vF 2) (nilA)))))) (seqF (ifS (notT (trF (uF (isoD "World" true) (vF 3)))) (retF (kF (.bl false))) (nxF)) (seqF (ifS (blF (bF gtD (vF 0) (kF (.int 0)))) (seqF (forS (seqA (vF 1)) (BW 4) (Eb)) (forS (seqA (vF 2)) (BW 4) (Ec))) (nxF)) (retF (kF (.bl true)))))
def Ed:List D->Option D:=runF 5 3 FW
def JF:FM:=iu 1 (vF 2) (newX (uF Wt (bF ixE (vF 0) (vF 2))))
def K6:FM:=seqM (puM (setW 1 (kF (.dk [])))) (seqM (forM (seqA (vF 0)) (BW 2) (JF)) (pubM 1 (ir (pvX [] (vF 1)))))
def Gb:GM:=runM 3 1 K6
def Oa:FM:=seqM (K5 3 (pvX [0] (uF Pn (vU 0)))) (seqM (puM (ifS (blF (bF (eqD false) (vF 3) (lstF (nilA)))) (retN) (nxF))) (seqM (K5 4 (pvX [0] (bF ixE (vU 0) (bF ixE (vF 3) (bF modD (vF 1) (uF lenE (vF 3))))))) (JC (mutX 4 [4] insM (Aa (bF modD (bF Bp (vF 1) (kF (.int 3))) (bF addD (uF lenE (vU 4)) (kF (.int 1)))) (Aa (vF 2) (nilA)))))))
def Cd:GM:=runM 5 3 Oa
def Hw:FM:=JD 3 (bF addD (kF (.str "qqqqqqq")) (bF ixE (kF (.str "abcd")) (vF 6))) (newX (lstF (nilA)))
def Hx:FM:=JD 4 (bF addD (kF (.str "qqqqqqq")) (bF ixE (kF (.str "abcd")) (vF 6))) (newX (lstF (nilA)))
def Jv:FM:=seqM (puM (setF 5 (bF addD (bF maxD (vF 2) (kF (.int 0))) (bF modD (bF Bp (vF 1) (kF (.int 30))) (bF powD (kF (.int 10)) (kF (.int 59))))))) (seqM (puM (ifS (blF (bF (eqF false) (bF modD (bF Bp (vF 1) (kF (.int 6))) (kF (.int 2))) (kF (.int 1)))) (setF 5 (bF subD (uF negD (kF (.int 1))) (bF modD (bF Bp (vF 1) (kF (.int 30))) (bF powD (kF (.int 10)) (kF (.int 59)))))) (nxF))) (seqM (ifM [] (blF (bF (eqF false) (vF 0) (kF (.int 1)))) (forM (rngI (kF (.int 4))) (BW 6) (Hw)) (nxM)) (seqM (ifM [] (blF (bF (eqF false) (vF 0) (kF (.int 2)))) (forM (rngI (kF (.int 4))) (BW 6) (Hx)) (nxM)) (seqM (ifM [3] (andT (blF (bF (eqF false) (vF 0) (kF (.int 3)))) (blF (bF ltD (uF lenE (vU 3)) (kF (.int 3))))) (JD 3 (kF (.str "Red")) (newX (lstF (Aa (vF 5) (nilA))))) (nxM)) (seqM (ifM [4] (andT (blF (bF (eqF false) (vF 0) (kF (.int 4)))) (blF (bF ltD (uF lenE (vU 4)) (kF (.int 3))))) (JD 4 (kF (.str "near to")) (newX (lstF (Aa (tupF (Aa (vF 5) (Aa (vF 5) (nilA)))) (nilA))))) (nxM)) (seqM (ifM [3,4] (andT (blF (bF (eqF false) (vF 0) (kF (.int 5)))) (andT (blF (bF (eqF true) (vU 3) (kF (.dk [])))) (blF (bF ltD (uF lenE (vU 4)) (kF (.int 3)))))) (Ws 4 [3] (bF ixE (uF Pn (vU 3)) (kF (.int 0))) (newX (lstF (nilA)))) (nxM)) (seqM (ifM [] (blF (bF (eqF false) (vF 0) (kF (.int 6)))) (JC (calX (Cd) (Aa (vF 3) (Aa (vF 1) (Aa (vF 5) (nilA)))))) (nxM)) (seqM (ifM [] (blF (bF (eqF false) (vF 0) (kF (.int 7)))) (JC (calX (Cd) (Aa (vF 4) (Aa (vF 1) (Aa (tupF (Aa (vF 5) (Aa (kF (.int 0)) (nilA)))) (nilA)))))) (nxM)) (seqM (ifM [] (andT (blF (bF (eqF false) (vF 0) (kF (.int 8)))) (blF (bF gtD (vF 2) (kF (.int 0))))) (JC (calX (Cd) (Aa (vF 4) (Aa (vF 1) (Aa (tupF (Aa (bF subD (vF 2) (kF (.int 1))) (Aa (vF 5) (nilA)))) (nilA)))))) (nxM)) (seqM (puM (ifS (blF (bF (eqF false) (vF 0) (kF (.int 9)))) (retF (bF addD (kF (.int 6)) (bF modD (bF Bp (vF 1) (kF (.int 30))) (bF powD (kF (.int 10)) (kF (.int 59)))))) (nxF))) (puM (retF (vF 2)))))))))))))
def Fb:GM:=runM 7 5 Jv
def K7:FS:=seqF (ifS (trF (altF (uF (isoD "World" true) (vF 0)) (uF (isxD cs_ ["World"]) (vF 0)))) (retF (lstF (Aa (kF (.str "made")) (nilA)))) (nxF)) (seqF (ifS (orT (trF (uF (isxD cs_ ["NoName","NoPointing","NoSaying","Unlike"]) (vF 0))) (notT (trF (uF (isxD cs_ cs_) (vF 0))))) (retF (lstF (Aa (kF (.str "other")) (nilA)))) (nxF)) (seqF (ifS (andT (trF (uF (isxD cs_ ["TooGreat"]) (vF 0))) (notT (trF (uF (isxD cs_ ["NoWord","NoThing"]) (vF 0))))) (retF (lstF (Aa (kF (.str "great")) (Aa (uF (fldE cs_ "number") (vF 0)) (Aa (uF (fldE cs_ "most") (vF 0)) (nilA)))))) (nxF)) (seqF (ifS (andT (trF (uF (isxD cs_ ["NoWord"]) (vF 0))) (notT (trF (uF (isxD cs_ ["TooGreat","NoThing"]) (vF 0))))) (retF (lstF (Aa (kF (.str "word")) (Aa (uF (fldE cs_ "word") (vF 0)) (nilA))))) (nxF)) (seqF (ifS (andT (trF (uF (isxD cs_ ["NoThing"]) (vF 0))) (notT (trF (uF (isxD cs_ ["TooGreat","NoWord"]) (vF 0))))) (retF (lstF (Aa (kF (.str "thing")) (Aa (uF (fldE cs_ "thing") (vF 0)) (nilA))))) (nxF)) (retF (lstF (Aa (kF (.str "other")) (nilA))))))))
def CT:List D->Option D:=runF 1 1 K7
def DX:FS:=ifS (blF (bF (inF true) (vF 1) (kF (.str "abcdefghijklmnopqrstuvwxyz")))) (retF (kF (.bl false))) (nxF)
def Fx:FS:=seqF (forS (seqA (vF 0)) (BW 1) (DX)) (retF (kF (.bl true)))
def Ar:List D->Option D:=runF 2 1 Fx
def Eg:FS:=ifS (blF (bF gtD (uF lenE (vF 3)) (kF (.int 3)))) (retF (lstF (Aa (kF (.str "great")) (Aa (uF lenE (vF 3)) (Aa (kF (.int 3)) (nilA)))))) (nxF)
def DY:FS:=ifS (orT (blF (bF ltD (vF 5) (kF (.int 0)))) (blF (bF geD (vF 5) (vF 0)))) (retF (lstF (Aa (kF (.str "thing")) (Aa (vF 5) (nilA))))) (nxF)
def Eh:FS:=seqF (ifS (notT (trF (Am (Ar) (Aa (vF 4) (nilA))))) (retF (lstF (Aa (kF (.str "word")) (Aa (vF 4) (nilA))))) (nxF)) (forS (seqA (bF ixE (vF 1) (vF 4))) (BW 5) (DY))
def HD:FS:=ifS (orT (blF (bF ltD (vF 5) (kF (.int 0)))) (blF (bF geD (vF 5) (vF 0)))) (retF (lstF (Aa (kF (.str "thing")) (Aa (vF 5) (nilA))))) (nxF)
def Fd:FS:=forS (seqA (vF 6)) (BW 5) (HD)
def Dd:FS:=seqF (ifS (orT (notT (trF (Am (Ar) (Aa (vF 4) (nilA))))) (blF (bF (inF false) (vF 4) (vF 1)))) (retF (lstF (Aa (kF (.str "word")) (Aa (vF 4) (nilA))))) (nxF)) (forS (seqA (bF ixE (vF 2) (vF 4))) (BW 6) (Fd))
def Dm:FS:=seqF (ifS (blF (bF gtD (vF 0) (kF (.int 5)))) (retF (lstF (Aa (kF (.str "great")) (Aa (vF 0) (Aa (kF (.int 5)) (nilA)))))) (nxF)) (seqF (forS (seqA (lstF (Aa (vF 1) (Aa (vF 2) (nilA))))) (BW 3) (Eg)) (seqF (forS (seqA (vF 1)) (BW 4) (Eh)) (seqF (forS (seqA (vF 2)) (BW 4) (Dd)) (retF (lstF (Aa (kF (.str "made")) (nilA)))))))
def Ce:List D->Option D:=runF 7 3 Dm
def Rm:FM:=seqM (K5 5 (calX (Gb) (Aa (vF 2) (nilA)))) (seqM (K5 6 (calX (Gb) (Aa (vF 3) (nilA)))) (seqM (K5 7 (calX (Fb) (Aa (bF addD (kF (.int 1)) (bF modD (vF 4) (kF (.int 9)))) (Aa (bF Bp (vF 4) (kF (.int 9))) (Aa (vF 1) (Aa (vF 5) (Aa (vF 6) (nilA)))))))) (seqM (ifM [] (blF (bF (eqD false) (bF modD (bF Bp (vF 4) (kF (.int 9))) (kF (.int 3))) (kF (.int 1)))) (K5 7 (calX (Fb) (Aa (bF addD (kF (.int 1)) (bF modD (bF Bp (vF 4) (kF (.int 27))) (kF (.int 9)))) (Aa (bF Bp (vF 4) (kF (.int 243))) (Aa (vF 7) (Aa (vF 5) (Aa (vF 6) (nilA)))))))) (nxM)) (frzM 6 (puM (ifS (blF (bF (eqD true) (Am (CT) (Aa (Am (Bf) (Aa (vF 7) (Aa (vF 5) (Aa (vF 6) (nilA))))) (nilA))) (Am (Ce) (Aa (vF 7) (Aa (vF 5) (Aa (vF 6) (nilA))))))) (retF (kF (.bl false))) (nxF)))))))
def ao:FM:=seqM (puM (asgF (Am (DW) (Aa (vF 0) (Aa (kF (.int 0)) (nilA)))) (tupG 3 (Bq 1 (Bq 2 (Bq 3 (nilG))))))) (seqM (forM (seqA (bF addD (lstF (Aa (kF (.int 21)) (nilA))) (slF (vF 0) (someO (kF (.int 8))) (someO (kF (.int 40)))))) (BW 4) (Rm)) (puM (retF (Am (Ed) (Aa (vF 1) (Aa (vF 2) (Aa (vF 3) (nilA))))))))
def Tp:List D->Option D:=theD (runM 8 1 ao) iw
end
def top (i:Nat):Stmt:=PySem.Challenge.pw_twinrounds_k03_no_world.main.body.getD i (.Pass ⟨0,0,0,0⟩)
abbrev K8:Stmt:=top 23
abbrev Jw:Stmt:=top 25
abbrev K9:Stmt:=top 24
abbrev Fe:Stmt:=top 26
abbrev Jx:Stmt:=inClass (top 3) 0
abbrev Hy:Stmt:=top 17
abbrev K_:Stmt:=inClass (top 5) 0
abbrev Gd:Stmt:=top 18
abbrev JG:Stmt:=top 19
abbrev Jy:Stmt:=top 20
abbrev Km:Stmt:=top 16
abbrev Ob:Stmt:=inClass (top 4) 0
abbrev Gp:Stmt:=inClass (top 21) 0
abbrev LC:Stmt:=top 32
abbrev LK:Stmt:=inClass (top 21) 1
abbrev JH:Stmt:=inClass (top 21) 2
abbrev Jz:Stmt:=top 34
abbrev LQ:Stmt:=top 27
abbrev Oc:Stmt:=top 28
abbrev J0:Stmt:=top 29
abbrev LR:Stmt:=top 33
abbrev Hz:Stmt:=top 30
abbrev Od:Stmt:=top 31
abbrev iy:Stmt:=top 35
set_option genInjectivity false in
structure Tx (G:Gx) (mg:Str->Option Value) where
 C_World:Addr
 gc_World:G.cl "World"=some C_World
 cl_World:Cls G.K C_World
 mC_World:mg "World"=some (.ref C_World)
 x__law_cell:Dx G.K mg "_law_cell" K8 ["_law_script","_law_k"]
 x__law_words:Dx G.K mg "_law_words" Jw ["_law_cell_here","_law_many"]
 x__law_bits:Dx G.K mg "_law_bits" K9 ["_law_cell_here","_law_many"]
 x__law_world:Dx G.K mg "_law_world" Fe ["_law_script","_law_start"]
 x_refuse_above:Dx G.K mg "refuse_above" Hy ["number","most"]
 x_refuse_no_thing:Dx G.K mg "refuse_no_thing" Gd ["size","thing"]
 x_kept_things:Dx G.K mg "kept_things" JG ["size","things"]
 x_kept_pairs:Dx G.K mg "kept_pairs" Jy ["size","pairs"]
 x_is_word:Dx G.K mg "is_word" Km ["text"]
 x_World___init__:Ix G.K C_World "World.__init__" Gp ["self","size","marks","ties"]
 x__law_made:Dx G.K mg "_law_made" LC ["_law_size","_law_marks","_law_ties"]
 x_World_has:Mx G.K C_World "has" "World.has" LK ["self","word","thing"]
 x_World_leads:Mx G.K C_World "leads" "World.leads" JH ["self","word","one","other"]
 x__law_first:Dx G.K mg "_law_first" Jz ["_law_size","_law_marks","_law_ties"]
 x__law_copy:Dx G.K mg "_law_copy" LQ ["_law_rows"]
 x__law_put:Dx G.K mg "_law_put" Oc ["_law_rows","_law_cell_here","_law_thing"]
 x__law_fault:Dx G.K mg "_law_fault" J0 ["_law_kind_here","_law_cell_here","_law_size","_law_marks","_law_ties"]
 x__law_kind:Dx G.K mg "_law_kind" LR ["_law_told"]
 x__law_is_word:Dx G.K mg "_law_is_word" Hz ["_law_word"]
 x__law_due:Dx G.K mg "_law_due" Od ["_law_size","_law_marks","_law_ties"]
 x_law:Dx G.K mg "law" iy ["_law_script"]
 r:Rx G.K mg "RoundError"
 xt:XT G cs_ r.R
 e_NoWord:Xx G mg r.R "NoWord" "word" "NoWord.__init__" Ob ["self","word"]
 e_NoThing:Xx G mg r.R "NoThing" "thing" "NoThing.__init__" K_ ["self","thing"]
 e_TooGreat:Xx2 G mg r.R "TooGreat" "number" "most" "TooGreat.__init__" Jx ["self","number","most"]
 a_World:Ax mg "World"
 a_NoName:Ax mg "NoName"
 a_NoPointing:Ax mg "NoPointing"
 a_NoSaying:Ax mg "NoSaying"
 a_Unlike:Ax mg "Unlike"
 k_0:Kit G cs_ [.ref a_World.a] ["World"]
 k_1:Kit G cs_ [.ref a_NoName.a,.ref a_NoPointing.a,.ref a_NoSaying.a,.ref a_Unlike.a] ["NoName","NoPointing","NoSaying","Unlike"]
 k_2:Kit G cs_ [.type "ValueError"] cs_
 k_3:Kit G cs_ [.ref e_TooGreat.C] ["TooGreat"]
 k_4:Kit G cs_ [.ref e_NoWord.C,.ref e_NoThing.C] ["NoWord","NoThing"]
 k_5:Kit G cs_ [.ref e_NoWord.C] ["NoWord"]
 k_6:Kit G cs_ [.ref e_TooGreat.C,.ref e_NoThing.C] ["TooGreat","NoThing"]
 k_7:Kit G cs_ [.ref e_NoThing.C] ["NoThing"]
 k_8:Kit G cs_ [.ref e_TooGreat.C,.ref e_NoWord.C] ["TooGreat","NoWord"]
 nf_most:∀ c C,(cs_:List Str).contains c=true->G.xcl c=some C->Av G.K C "most"
 nf_number:∀ c C,(cs_:List Str).contains c=true->G.xcl c=some C->Av G.K C "number"
 nf_word:∀ c C,(cs_:List Str).contains c=true->G.xcl c=some C->Av G.K C "word"
 nf_thing:∀ c C,(cs_:List Str).contains c=true->G.xcl c=some C->Av G.K C "thing"
 k2_World:XK2 G.K C_World
 mo_World:PySem.W.mroIn G.K C_World (.type "object")=some true
 kw_World:PySem.W.kitAny G.K (.ref C_World) [.ref C_World]=some true
 z_ValueError:mg "ValueError"=none
 z_all:mg "all"=none
 z_int:mg "int"=none
 z_isinstance:mg "isinstance"=none
 z_len:mg "len"=none
 z_list:mg "list"=none
 z_max:mg "max"=none
 z_range:mg "range"=none
 s_MOST_LETTERS:Sx mg "MOST_LETTERS" (.int 8)
 s_LETTERS:Sx mg "LETTERS" (.str "abcdefghijklmnopqrstuvwxyz")
 s_MOST_THINGS:Sx mg "MOST_THINGS" (.int 5)
 s_MOST_WORDS:Sx mg "MOST_WORDS" (.int 3)
 fl_size:∀ c C,G.cl c=some C->Cls G.K C/\Av G.K C "size"
 fl_marked:∀ c C,G.cl c=some C->Cls G.K C/\Av G.K C "marked"
 fl_tied:∀ c C,G.cl c=some C->Cls G.K C/\Av G.K C "tied"
 c_KEPT_TEXTS:Kx G mg "KEPT_TEXTS" K03.c_KEPT_TEXTS
section
variable {base:Heap}
abbrev La:List Str:=["_law_script","_law_k"]
theorem Rn:FnScope La ["_law_script","_law_k"] (Ab K8):=scO
theorem Ff (T:Tx G mg):DOk P w base T.x__law_cell 1 (spD G Bd):=
 fnX (k:=0) (N:=La) (b:=Ga) T.x__law_cell Rn λ _ _ _ _ _ _ hr=>Af (Bj (tLt (vp 1) (pU (CG (Br rfl) V7 rfl T.z_len En (vp 0)))) (Ag (Al (iD (vp 0) (vp 1)))) (BV)) (Ag (Al (Uq)))
abbrev J1:List Str:=["_law_cell_here","_law_many","_law_letters","_law_number","_law_long","_law_at","_law_found","_law_k","_law_word","_law_j","_law_place"]
theorem Az:FnScope J1 ["_law_cell_here","_law_many"] (Ab Jw):=scO
theorem Ow (T:Tx G mg):DOk P w base T.x__law_words 1 (spD G FP):=
 fnX (k:=0) (N:=J1) (b:=G_) T.x__law_words Az λ _ _ _ _ _ _ hr=>Af (sF Az.nd 2 (KN)) (Af (sF Az.nd 3 (bMod (vp 0) (iP))) (Af (sF Az.nd 4 (bAdd (iP) (pU (bMod (vp 3) (iP))))) (Af (sF Az.nd 5 (bMod (pU (bDiv (vp 3) (iP))) (vp 4))) (Af (sW Az.nd 6 (JP (Ac))) (Af (DQ z0x rfl (GX rfl T.z_range (vp 1)) (Ba (gN Az.nd 7)) (Af (sF Az.nd 8 (KN)) (Af (DQ z0x rfl (GX rfl T.z_range (vp 4)) (Ba (gN Az.nd 9)) (Af (sF Az.nd 10 (bAdd (pU (bAdd (pU (bDiv (vp 3) (pU (bAdd (vp 9) (iP))))) (pU (bMul (vp 9) (vp 9))))) (pU (bMul (pU (Ii O4 V8 rfl T.z_int Zf (pU (cEq hr (vp 9) (vp 5))))) (vp 7))))) (Ag (sF Az.nd 8 (bAdd (vp 8) (pU (iX hr (vp 2) (pU (bMod (vp 10) (iP)))))))))) (Af (Bj (tIn hr (vp 8) (pU (Cp (iS (iS (iS (iS (iS (Ac))))))))) (Ag (sF Az.nd 8 (bAdd (vp 8) (sP)))) (BV)) (Ag (RV (pv 6) (vr 8))))))) (Ag (Nq [6] (Al (vr 6)))))))))
abbrev Lb:List Str:=["_law_cell_here","_law_many","_law_found","_law_number","_law_k"]
theorem Ei:FnScope Lb ["_law_cell_here","_law_many"] (Ab K9):=scO
theorem J2 (T:Tx G mg):DOk P w base T.x__law_bits 1 (spD G Ex):=
 fnX (k:=0) (N:=Lb) (b:=Ht) T.x__law_bits Ei λ _ _ _ _ _ _ hr=>Af (sW Ei.nd 2 (JP (Ac))) (Af (sF Ei.nd 3 (bMod (pU (bDiv (vp 0) (iP))) (iP))) (Af (DQ z0x rfl (GX rfl T.z_range (vp 1)) (Ba (gN Ei.nd 4)) (Ag (Bj (tEq hr (pU (bMod (vp 0) (iP))) (iP)) (Ag (RV (pv 2) (cEq hr (pU (bMod (pU (bDiv (pU (bDiv (vp 0) (iP))) (pU (G5 cu dC (iP) (vp 4))))) (iP))) (iP)))) (Af (sF Ei.nd 3 (bMod (pU (bAdd (pU (bAdd (pU (bAdd (pU (bMul (vp 3) (vp 3))) (pU (bMul (iP) (vp 3))))) (vp 4))) (iP))) (iP))) (Ag (RV (pv 2) (cEq hr (pU (bMod (pU (bDiv (vp 3) (iP))) (pU (bMul (iP) (pU (bMod (vp 0) (iP))))))) (iP)))))))) (Ag (Nq [2] (Al (vr 2))))))
abbrev CV:List Str:=["_law_script","_law_start","_law_cell_here","_law_size","_law_many","_law_words_here","_law_marks","_law_ties","_law_k","_law_bits_here"]
theorem BX:FnScope CV ["_law_script","_law_start"] (Ab Fe):=scO
theorem Ox (T:Tx G mg):DOk P w base T.x__law_world 2 (spD G DW):=
 fnX (k:=1) (N:=CV) (b:=HB) T.x__law_world BX λ _ _ _ _ _ _ hr=>Af (sF BX.nd 2 (fX (Ff T) hr (pav 0 (pav 1 (Ac))))) (Af (sF BX.nd 3 (iX hr (pU (Cp (Ah (bMod (pU (bDiv (vp 2) (iP))) (iP)) (iI (Ac)) CN))) (pU (Ii O4 V8 rfl T.z_int Zf (pU (cEq hr (pU (bMod (pU (bDiv (vp 2) (iP))) (iP))) (iP))))))) (Af (sF BX.nd 4 (bMod (vp 2) (iP))) (Af (sF BX.nd 5 (fX (Ow T) hr (Ah (fX (Ff T) hr (pav 0 (Ah (bAdd (vp 1) (iP)) (Ac) CN))) (Ah (bAdd (vp 4) (pU (bMod (pU (bDiv (vp 2) (iP))) (iP)))) (Ac) CN) G8))) (Af (sW BX.nd 6 (Nr)) (Af (sW BX.nd 7 (Nr)) (Af (DQ z0x rfl (GX rfl T.z_range (pU (CG ((Br rfl).or Bk) Cv rfl T.z_len En (vp 5)))) (Ba (gN BX.nd 8)) (Ag (Bj (tLt (vp 8) (vp 4)) (Af (sF BX.nd 9 (fX (J2 T) hr (Ah (fX (Ff T) hr (pav 0 (Ah (bAdd (pU (bAdd (vp 1) (iP))) (vp 8)) (Ac) CN))) (pav 3 (Ac)) G8))) (Ag (RX (Ek hr) (pv 6) (iX hr (vp 5) (vp 8)) (RP (nT CV "_law_thing") (by show Kv "_law_thing" CV++(["_law_thing"]:List Str)=_;decide +kernel) (cO (N:=CV) (sc:=Ab Fe) rfl rfl) rfl (GX rfl T.z_range (vp 3)) (λ _ _ _=>S5 (Cg (pU (iX hr (vp 9) (vp 10))) rfl)) (λ _ _ _=>vr 10))))) (Af (sF BX.nd 9 (fX (J2 T) hr (Ah (fX (Ff T) hr (pav 0 (Ah (bSub (pU (bAdd (pU (bAdd (vp 1) (iP))) (vp 8))) (vp 4)) (Ac) CN))) (Ah (bMul (vp 3) (vp 3)) (Ac) CN) G8))) (Ag (RX (Ek hr) (pv 7) (iX hr (vp 5) (vp 8)) (RP (nT CV "_law_at") (by show Kv "_law_at" CV++(["_law_at"]:List Str)=_;decide +kernel) (cO (N:=CV) (sc:=Ab Fe) rfl rfl) rfl (GX rfl T.z_range (pU (bMul (vp 3) (vp 3)))) (λ _ _ _=>S5 (Cg (pU (iX hr (vp 9) (vp 10))) rfl)) (λ _ _ _=>Nj (Ah (bDiv (vp 10) (vp 3)) (Ah (bMod (vp 10) (vp 3)) (Ac) CN) CN))))))))) (Ag (Nq [6,7] (Al (Cp (pav 3 (pav 6 (pav 7 (Ac))))))))))))))
abbrev Ro:List Str:=["self","number","most"]
theorem Oz:FnScope Ro ["self","number","most"] (Ab Jx):=scO
theorem Tq (T:Tx G mg):FnOk P w G.K mg base CX0 1 T.e_TooGreat.fi T.e_TooGreat.fd ["self","number","most"] (spE2 G.K "number" "most" okII):=
 T.e_TooGreat.F.ok Oz (λ vs H Q E h=>aL h) λ cdv A outer s H vs Q E hr h=>⟨_,Dr (Ie (Ny rfl T.r.m T.r.h1 T.r.h2 T.r.h3 (Bh (pv 0) (Bh (Z9 (c:=λ σ=>Ke 1 σ/\Ke 2 σ) (PP.imp (U4 (pv 1)) λ _ z=>z.1) U3 (PP.imp (U4 (pv 2)) λ _ z=>z.2)) Dt)))) (Dr (Ri (pv 0) (pv 1) rfl) (Gw (aK (pv 0) (pv 2) rfl))),U6 h rfl e_⟩
abbrev H_:List Str:=["number","most"]
theorem Lj:FnScope H_ ["number","most"] (Ab Hy):=scO
theorem E_ (T:Tx G mg):FnOk P w G.K mg base (CX1 P w) 3 T.x_refuse_above.f T.x_refuse_above.fd ["number","most"] (spZ G An):=
 fnZ (k:=2) (N:=H_) (b:=Ea) T.x_refuse_above Lj λ _ _ _ _ _ _ hr=>Cq (Rh (tGt (vp 0) (vp 1)) (Cq (rZ2 (x:=T.e_TooGreat) (Tq T) hr (pav 0 (pav 1 (Ac))))) (Ms))
abbrev Tr:List Str:=["self","thing"]
theorem Rp:FnScope Tr ["self","thing"] (Ab K_):=scO
theorem U9 (T:Tx G mg):FnOk P w G.K mg base CX0 1 T.e_NoThing.fi T.e_NoThing.fd ["self","thing"] (spE G.K "thing" okI):=
 T.e_NoThing.F.ok Rp (λ vs H Q E h=>Wg h) λ cdv A outer s H vs Q E hr h=>⟨_,Dr (Ie (Ny rfl T.r.m T.r.h1 T.r.h2 T.r.h3 (Bh (pv 0) (Bh (Te (U4 (pv 1)) U3) Dt)))) (Gw (Ri (pv 0) (pv 1) rfl)),Py h rfl lH⟩
abbrev Ge:List Str:=["size","thing"]
theorem JV:FnScope Ge ["size","thing"] (Ab Gd):=scO
theorem Bc (T:Tx G mg):FnOk P w G.K mg base (CX1 P w) 3 T.x_refuse_no_thing.f T.x_refuse_no_thing.fd ["size","thing"] (spZ G Aj):=
 fnZ (k:=2) (N:=Ge) (b:=CQ) T.x_refuse_no_thing JV λ _ _ _ _ _ _ hr=>Cq (Rh (PFW.pt (JN (tLt (vp 1) (iP)) (Fg (tGe (vp 1) (vp 0))))) (Cq (rZ (x:=T.e_NoThing) (U9 T) hr Rk (vr 1))) (Ms))
abbrev JK:List Str:=["size","things","kept","thing"]
theorem Fy:FnScope JK ["size","things"] (Ab JG):=scO
theorem Oe (T:Tx G mg):FnOk P w G.K mg base (CX1 P w) 4 T.x_kept_things.f T.x_kept_things.fd ["size","things"] (spZ G Ca):=
 fnZ (k:=3) (N:=JK) (b:=Es) T.x_kept_things Fy λ _ _ _ _ _ _ hr=>Cw (PSD.x (sW Fy.nd 2 (Nr))) (Cw (Wk PassesOwn.leaving rfl (CJ rfl (vr 1)) (Ba (gN Fy.nd 3)) (Cw (Dy (fZ (Bc T) hr (pav 0 (pav 3 (Ac))))) (Cq (PSD.x (RX (Ek hr) (pv 2) (vr 3) (I_)))))) (Cq (PSD.x (Nq [2] (Al (vr 2))))))
abbrev J3:List Str:=["size","pairs","kept","one","other"]
theorem Et:FnScope J3 ["size","pairs"] (Ab Jy):=scO
theorem O1 (T:Tx G mg):FnOk P w G.K mg base (CX1 P w) 4 T.x_kept_pairs.f T.x_kept_pairs.fd ["size","pairs"] (spZ G Cu):=
 fnZ (k:=3) (N:=J3) (b:=FQ) T.x_kept_pairs Et λ _ _ _ _ _ _ hr=>Cw (PSD.x (sW Et.nd 2 (oN))) (Cw (Wk PassesOwn.leaving rfl (CJ rfl (vr 1)) (Mm rfl rfl (DR (gN Et.nd 3) (DR (gN Et.nd 4) (Jj)))) (Cw (Dy (fZ (Bc T) hr (pav 0 (pav 3 (Ac))))) (Cw (Dy (fZ (Bc T) hr (pav 0 (pav 4 (Ac))))) (Cq (PSD.x (Zn (Ek hr) (pv 2) (pav 3 (pav 4 (Ac))) (I_))))))) (Cq (PSD.x (Nq [2] (Al (vr 2))))))
abbrev Gq:List Str:=["text"]
theorem U_:FnScope Gq ["text"] (Ab Km):=scO
theorem Og (T:Tx G mg):DOk P w base T.x_is_word 1 (spD G BL):=
 fnX (k:=0) (N:=Gq) (b:=Kl) T.x_is_word U_ λ _ _ _ _ _ _ hr=>Af (Bj (PFW.pt (JN (tIn hr (vp 0) (pU (Gh (GJ (v:=.ref T.c_KEPT_TEXTS.a) rfl T.c_KEPT_TEXTS.m rfl) T.c_KEPT_TEXTS.r))) (JN (tEq hr (pU (CG ((Br rfl).or Bk) Cv rfl T.z_len En (vp 0))) (iP)) (Fg (tGt (pU (CG ((Br rfl).or Bk) Cv rfl T.z_len En (vp 0))) (pU (Gh (GJ (v:=(.int 8)) rfl T.s_MOST_LETTERS.m ⟨_,rfl⟩) (.int _)))))))) (Ag (Al (I_))) (BV)) (Ag (Al (CG (X7 rfl) dh rfl T.z_all lA (pU (RP (nT Gq "letter") (by show Kv "letter" Gq++(["letter"]:List Str)=_;decide +kernel) (cO (N:=Gq) (sc:=Ab Km) rfl rfl) rfl (PFI.top (CJ rfl (vr 0))) (λ _ _ _=>Zb) (λ _ _ _=>cIn hr (vp 1) (pU (Gh (GJ (v:=(.str "abcdefghijklmnopqrstuvwxyz")) rfl T.s_LETTERS.m ⟨_,rfl⟩) (.str _)))))))))
abbrev VB:List Str:=["self","word"]
theorem Tt:FnScope VB ["self","word"] (Ab Ob):=scO
theorem Ir (T:Tx G mg):FnOk P w G.K mg base CX0 1 T.e_NoWord.fi T.e_NoWord.fd ["self","word"] (spE G.K "word" okS):=
 T.e_NoWord.F.ok Tt (λ vs H Q E h=>Wg h) λ cdv A outer s H vs Q E hr h=>⟨_,Dr (Ie (Ny rfl T.r.m T.r.h1 T.r.h2 T.r.h3 (Bh (pv 0) (Bh (Te (eG (pv 1)) U3) Dt)))) (Gw (Ri (pv 0) (pv 1) rfl)),Py h rfl lJ⟩
abbrev Gr:List Str:=["self","size","marks","ties","word","things","pairs"]
theorem CW:FnScope Gr ["self","size","marks","ties"] (Ab Gp):=scO
theorem J4 (T:Tx G mg):FnOk P w G.K mg base (CX1 P w) 5 T.x_World___init__.f T.x_World___init__.fd ["self","size","marks","ties"] (spIZ G "World" A_):=
 o7 (c:="World") (k:=4) (N:=Gr) (b:=Bb) T.x_World___init__.F CW (by decide) λ cdv A outer s H E hr=>Dp (Kf (Dy (fZ (E_ T) hr (pav 1 (Ah (Gh (GJ (v:=(.int 5)) rfl T.s_MOST_THINGS.m ⟨_,rfl⟩) (.int _)) (Ac) Mz)))) OD Kg) (Dp (Kf (Dy (fZ (E_ T) hr (Ah (CG ((Br rfl).or Bk) Cv rfl T.z_len En (vp 2)) (Ah (Gh (GJ (v:=(.int 3)) rfl T.s_MOST_WORDS.m ⟨_,rfl⟩) (.int _)) (Ac) Mz) G8))) OD Kg) (Dp (Kf (Dy (fZ (E_ T) hr (Ah (CG ((Br rfl).or Bk) Cv rfl T.z_len En (vp 3)) (Ah (Gh (GJ (v:=(.int 3)) rfl T.s_MOST_WORDS.m ⟨_,rfl⟩) (.int _)) (Ac) Mz) G8))) OD Kg) (Dp (PSE.z (Zu T.fl_size (pv 0) (vr 1))) (Dp (PSE.z (TJ T.fl_marked (pv 0) Nr)) (Dp (PSE.z (TJ T.fl_tied (pv 0) Nr)) (Dp (Tn PassesOwn.leaving rfl (Ph (top:=false) (vr 2)) (Mm rfl rfl (DR (gN CW.nd 4) (DR (gN CW.nd 5) (Jj)))) (Zw (Mp (by decide) (Mp (by decide) (Zv)))) (P0 (Wr (TF (FJ (Cg (pU (fX (Og T) hr (pav 4 (Ac)))) rfl))) (Cq (rZ (x:=T.e_NoWord) (Ir T) hr My (vr 4))) aR) (Tj (P_ (Ek hr) T.fl_marked (pv 0) (vr 4) (fZ (Oe T) hr (pav 1 (pav 5 (Ac)))))))) (Dp (Tn PassesOwn.leaving rfl (Ph (top:=false) (vr 3)) (Mm rfl rfl (DR (gN CW.nd 4) (DR (gN CW.nd 6) (Jj)))) (Zw (Mp (by decide) (Mp (by decide) (Zv)))) (P0 (Wr (PWE.pt (lB (TF (FJ (Cg (pU (fX (Og T) hr (pav 4 (Ac)))) rfl))) (di (lC (Ek hr) T.fl_marked (pv 0) (vr 4))))) (Cq (rZ (x:=T.e_NoWord) (Ir T) hr My (vr 4))) aR) (Tj (P_ (Ek hr) T.fl_tied (pv 0) (vr 4) (fZ (O1 T) hr (pav 1 (pav 6 (Ac)))))))) (aP))))))))
abbrev Ld:List Str:=["_law_size","_law_marks","_law_ties","_law_told","e"]
theorem Ej:FnScope Ld ["_law_size","_law_marks","_law_ties"] (Ab LC):=scO
theorem J5 (T:Tx G mg):DOk P w base T.x__law_made 7 (spD G Bf):=
 fnX (k:=6) (N:=Ld) (b:=Dq) T.x__law_made Ej λ _ _ _ _ _ _ hr=>Af (sF Ej.nd 3 (jw)) (Af (eQ (cs:=cs_) (i:=4) rfl rfl Ej.nd rfl rfl rfl T.r.m T.r.x (eZ T.xt) (λ _ _=>Cq (sZ Ej.nd 3 (fG T.gc_World T.x_World___init__.mM (J4 T) (hr.mono (by omega)) rfl T.mC_World T.x_World___init__.B (pav 0 (pav 1 (pav 2 (Ac))))))) (λ _=>Ag (sF Ej.nd 3 (vr 4)))) (Ag (Al (vr 3))))
abbrev Le:List Str:=["self","word","thing"]
theorem Rq:FnScope Le ["self","word","thing"] (Ab LK):=scO
theorem Rr (T:Tx G mg):FnOk P w G.K mg base (CX1 P w) 4 T.x_World_has.f T.x_World_has.fd ["self","word","thing"] (spZ G Ez):=
 fn_Z (k:=3) (N:=Le) (b:=Hv) T.x_World_has.F Rq (by decide) λ _ _ _ _ _ _ hr=>Cw (Rh (tNi hr (vp 1) (pU (JR T.fl_marked (vp 0)))) (Cq (rZ (x:=T.e_NoWord) (Ir T) hr My (vr 1))) (Ms)) (Cw (Dy (fZ (Bc T) hr (Ah (JR T.fl_size (vp 0)) (pav 2 (Ac)) Cr))) (Cq (PSD.x (Al (cIn hr (vp 2) (pU (iX hr (pU (JR T.fl_marked (vp 0))) (vp 1))))))))
abbrev JL:List Str:=["self","word","one","other"]
theorem Oh:FnScope JL ["self","word","one","other"] (Ab JH):=scO
theorem Oi (T:Tx G mg):FnOk P w G.K mg base (CX1 P w) 4 T.x_World_leads.f T.x_World_leads.fd ["self","word","one","other"] (spZ G Di):=
 fn_Z (k:=3) (N:=JL) (b:=Gj) T.x_World_leads.F Oh (by decide) λ _ _ _ _ _ _ hr=>Cw (Rh (tNi hr (vp 1) (pU (JR T.fl_tied (vp 0)))) (Cq (rZ (x:=T.e_NoWord) (Ir T) hr My (vr 1))) (Ms)) (Cw (Dy (fZ (Bc T) hr (Ah (JR T.fl_size (vp 0)) (pav 2 (Ac)) Cr))) (Cw (Dy (fZ (Bc T) hr (Ah (JR T.fl_size (vp 0)) (pav 3 (Ac)) Cr))) (Cq (PSD.x (Al (lR hr (pav 2 (pav 3 (Ac))) (pU (iX hr (pU (JR T.fl_tied (vp 0))) (vp 1)))))))))
abbrev J6:List Str:=["_law_size","_law_marks","_law_ties","_law_world_here","_law_word"]
theorem Eu:FnScope J6 ["_law_size","_law_marks","_law_ties"] (Ab Jz):=scO
theorem O2 (T:Tx G mg):DOk P w base T.x__law_first 8 (spD G Ed):=
 fnX (k:=7) (N:=J6) (b:=FW) T.x__law_first Eu λ _ _ _ _ _ _ hr=>Af (sF Eu.nd 3 (fX (J5 T) hr (pav 0 (pav 1 (pav 2 (Ac)))))) (Af (Bj (FJ (Cg (pU (aV rfl T.gc_World T.cl_World T.k2_World T.mo_World T.kw_World rfl T.z_isinstance BR (vr 3) (Fj rfl T.mC_World))) rfl)) (Ag (Al (I_))) (BV)) (Af (Bj (tGt (vp 0) (iP)) (Af (DQ z0x rfl (CJ rfl (vr 1)) (Ba (gN Eu.nd 4)) (Ag (Bj (tNe hr (pU (mA T.gc_World T.cl_World (iY (Rr T)) hr (vr 3) (pav 4 (iI (Ac))))) (pU (cIn hr (iP) (pU (iX hr (vp 1) (vp 4)))))) (Ag (Al (I_))) (BV)))) (Ag (DQ z0x rfl (CJ rfl (vr 2)) (Ba (gN Eu.nd 4)) (Ag (Bj (tNe hr (pU (mA T.gc_World T.cl_World (iY (Oi T)) hr (vr 3) (pav 4 (iI (iI (Ac)))))) (pU (cIn hr (pU (Nj (iI (iI (Ac))))) (pU (iX hr (vp 2) (vp 4)))))) (Ag (Al (I_))) (BV)))))) (BV)) (Ag (Al (I_)))))
abbrev Lf:List Str:=["_law_rows","_law_found","_law_word"]
theorem HF:FnScope Lf ["_law_rows"] (Ab LQ):=scO
theorem J7 (T:Tx G mg):DOk P w base T.x__law_copy 1 (spM G Gb):=
 fnM (k:=0) (N:=Lf) (b:=K6) T.x__law_copy HF λ _ _ _ _ _ _ hr=>BJ (EY (sW HF.nd 1 (Nr))) (BJ (M4 z0x rfl (CJ rfl (vr 0)) (Ba (gN HF.nd 2)) (CP (aZ (Ek hr) (pv 1) (vr 2) (Ip (fU rfl rfl T.z_list (pU (iX hr (vp 0) (vp 2)))))))) (CP (fJ (aX (U8 [] (vr 1))))))
abbrev Oj:List Str:=["_law_rows","_law_cell_here","_law_thing","_law_words_here","_law_row"]
theorem IK:FnScope Oj ["_law_rows","_law_cell_here","_law_thing"] (Ab Oc):=scO
theorem IV (T:Tx G mg):DOk P w base T.x__law_put 1 (spM G Cd):=
 fnM (k:=0) (N:=Oj) (b:=Oa) T.x__law_put IK λ _ _ _ _ _ _ hr=>BJ (sXM IK.nd 3 (U8 [0] (Ii ((Gz.or (Jk rfl)).or (Jo rfl)) Pq rfl T.z_list RQ (vq 0)))) (BJ (EY (Bj (tEq hr (vp 3) (pU (Cp (Ac)))) (Ag (Za)) (BV))) (BJ (sXM IK.nd 4 (U8 [0] (iX hr (vq 0) (pU (iX hr (vp 3) (pU (bMod (vp 1) (pU (CG ((Br rfl).or Bk) Cv rfl T.z_len En (vp 3)))))))))) (CP (Js (mIns [4] (pv 4) (Ah (bMod (pU (bDiv (vp 1) (iP))) (pU (bAdd (pU (CG ((Br rfl).or Bk) Cv rfl T.z_len En (vq 4))) (iP)))) (pav 2 (Ac)) CN))))))
abbrev J8:List Str:=["_law_kind_here","_law_cell_here","_law_size","_law_marks","_law_ties","_law_far","_law_k"]
theorem Dj:FnScope J8 ["_law_kind_here","_law_cell_here","_law_size","_law_marks","_law_ties"] (Ab J0):=scO
theorem JM (T:Tx G mg):DOk P w base T.x__law_fault 2 (spM G Fb):=
 fnM (k:=1) (N:=J8) (b:=Jv) T.x__law_fault Dj λ _ _ _ _ _ _ hr=>BJ (EY (sF Dj.nd 5 (bAdd (pU (ZV (Xk rfl) ZW rfl T.z_max kO (vp 2) (iP))) (pU (bMod (pU (bDiv (vp 1) (iP))) (pU (G5 UV RJ (iP) (iP)))))))) (BJ (EY (Bj (tEqF hr (pU (bMod (pU (bDiv (vp 1) (iP))) (iP))) (iP)) (Ag (sF Dj.nd 5 (bSub (pU (kI (iP))) (pU (bMod (pU (bDiv (vp 1) (iP))) (pU (G5 UV RJ (iP) (iP)))))))) (BV))) (BJ (G9 [] (tEqF hr (vp 0) (iP)) (CP (M4 z0x rfl (GX rfl T.z_range (iP)) (Ba (gN Dj.nd 6)) (CP (Jt (Ek hr) (pv 3) (bAdd (sP) (pU (iX hr (sP) (vp 6)))) (Ip (JP (Ac))))))) (FN)) (BJ (G9 [] (tEqF hr (vp 0) (iP)) (CP (M4 z0x rfl (GX rfl T.z_range (iP)) (Ba (gN Dj.nd 6)) (CP (Jt (Ek hr) (pv 4) (bAdd (sP) (pU (iX hr (sP) (vp 6)))) (Ip (JP (Ac))))))) (FN)) (BJ (G9 [3] (PFW.pt (GR (tEqF hr (vp 0) (iP)) (Dl (tLt (pU (CG ((Br rfl).or Bk) Cv rfl T.z_len En (vq 3))) (iP))))) (CP (Jt (Ek hr) (pv 3) (KN) (Ip (JP (pav 5 (Ac)))))) (FN)) (BJ (G9 [4] (PFW.pt (GR (tEqF hr (vp 0) (iP)) (Dl (tLt (pU (CG ((Br rfl).or Bk) Cv rfl T.z_len En (vq 4))) (iP))))) (CP (Jt (Ek hr) (pv 4) (KN) (Ip (JP (Ah (Nj (pav 5 (pav 5 (Ac)))) (Ac) N7))))) (FN)) (BJ (G9 [3,4] (PFW.pt (GR (tEqF hr (vp 0) (iP)) (GR (tNeF hr (vq 3) (pU (oO))) (Dl (tLt (pU (CG ((Br rfl).or Bk) Cv rfl T.z_len En (vq 4))) (iP)))))) (CP (ak [3] (Ek hr) (pv 4) (iX hr (pU (Ii ((Gz.or (Jk rfl)).or (Jo rfl)) Pq rfl T.z_list RQ (vq 3))) (iP)) (Ip (JP (Ac))))) (FN)) (BJ (G9 [] (tEqF hr (vp 0) (iP)) (CP (Js (fM (IV T) hr (pav 3 (pav 1 (pav 5 (Ac))))))) (FN)) (BJ (G9 [] (tEqF hr (vp 0) (iP)) (CP (Js (fM (IV T) hr (pav 4 (pav 1 (Ah (Nj (pav 5 (iI (Ac)))) (Ac) N7)))))) (FN)) (BJ (G9 [] (PFW.pt (GR (tEqF hr (vp 0) (iP)) (Dl (tGt (vp 2) (iP))))) (CP (Js (fM (IV T) hr (pav 4 (pav 1 (Ah (Nj (Ah (bSub (vp 2) (iP)) (pav 5 (Ac)) CN)) (Ac) N7)))))) (FN)) (BJ (EY (Bj (tEqF hr (vp 0) (iP)) (Ag (Al (bAdd (iP) (pU (bMod (pU (bDiv (vp 1) (iP))) (pU (G5 UV RJ (iP) (iP)))))))) (BV))) (CP (EY (Al (vr 2))))))))))))))
abbrev Lg:List Str:=["_law_told"]
theorem Rt:FnScope Lg ["_law_told"] (Ab LR):=scO
theorem Ru (T:Tx G mg):DOk P w base T.x__law_kind 1 (spD G CT):=
 fnX (k:=0) (N:=Lg) (b:=K7) T.x__law_kind Rt λ _ _ _ _ _ _ hr=>Af (Bj (Cg (pU (lz (aV rfl T.gc_World T.cl_World T.k2_World T.mo_World T.kw_World rfl T.z_isinstance BR (vr 0) (Fj rfl T.mC_World)) (G7 rfl T.xt T.k_0 rfl T.z_isinstance BR (vr 0) (Fj rfl T.a_World.m)))) rfl) (Ag (Al (Cp (iS (Ac))))) (BV)) (Af (Bj (PFW.pt (JN (Cg (pU (G7 rfl T.xt T.k_1 rfl T.z_isinstance BR (vr 0) (Im (CZ T.a_NoName.m (CZ T.a_NoPointing.m (CZ T.a_NoSaying.m (CZ T.a_Unlike.m (Il)))))))) rfl) (Fg (FJ (Cg (pU (G7 rfl T.xt T.k_2 rfl T.z_isinstance BR (vr 0) (aB rfl T.z_ValueError Ov))) rfl))))) (Ag (Al (Cp (iS (Ac))))) (BV)) (Af (Bj (PFW.pt (GR (Cg (pU (G7 rfl T.xt T.k_3 rfl T.z_isinstance BR (vr 0) (Fj rfl T.e_TooGreat.m))) rfl) (Dl (FJ (Cg (pU (G7 rfl T.xt T.k_4 rfl T.z_isinstance BR (vr 0) (Im (CZ T.e_NoWord.m (CZ T.e_NoThing.m (Il)))))) rfl))))) (Ag (Al (Cp (iS (Ah (Mw rfl T.xt (vr 0) T.nf_number) (Ah (Mw rfl T.xt (vr 0) T.nf_most) (Ac) Cr) Cr))))) (BV)) (Af (Bj (PFW.pt (GR (Cg (pU (G7 rfl T.xt T.k_5 rfl T.z_isinstance BR (vr 0) (Fj rfl T.e_NoWord.m))) rfl) (Dl (FJ (Cg (pU (G7 rfl T.xt T.k_6 rfl T.z_isinstance BR (vr 0) (Im (CZ T.e_TooGreat.m (CZ T.e_NoThing.m (Il)))))) rfl))))) (Ag (Al (Cp (iS (Ah (Mw rfl T.xt (vr 0) T.nf_word) (Ac) Cr))))) (BV)) (Af (Bj (PFW.pt (GR (Cg (pU (G7 rfl T.xt T.k_7 rfl T.z_isinstance BR (vr 0) (Fj rfl T.e_NoThing.m))) rfl) (Dl (FJ (Cg (pU (G7 rfl T.xt T.k_8 rfl T.z_isinstance BR (vr 0) (Im (CZ T.e_TooGreat.m (CZ T.e_NoWord.m (Il)))))) rfl))))) (Ag (Al (Cp (iS (Ah (Mw rfl T.xt (vr 0) T.nf_thing) (Ac) Cr))))) (BV)) (Ag (Al (Cp (iS (Ac)))))))))
abbrev IW:List Str:=["_law_word","_law_sign"]
theorem HW:FnScope IW ["_law_word"] (Ab Hz):=scO
theorem HX (T:Tx G mg):DOk P w base T.x__law_is_word 1 (spD G Ar):=
 fnX (k:=0) (N:=IW) (b:=Fx) T.x__law_is_word HW λ _ _ _ _ _ _ hr=>Af (DQ z0x rfl (CJ rfl (vr 0)) (Ba (gN HW.nd 1)) (Ag (Bj (tNi hr (vp 1) (sP)) (Ag (Al (I_))) (BV)))) (Ag (Al (I_)))
abbrev Ol:List Str:=["_law_size","_law_marks","_law_ties","_law_rows","_law_word","_law_thing","_law_pair"]
theorem DP:FnScope Ol ["_law_size","_law_marks","_law_ties"] (Ab Od):=scO
theorem Tu (T:Tx G mg):DOk P w base T.x__law_due 2 (spD G Ce):=
 fnX (k:=1) (N:=Ol) (b:=Dm) T.x__law_due DP λ _ _ _ _ _ _ hr=>Af (Bj (tGt (vp 0) (iP)) (Ag (Al (Cp (iS (pav 0 (iI (Ac))))))) (BV)) (Af (DQ z0x rfl (CJ rfl (Cp (pav 1 (pav 2 (Ac))))) (Ba (gN DP.nd 3)) (Ag (Bj (tGt (pU (CG ((Br rfl).or Bk) Cv rfl T.z_len En (vp 3))) (iP)) (Ag (Al (Cp (iS (Ah (CG ((Br rfl).or Bk) Cv rfl T.z_len En (vp 3)) (iI (Ac)) G8))))) (BV)))) (Af (DQ z0x rfl (CJ rfl (vr 1)) (Ba (gN DP.nd 4)) (Af (Bj (FJ (Cg (pU (fX (HX T) hr (pav 4 (Ac)))) rfl)) (Ag (Al (Cp (iS (pav 4 (Ac)))))) (BV)) (Ag (DQ z0x rfl (CJ rfl (iX hr (vp 1) (vp 4))) (Ba (gN DP.nd 5)) (Ag (Bj (PFW.pt (JN (tLt (vp 5) (iP)) (Fg (tGe (vp 5) (vp 0))))) (Ag (Al (Cp (iS (pav 5 (Ac)))))) (BV))))))) (Af (DQ z0x rfl (CJ rfl (vr 2)) (Ba (gN DP.nd 4)) (Af (Bj (PFW.pt (JN (FJ (Cg (pU (fX (HX T) hr (pav 4 (Ac)))) rfl)) (Fg (tIn hr (vp 4) (vp 1))))) (Ag (Al (Cp (iS (pav 4 (Ac)))))) (BV)) (Ag (DQ z0x rfl (CJ rfl (iX hr (vp 2) (vp 4))) (Ba (gN DP.nd 6)) (Ag (DQ z0x rfl (CJ rfl (vr 6)) (Ba (gN DP.nd 5)) (Ag (Bj (PFW.pt (JN (tLt (vp 5) (iP)) (Fg (tGe (vp 5) (vp 0))))) (Ag (Al (Cp (iS (pav 5 (Ac)))))) (BV))))))))) (Ag (Al (Cp (iS (Ac))))))))
abbrev iz:List Str:=["_law_script","_law_size","_law_marks","_law_ties","_law_cell_here","_law_more","_law_both","_law_far"]
theorem HJ:FnScope iz ["_law_script"] (Ab iy):=scO
theorem l_ (T:Tx G mg):DOk P w base T.x_law 9 (spD G Tp):=
 fnDM (k:=8) (N:=iz) (b:=ao) T.x_law HJ λ _ _ _ _ _ _ hr=>BJ (EY (dZ (Mm rfl rfl (DR (gN HJ.nd 1) (DR (gN HJ.nd 2) (DR (gN HJ.nd 3) (Jj))))) (fX (Ox T) hr (pav 0 (iI (Ac)))))) (BJ (M4 z0x rfl (CJ rfl (bAdd (pU (Cp (iI (Ac)))) (pU (ZL rfl (vp 0) (Su (iP)) (Su (iP)))))) (Ba (gN HJ.nd 4)) (BJ (sXM HJ.nd 5 (fM (J7 T) hr (pav 2 (Ac)))) (BJ (sXM HJ.nd 6 (fM (J7 T) hr (pav 3 (Ac)))) (BJ (sXM HJ.nd 7 (fM (JM T) hr (Ah (bAdd (iP) (pU (bMod (vp 4) (iP)))) (Ah (bDiv (vp 4) (iP)) (pav 1 (pav 5 (pav 6 (Ac)))) CN) CN))) (BJ (G9 [] (tEq hr (pU (bMod (pU (bDiv (vp 4) (iP))) (iP))) (iP)) (CP (sXM HJ.nd 7 (fM (JM T) hr (Ah (bAdd (iP) (pU (bMod (pU (bDiv (vp 4) (iP))) (iP)))) (Ah (bDiv (vp 4) (iP)) (pav 7 (pav 5 (pav 6 (Ac)))) CN) CN)))) (FN)) (CP (fK 6 (EY (Bj (tNe hr (pU (fX (Ru T) hr (Ah (fX (J5 T) hr (pav 7 (pav 5 (pav 6 (Ac))))) (Ac) G8))) (pU (fX (Tu T) hr (pav 7 (pav 5 (pav 6 (Ac))))))) (Ag (Al (I_))) (BV)))))))))) (CP (EY (Al (fX (O2 T) hr (pav 1 (pav 2 (pav 3 (Ac)))))))))
end
abbrev gx (K:zFr) (C_World:Addr) (l:List (Str×Addr)):Gx:=gx2 K "World" C_World l
def i_ (K:zFr):Sp:=λ vs H Q _=>∃ (a:Addr) (ns:List Int),vs=[.ref a]/\SqL K H a (ns.map V.int)/\ns.length<=63/\(∀ i∈ns,Builtin.Int.intBits i<=1048576)/\∀ H',Q (.bl true) H'
theorem mC (ht:∀ ns:List Int,ns.length<=63->(∀ i∈ns,Builtin.Int.intBits i<=1048576)->Tp [.lst (ns.map .int)]=some (.bl true)) {K:zFr}{C_World:Addr}{l:List (Str×Addr)}(vs:List V) (H:Hp) (Q:VK) (E:XK) (h:i_ K vs H Q E):spD (gx K C_World l) Tp vs H Q E:=by
 obtain⟨a,ns,rfl,hs,hl,hbt,k⟩:=h;refine⟨[],[.lst (ns.map .int)],.bl true,(λ _ z=>nomatch z),RepL.cons ?_ RepL.nil,ht ns hl hbt,λ v H2 _ r=>?_⟩
 ·have e:hid [] H=H:=by funext b;exact Ao (λ z=>nomatch z)
  rw[e];refine .lst hs (by simp) λ i x d h1 h2=>?_;rw[z0c] at h1 h2;cases e2:ns[i]? with
  | none=>rw[e2] at h1;cases h1
  | some z=>rw[e2] at h1 h2;cases h1;cases h2;exact .int z
 ·cases r;exact k H2
end K03
namespace K03
open PySem L2 PV
theorem fV (ns:List Int) (k:Nat):Bd [.lst (ns.map .int),.int (k:Int)]=some (.int (ns.getD k 0)):=by
 by_cases h:k<ns.length
 ·have eg:ns.getD k 0=ns[k]:=by simp[h]
  rw[eg];have e:atI (ns.map D.int) (k:Int)=some (.int ns[k]):=by
   rw[Yz (by omega) (by simpa using h)];simp[h]
  simp[Bd,runF,Ga,seqF,ifS,blF,bF,vF,uF,Bm,lenD,Sh,h,retF,ixD,e]
 ·have eg:ns.getD k 0=0:=by simp[z0I.mp h]
  rw[eg];simp[Bd,runF,Ga,seqF,ifS,blF,bF,vF,uF,Bm,lenD,Sh,h,retF,nxF,kF]
theorem M5 (ns:List Int) (k:Nat):∃ i,Bd [.lst (ns.map .int),.int (k:Int)]=some (.int i):=⟨_,fV ns k⟩
theorem Rv (x y:Str):cs (x++y)=cs x++cs y:=by show (x.cps++y.cps).toList=_;simp[cs]
theorem VD (x:Str):(cs x).length=x.length:=by simp[cs,Str.length]
theorem az {x y:Str}(h:cs x=cs y):x=y:=by
 cases x with | mk a=>cases y with | mk b=>simp[cs] at h;rw[h]
theorem Rw:LET.length=26:=by decide +kernel
theorem Wu {x y:Str}(h:IsL x) (k:IsL y):IsL (x++y):=λ c hc=>by
 rw[Rv] at hc
 rcases z0y.mp hc with q | q
 ·exact h c q
 ·exact k c q
theorem YH:IsL "":=by
 have e:cs ("":Str)=[]:=by decide +kernel
 intro c hc;rw[e] at hc;cases hc
def Nm (x:Str):Prop:=∃ c,c∈cs LET/\x=⟨#[c]⟩
theorem Nm.isL {x:Str}(h:Nm x):IsL x:=by obtain⟨c,hc,rfl⟩:=h;intro d hd;simp[cs] at hd;subst hd;exact hc
theorem Nm.len {x:Str}(h:Nm x):x.length=1:=by obtain⟨c,hc,rfl⟩:=h;rfl
theorem o9 (i:Int) (h0:0<=i) (h1:i<26):∃ c,(cs LET)[i.toNat]?=some c/\c∈cs LET/\ixD (.str LET) (.int i)=some (.str ⟨#[c]⟩):=by
 have hl:(cs LET).length=26:=by rw[VD];exact Rw
 have hi:i.toNat<(cs LET).length:=by omega
 refine⟨(cs LET)[i.toNat],by simp[hi],List.getElem_mem hi,?_⟩;show (if LET.length<=sizeLine then (atI (cs LET) i).map (λ c=>D.str ⟨#[c]⟩) else none)=_;rw[if_pos (Bw (by rw[Rw];decide)),Yz h0 (by rw[hl];omega)];simp[hi]
def plc (n at_:Int) (k j:Nat):Int:=n/((j:Int)+3)+(j:Int)*j+(if (j:Int)=at_ then 1 else 0)*(k:Int)
def chr (n at_:Int) (k j:Nat):Nat:=(cs LET).getD (plc n at_ k j%26).toNat 0
def wrd (n at_:Int) (k:Nat) (m:Nat):Str:=⟨((List.range m).map (chr n at_ k)).toArray⟩
theorem Tv (n at_:Int) (k m:Nat):wrd n at_ k (m+1)=wrd n at_ k m++⟨#[chr n at_ k m]⟩:=by
 apply az;rw[Rv];simp[wrd,cs,List.range_succ]
theorem Iu (n at_:Int) (k m:Nat):(wrd n at_ k m).length=m:=by simp[wrd,Str.length]
theorem Tw (n at_:Int) (k j:Nat):chr n at_ k j∈cs LET/\ixD (.str LET) (.int (plc n at_ k j%26))=some (.str ⟨#[chr n at_ k j]⟩):=by
 obtain⟨c,h1,h2,h3⟩:=o9 (plc n at_ k j%26) (z0E _ (by decide)) (z0L _ (by decide));have e:chr n at_ k j=c:=by unfold chr;rw[z1q,h1];rfl
 rw[e];exact⟨h2,h3⟩
theorem Wv (n at_:Int) (k:Nat):∀ m,IsL (wrd n at_ k m)
 | 0=>YH
 | m+1=>by
  rw[Tv];refine Wu (Wv n at_ k m) λ c hc=>?_;simp[cs] at hc;subst hc;exact (Tw n at_ k m).1
theorem mD:(cs LET).Nodup:=by decide +kernel
theorem mF (n:Int) (at_:Nat) {k k':Nat}(hk:k<7) (hk':k'<7) (h:k≠k'):chr n at_ k at_≠chr n at_ k' at_:=by
 have hl:(cs LET).length=26:=by rw[VD];exact Rw
 intro e;have b:∀ k:Nat,(plc n at_ k at_%26).toNat<(cs LET).length:=λ k=>by
  have h0:0<=plc n at_ k at_%26:=z0E _ (by decide);have h1:plc n at_ k at_%26<26:=z0L _ (by decide);rw[hl];omega
 have e2:∀ k:Nat,chr n at_ k at_=(cs LET)[(plc n at_ k at_%26).toNat]'(b k):=λ k=>by
  unfold chr;rw[z1q,z0D (b k)];rfl
 rw[e2,e2] at e;have e3:=(List.getElem_inj mD).mp e;have p:∀ k:Nat,plc n at_ k at_=n/((at_:Int)+3)+(at_:Int)*at_+k:=λ k=>by unfold plc;rw[if_pos rfl,Int.one_mul]
 rw[p,p] at e3;generalize n/((at_:Int)+3)+(at_:Int)*at_=z at e3;have h0:0<=(z+(k:Int))%26:=z0E _ (by decide);have h0':0<=(z+(k':Int))%26:=z0E _ (by decide);omega
theorem mG (n:Int) (at_ m:Nat) (ha:at_<m) {k k':Nat}(hk:k<7) (hk':k'<7) (h:k≠k'):wrd n at_ k m≠wrd n at_ k' m:=by
 intro e;have e1:cs (wrd n at_ k m)=cs (wrd n at_ k' m):=by rw[e]
 simp only[wrd,cs] at e1;have e2:=congrArg (λ l=>l[at_]?) e1;simp[ha] at e2;exact mF n at_ hk hk' h e2
def fix (x:Str):Str:=if x∈KEPT then x++"x" else x
def fin (n at_:Int) (m:Nat) (k:Nat):Str:=fix (wrd n at_ k m)
theorem mH:∀ y∈KEPT,(y++("x":Str)).length<=5/\(y++("x":Str))∉KEPT/\y.length<=4:=by decide +kernel
theorem mJ {x:Str}(h1:1<=x.length) (h8:x.length<=8) (hL:IsL x):Wd (fix x):=by
 unfold fix;split
 ·rename_i h;obtain⟨k1,k2,_⟩:=mH x h;refine⟨by rw[Dk];omega,by omega,Wu hL ?_,k2⟩;intro c hc;have e:cs ("x":Str)=[120]:=by decide +kernel
  rw[e] at hc;simp at hc;subst hc;decide +kernel
 ·rename_i h;exact⟨h1,h8,hL,h⟩
theorem fW {x y:Str}(hl:x.length=y.length) (h:fix x=fix y):x=y:=by
 have x1:Str.length "x"=1:=by decide +kernel
 unfold fix at h;split at h<;>split at h
 ·have:=congrArg cs h;rw[Rv,Rv] at this;exact az (List.append_cancel_right this)
 ·have:=congrArg Str.length h;rw[Dk] at this;omega
 ·have:=congrArg Str.length h;rw[Dk] at this;omega
 ·exact h
theorem fY (x:Str):inF false (.str x) (.lst [.str "not",.str "and",.str "or",.str "some",.str "all"])=some (.bl (decide (x∈KEPT))):=by
 have e:=V3 x KEPT;have:(KEPT.any λ y=>y==x)=decide (x∈KEPT):=by
  rw[z0S];simp only[List.any_eq_true,z0u,z0K];exact⟨λ ⟨y,h1,h2⟩=>h2▸h1,λ h=>⟨x,h,rfl⟩⟩
 rw[this] at e;exact e
end K03
section
open PySem L2 PV
local macro_rules | `(tactic| w_up) => `(tactic| (rw [z04, Ci, e_tg, Gg, HQ]; simp only [z1a, z1b]))
local macro_rules | `(tactic| simp only [cK, $ls,*] $[$l:location]?) => `(tactic| simp only [Vi, e_nx, e_rt, e_bk, e_ct, Vj, e_if, Vk, Vl, Vm, QZ, Vn, Qa, Qc, Qd, Ls, e_b, e_bs, e_u, e_us, Qe, Lw, Qf, Lx, Vo, Vp, Vq, Qg, Qh, Qi, Qj, Qk, Ql, Qm, Qn, Qo, Qp, Qq, Qs, Qt, e_bl, Vr, Qu, Ly, Lz, Vs, Qv, Qw, Qx, Qy, L_, MF, Vt, Qz, Q0, Q3, MJ, Vu, Q4, Q5, e_sl, Vv, Vw, MK, Jg, e_v, e_vs, e_vU, Vx, Vy, e_k, Q6, MN, MP, NZ, Vz, Q7, Ss, Q8, Q9, V2, Q_, Jh, V1, e_tr, RB, MT, V4, RC, KH, Ji, Ci, Ep, Ma, Mf, Mg, Gg, e_tg, HQ, z0o, z1g, z04, List.map_nil, List.cons_append, List.nil_append, List.replicate_succ, List.replicate_zero, List.getElem?_cons_zero, List.getElem?_cons_succ, z1a, z1b, Nat.reduceAdd, Nat.reduceSub, Nat.reduceEqDiff, z0G, truB, Bool.not_true, Bool.not_false, decide_true, decide_false, z0v, Int.reduceLT, Int.reduceLE, Int.reduceNeg, Int.reduceEq, Int.reduceToNat, Nat.reduceLeDiff, ix0, ix1, ix2, ixt0, ixt1, ixt2, ixt3, $ls,*] $[$l:location]?)
local macro_rules | `(tactic| simp only [cK]) => `(tactic| simp only [Vi, e_nx, e_rt, e_bk, e_ct, Vj, e_if, Vk, Vl, Vm, QZ, Vn, Qa, Qc, Qd, Ls, e_b, e_bs, e_u, e_us, Qe, Lw, Qf, Lx, Vo, Vp, Vq, Qg, Qh, Qi, Qj, Qk, Ql, Qm, Qn, Qo, Qp, Qq, Qs, Qt, e_bl, Vr, Qu, Ly, Lz, Vs, Qv, Qw, Qx, Qy, L_, MF, Vt, Qz, Q0, Q3, MJ, Vu, Q4, Q5, e_sl, Vv, Vw, MK, Jg, e_v, e_vs, e_vU, Vx, Vy, e_k, Q6, MN, MP, NZ, Vz, Q7, Ss, Q8, Q9, V2, Q_, Jh, V1, e_tr, RB, MT, V4, RC, KH, Ji, Ci, Ep, Ma, Mf, Mg, Gg, e_tg, HQ, z0o, z1g, z04, List.map_nil, List.cons_append, List.nil_append, List.replicate_succ, List.replicate_zero, List.getElem?_cons_zero, List.getElem?_cons_succ, z1a, z1b, Nat.reduceAdd, Nat.reduceSub, Nat.reduceEqDiff, z0G, truB, Bool.not_true, Bool.not_false, decide_true, decide_false, z0v, Int.reduceLT, Int.reduceLE, Int.reduceNeg, Int.reduceEq, Int.reduceToNat, Nat.reduceLeDiff, ix0, ix1, ix2, ixt0, ixt1, ixt2, ixt3])
local macro_rules | `(tactic| simp only [kC, $ls,*] $[$l:location]?) => `(tactic| simp only [$ls,*, Vi, e_nx, e_rt, e_bk, e_ct, Vj, e_if, Vk, Vl, Vm, QZ, Vn, Qa, Qc, Qd, Ls, e_b, e_bs, e_u, e_us, Qe, Lw, Qf, Lx, Vo, Vp, Vq, Qg, Qh, Qi, Qj, Qk, Ql, Qm, Qn, Qo, Qp, Qq, Qs, Qt, e_bl, Vr, Qu, Ly, Lz, Vs, Qv, Qw, Qx, Qy, L_, MF, Vt, Qz, Q0, Q3, MJ, Vu, Q4, Q5, e_sl, Vv, Vw, MK, Jg, e_v, e_vs, e_vU, Vx, Vy, e_k, Q6, MN, MP, NZ, Vz, Q7, Ss, Q8, Q9, V2, Q_, Jh, V1, e_tr, RB, MT, V4, RC, KH, Ji, Ci, Ep, Ma, Mf, Mg, Gg, e_tg, HQ, z0o, z1g, z04, List.map_nil, List.cons_append, List.nil_append, List.replicate_succ, List.replicate_zero, List.getElem?_cons_zero, List.getElem?_cons_succ, z1a, z1b, Nat.reduceAdd, Nat.reduceSub, Nat.reduceEqDiff, z0G, truB, Bool.not_true, Bool.not_false, decide_true, decide_false, z0v, Int.reduceLT, Int.reduceLE, Int.reduceNeg, Int.reduceEq, Int.reduceToNat, Nat.reduceLeDiff, ix0, ix1, ix2, ixt0, ixt1, ixt2, ixt3] $[$l:location]?)
local macro_rules | `(tactic| simp only [kiC, $ls,*] $[$l:location]?) => `(tactic| simp only [$ls,*, Vi, e_nx, e_rt, e_bk, e_ct, Vj, e_if, Vk, Vl, Vm, QZ, Vn, Qa, Qc, Qd, Ls, e_b, e_bs, e_u, e_us, Qe, Lw, Qf, Lx, Vo, Vp, Vq, Qg, Qh, Qi, Qj, Qk, Ql, Qm, Qn, Qo, Qp, Qq, Qs, Qt, e_bl, Vr, Qu, Ly, Lz, Vs, Qv, Qw, Qx, Qy, L_, MF, Vt, Qz, Q0, Q3, MJ, Vu, Q4, Q5, e_sl, Vv, Vw, MK, Jg, e_v, e_vs, e_vU, Vx, Vy, e_k, Q6, MN, MP, NZ, Vz, Q7, Ss, Q8, Q9, V2, Q_, Jh, V1, e_tr, RB, MT, V4, RC, KH, Ji, Ci, Ep, Ma, Mf, Mg, Gg, e_tg, HQ, z0o, z1g, z04, List.map_nil, List.cons_append, List.nil_append, List.replicate_succ, List.replicate_zero, List.getElem?_cons_zero, List.getElem?_cons_succ, z1a, z1b, Nat.reduceAdd, Nat.reduceSub, Nat.reduceEqDiff, z0G, truB, Bool.not_true, Bool.not_false, decide_true, decide_false, z0v, Int.reduceLT, Int.reduceLE, Int.reduceNeg, Int.reduceEq, Int.reduceToNat, Nat.reduceLeDiff, ix0, ix1, ix2, ixt0, ixt1, ixt2, ixt3, Gf, GQ, Uk, Ul, Sh, Jf, Y0, NT, Vg, Y4, Y5] $[$l:location]?)
local macro_rules | `(tactic| simp only [dK, $ls,*] $[$l:location]?) => `(tactic| simp only [cK, Zz, Z0, Z1, Mq, WR, WT, WW, Jp, Rb, WX, WY, Wa, Dh, Er, Wb, Mr, Wc, Rc, Z2, We, iT, iU, Z3, Z4, Wf, TV, Rg, K1, iV, $ls,*] $[$l:location]?)
local macro_rules | `(tactic| simp only [ciK, $ls,*] $[$l:location]?) => `(tactic| simp only [cK, Gf, GQ, Uk, Ul, Sh, Jf, Y0, NT, Vg, Y4, Y5, $ls,*] $[$l:location]?)
local macro_rules | `(tactic| simp only [diK, $ls,*] $[$l:location]?) => `(tactic| simp only [cK, Zz, Z0, Z1, Mq, WR, WT, WW, Jp, Rb, WX, WY, Wa, Dh, Er, Wb, Mr, Wc, Rc, Z2, We, iT, iU, Z3, Z4, Wf, TV, Rg, K1, iV, Gf, GQ, Uk, Ul, Sh, Jf, Y0, NT, Vg, Y4, Y5, $ls,*] $[$l:location]?)
namespace K03
open PySem L2 PV
theorem jA (b:Bool):intD (.bl b)=some (.int (if b then 1 else 0)):=zE_ _
theorem sml (h:j<8):(j:Int)<8/\0<=(j:Int):=by omega
theorem fj (i mm n l at_:Int) (w6:Slot) (k m:Nat) (hk:k<7) (hm:m<=8) (y9 y10:Slot):∃ z9 z10:Slot,
  forF (tgB (BW 9) DK) (rngD m) [.fz (.int i),.fz (.int mm),.fz (.str LET),.fz (.int n),.fz (.int l),.fz (.int at_),w6,.fz (.int (k:Int)),.fz (.str ""),y9,y10]
   = some (.nx [.fz (.int i),.fz (.int mm),.fz (.str LET),.fz (.int n),.fz (.int l),.fz (.int at_),w6,.fz (.int (k:Int)),.fz (.str (wrd n at_ k m)),z9,z10]):=by
 obtain⟨ρ',e,z9,z10,rfl⟩:=Hi (b:=tgB (BW 9) DK) (ds:=rngD m) (ρ:=[.fz (.int i),.fz (.int mm),.fz (.str LET),.fz (.int n),.fz (.int l),.fz (.int at_),w6,.fz (.int (k:Int)),.fz (.str ""),y9,y10])
  (P:=λ j ρ=>∃ z9 z10:Slot,ρ=[.fz (.int i),.fz (.int mm),.fz (.str LET),.fz (.int n),.fz (.int l),.fz (.int at_),w6,.fz (.int (k:Int)),.fz (.str (wrd n at_ k j)),z9,z10]) 0 ⟨y9,y10,rfl⟩ (by
   rintro j d ρ hd ⟨z9,z10,rfl⟩;have hj:j<m:=by
    have:=(z0z.mp hd).1;rw[Du] at this;exact this
   have ed:d=.int (j:Int):=by
    have:=hd;simp[rngD,hj] at this;exact this.symm
   subst ed;have hj8:=sml (show j<8 by omega);have e1:=GQ n ((j:Int)+3) (by omega) (by omega);have e2:=Lr (j:Int) (j:Int) (by omega);have e3:=Lr (if decide ((j:Int)=at_) then (1:Int) else 0) (k:Int) (by omega);have pe:n/((j:Int)+3)+(j:Int)*j+(if decide ((j:Int)=at_)=true then (1:Int) else 0)*(k:Int)=plc n at_ k j:=by unfold plc;simp
   have ex:=(Tw n at_ k j).2;have ea:=Y6 (i:=wrd n at_ k j) (j:=⟨#[chr n at_ k j]⟩) (by rw[Iu];show j+1<=_;omega);rw[<-Tv] at ea;refine⟨_,?_,.fz (.int (j:Int)),.fz (.int (plc n at_ k j)),by rw[z0G]⟩;rw[z0G];show DK [.fz (.int i),.fz (.int mm),.fz (.str LET),.fz (.int n),.fz (.int l),.fz (.int at_),w6,.fz (.int (k:Int)),.fz (.str (wrd n at_ k j)),.fz (.int (j:Int)),z10]=_;simp only[diK,DK,jA,e1,e2,e3,pe,ex,ea])
 rw[Du,z0G] at *;exact⟨z9,z10,e⟩
theorem o_:Str.length "x"=1:=by decide +kernel
theorem Ww (L:List D) (x:D) (h:L.length<=1000):appL (.lst L) x=some (.lst (L++[x])):=by
 unfold appL;show (if L.length<sizeLine then some (D.lst (L++[x])) else none)=_;rw[if_pos (z18 h (by decide))]
theorem a_ (i mm n:Int) (l at_ k:Nat) (hk:k<7) (hl8:l<=8) (fs:List D) (hf:fs.length<=1000) (z8 z9 z10:Slot):∃ y9 y10:Slot,DN [.fz (.int i),.fz (.int mm),.fz (.str LET),.fz (.int n),.fz (.int (l:Int)),.fz (.int (at_:Int)),.ow (.lst fs),.fz (.int (k:Int)),z8,z9,z10]
  = some (.nx [.fz (.int i),.fz (.int mm),.fz (.str LET),.fz (.int n),.fz (.int (l:Int)),.fz (.int (at_:Int)),.ow (.lst (fs++[.str (fin n at_ l k)])),.fz (.int (k:Int)),.fz (.str (fin n at_ l k)),y9,y10]):=by
 obtain⟨y9,y10,e1⟩:=fj i mm n l at_ (.ow (.lst fs)) k l hk hl8 z9 z10;have e2:=KD (l:Int) (by omega);have e3:=fY (wrd n at_ k l);have e4:=Y6 (i:=wrd n at_ k l) (j:="x") (by rw[Iu,o_];omega);have e5:=Ww fs (.str (fin n at_ l k)) hf;refine⟨y9,y10,?_⟩
 by_cases hq:wrd n at_ k l∈KEPT
 ·have ef:wrd n at_ k l++"x"=fin n at_ l k:=by unfold fin fix;rw[if_pos hq]
  rw[z0h hq] at e3;rw[ef] at e4;simp only[diK,DN,e2,z11,e1,e3,e4,e5]
 ·have ef:wrd n at_ k l=fin n at_ l k:=by unfold fin fix;rw[if_neg hq]
  rw[z0d hq] at e3;rw[ef] at e1 e3;simp only[diK,DN,e2,z11,e1,e3,e5]
theorem bA (i:Int) (mm:Nat) (hm:mm<=6):∃ ws:List Str,FP [.int i,.int (mm:Int)]=some (.lst (ws.map .str))/\ws.length=mm/\(∀ x∈ws,Wd x)/\ws.Nodup:=by
 have n0:0<=i%2147483629:=z0E _ (by decide);generalize en:i%2147483629=n at n0;have l0:0<=n%8:=z0E _ (by decide);have l8:n%8<8:=z0L _ (by decide);obtain⟨l,el⟩:∃ l:Nat,(l:Int)=1+n%8:=⟨(1+n%8).toNat,by omega⟩;have hl1:1<=l:=by omega
 have hl8:l<=8:=by omega
 have a0:0<=n/8%(l:Int):=z0E _ (by omega);have al:n/8%(l:Int)<l:=z0L _ (by omega);obtain⟨at_,ea⟩:∃ a:Nat,(a:Int)=n/8%(l:Int):=⟨(n/8%(l:Int)).toNat,by omega⟩;have hat:at_<l:=by omega
 refine⟨(List.range mm).map (fin n at_ l),?_,by simp,λ x hx=>?_,?_⟩
 ·have hL:(Str.ofString "abcdefghijklmnopqrstuvwxyz")=LET:=rfl;obtain⟨ρ',e,z7,z8,z9,z10,rfl⟩:=Hi (b:=tgB (BW 7) DN) (ds:=rngD mm) (ρ:=[.fz (.int i),.fz (.int (mm:Int)),.fz (.str LET),.fz (.int n),.fz (.int (l:Int)),.fz (.int (at_:Int)),.ow (.lst []),.un,.un,.un,.un])
   (P:=λ k ρ=>∃ z7 z8 z9 z10:Slot,ρ=[.fz (.int i),.fz (.int (mm:Int)),.fz (.str LET),.fz (.int n),.fz (.int (l:Int)),.fz (.int (at_:Int)),.ow (.lst (((List.range k).map (fin n at_ l)).map .str)),z7,z8,z9,z10]) 0 ⟨.un,.un,.un,.un,rfl⟩ (by
    rintro k d ρ hd ⟨z7,z8,z9,z10,rfl⟩;have hk:k<mm:=by
     have:=(z0z.mp hd).1;rw[Du] at this;exact this
    have ed:d=.int (k:Int):=by
     have:=hd;simp[rngD,hk] at this;exact this.symm
    subst ed;obtain⟨y9,y10,st⟩:=a_ i mm n l at_ k (by omega) hl8 (((List.range k).map (fin n at_ l)).map .str) (by simp;omega) z8 z9 z10;rw[z0G];have er:((List.range k).map (fin n at_ l)).map D.str++[.str (fin n at_ l k)]=((List.range (k+1)).map (fin n at_ l)).map .str:=by simp[List.range_succ]
    rw[er] at st;refine⟨_,?_,.fz (.int (k:Int)),.fz (.str (fin n at_ l k)),y9,y10,rfl⟩;rw[e_tg,Gg,HQ];exact st)
  rw[Du,z0G] at *;have e6:=KD (mm:Int) (by omega);have e7:(1:Int)+n%8=(l:Int):=el.symm;have e8:=GQ n 8 (by decide) (by decide);have e9:=Gf (n/8) (l:Int) (by omega);rw[<-ea] at e9;simp only[diK,FP,G_,hL,en,e7,e8,e9,e6,z11,e,Int.reduceLT,Int.reduceMod]
 ·obtain⟨k,hk,rfl⟩:=z0b.mp hx;exact mJ (by rw[Iu];exact hl1) (by rw[Iu];exact hl8) (Wv _ _ _ _)
 ·rw[List.nodup_iff_pairwise_ne,List.pairwise_map];refine List.Pairwise.imp_of_mem (R:=λ a b=>a≠b) (λ {a b} ha hb h=>?_) List.nodup_range;have ha:=z0R.mp ha;have hb:=z0R.mp hb;intro z;exact mG n at_ l hat (by omega) (by omega) h (fW (by rw[Iu,Iu]) z)
theorem mK (c:Nat):inD false (.str ⟨#[c]⟩) (.str LET)=some (.bl (!(Builtin.Str.occurrences LET ⟨#[c]⟩ 0 LET.length 1).isEmpty)):=zE_ _
theorem bB:∀ c∈cs LET,(!(Builtin.Str.occurrences LET ⟨#[c]⟩ 0 LET.length 1).isEmpty)=true:=by decide +kernel
theorem fu {x:Str}(h:x∉KEPT):inF false (.str x) c_KEPT_TEXTS=some (.bl false):=by
 have e:inF false (.str x) c_KEPT_TEXTS=inD false (.str x) (.lst (KEPT.map .str)):=rfl;rw[e,V3];have:(KEPT.any λ y=>y==x)=false:=by
  rw[List.any_eq_false];intro y hy hz;have:=z0u.mp hz;exact h (this▸hy)
 rw[this]
theorem mL (x:Str) (h:x.length<=10000000):lenE (.str x)=some (.int x.length):=oF x h
theorem gA {x:Str}(h:Wd x):BL [.str x]=some (.bl true):=by
 have k:=fu h.kept;have h1:=h.lo;have h2:=h.hi;have l:=mL x (by omega);have c0:¬ ((x.length:Int)=0):=by omega
 have c8:¬ ((8:Int)<x.length):=by omega
 have cc:∀ l:List Nat,(∀ c∈l,c∈cs LET)->GP [.fz (.str x)] allT Ey (l.map λ c=>.str ⟨#[c]⟩)=some (l.map λ _=>.bl true):=by
  intro l
  induction l with
  | nil=>intro _;rfl
  | cons c r ih=>
   intro hl;have v:Ey ([.fz (.str x)]++[.fz (.str ⟨#[c]⟩)])=some (.bl true):=by
    have e:inF false (.str ⟨#[c]⟩) (.str LET)=some (.bl true):=by
     show inD false (.str ⟨#[c]⟩) (.str LET)=_;rw[mK,bB c (hl c (by simp))]
    have hL:(Str.ofString "abcdefghijklmnopqrstuvwxyz")=LET:=rfl;simp only[cK,Ey,hL,e]
   rw[z04,G4,Ss,v,ih λ d hd=>hl d (by simp[hd])];rfl
 have c1:Gk (seqA (vF 0)) allT Ey [.fz (.str x)]=some (.lst ((cs x).map λ _=>.bl true)):=by
  refine Vh (ds:=(cs x).map λ c=>.str ⟨#[c]⟩) (by rfl) (by rw[z01,VD];omega) (cc (cs x) h.isL)
 have al:∀ l:List Nat,allD (.lst (l.map λ _=>.bl true))=some (.bl true):=by
  intro l;have q:∀ l:List Nat,blsD (l.map λ _=>D.bl true)=some (l.map λ _=>true):=by
   intro l
   induction l with
   | nil=>rfl
   | cons c r ih=>simp[blsD,ih]
  show (blsD (l.map λ _=>D.bl true)).map _=_;rw[q];simp
 simp only[ciK,BL,Kl,k,l,c0,c8,c1,al]
theorem Tz {α:Type}{w:Str}(f:α->D) {l:List (Str×α)}(h:w∉l.map (·.1)):(.inr w:Key)∉(l.map λ p=>((.inr p.1:Key),f p.2)).map (·.1):=by
 intro z;rw[z0i] at z;obtain⟨u,hu,e⟩:=z0b.mp z;simp at e;exact h (z0b.mpr ⟨u,hu,e⟩)
theorem gB (c:Nat) (h:c∈cs LET):inF true (.str ⟨#[c]⟩) (.str LET)=some (.bl false):=by
 have e1:inF true (.str ⟨#[c]⟩) (.str LET)=some (.bl (!(!(Builtin.Str.occurrences LET ⟨#[c]⟩ 0 LET.length 1).isEmpty))):=zE_ _;rw[e1,bB c h];rfl
theorem Wx (x:Str):∀ (l:List Nat) (z:Slot),(∀ c∈l,c∈cs LET)->∃ z',forF (tgB (BW 1) DX) (l.map λ c=>.str ⟨#[c]⟩) [.fz (.str x),z]=some (.nx [.fz (.str x),z'])
 | [],z,_=>⟨z,rfl⟩
 | c::r,z,h=>by
  have hL:(Str.ofString "abcdefghijklmnopqrstuvwxyz")=LET:=rfl;have e:=gB c (h c (by simp));obtain⟨z',ih⟩:=Wx x r (.fz (.str ⟨#[c]⟩)) λ d hd=>h d (by simp[hd]);have b:DX [.fz (.str x),.fz (.str ⟨#[c]⟩)]=some (.nx [.fz (.str x),.fz (.str ⟨#[c]⟩)]):=by
   simp only[cK,DX,hL,e]
  refine⟨z',?_⟩
  w_up
  rw[b,Ep];exact ih
theorem bC {x:Str}(h:IsL x):Ar [.str x]=some (.bl true):=by
 obtain⟨z',lo⟩:=Wx x (cs x) .un h;have sq:HR (some (.str x))=some ((cs x).map λ c=>.str ⟨#[c]⟩):=rfl;simp only[cK,Ar,Fx,Dh,sq,lo]
theorem pA:BL [.str "Red"]=some (.bl false):=by kernel_rfl
theorem pB:Ar [.str "Red"]=some (.bl false):=by kernel_rfl
theorem mO:BL [.str "near to"]=some (.bl false):=by kernel_rfl
theorem mQ:Ar [.str "near to"]=some (.bl false):=by kernel_rfl
theorem QF {n:Nat}(f:Nat->Bool) (h:Nat->D) (src:FI) (hs:src ρ=some (rngD n)) (hn:n<=1000) (h1:∀ k,k<n->ga (ρ++[.fz (.int k)])=some (f k)) (h2:∀ k,k<n->fe (ρ++[.fz (.int k)])=some (h k)):Gk src ga fe ρ=some (.lst (((List.range n).filter f).map h)):=by
 have c:∀ l:List Nat,(∀ k∈l,k<n)->GP ρ ga fe (l.map λ (k:Nat)=>D.int k)=some ((l.filter f).map h):=by
  intro l
  induction l with
  | nil=>intro _;rfl
  | cons k r ih=>
   intro hl;rw[z04,G4,h1 k (hl k (by simp)),h2 k (hl k (by simp)),ih λ d hd=>hl d (by simp[hd]),List.filter_cons];cases f k<;>rfl
 exact Vh hs (by rw[Du];omega) (c (List.range n) λ k hk=>z0R.mp hk)
theorem QG {l:List Str}(nd:l.Nodup) {i j:Nat}(hi:i<l.length) (hj:j<l.length) (e:l[i]=l[j]):i=j:=by
 have h:=List.pairwise_iff_getElem.mp nd
 rcases Nat.lt_trichotomy i j with z | z | z
 ·exact absurd e (h i j hi hj z)
 ·exact z
 ·exact absurd e.symm (h j i hj hi z)
theorem Fz (n:Nat) (f:Nat->Bool):((List.range n).filter f).Nodup:=List.Nodup.sublist List.filter_sublist List.nodup_range
theorem mR (n:Nat) (hn:n<=100) (ρ:Rho) (i:Nat) (h:ρ[i]?=some (.fz (.int (n:Int)))):rngI (vF i) ρ=some (rngD n):=by
 have rg:=KD (n:Int) (by omega);simp only[NZ,e_v,h,e_vs,rg,z11]
theorem shl1 (k:Nat) (hk:k<30):shlD (.int 1) (.int (k:Int))=some (.int (2^k)):=by
 show (if CShl 1 (k:Int) then some (D.int (1*2^(k:Int).toNat)) else none)=_;rw[if_pos ⟨by omega,by omega,by decide +kernel⟩];simp
theorem YJ (k:Nat) (hk:k<26):(0:Int)<2^k/\(2:Int)^k<1073741824:=by
 have:∀ k<26,(0:Int)<2^k/\(2:Int)^k<1073741824:=by decide +kernel
 exact this k hk
theorem three (i:Int):i%3=0∨i%3=1∨i%3=2:=by omega
theorem bD (i mm:Int) (k:Nat) (hk:k<26) (fs:List D) (hf:fs.length<=1000) (n:Int) (hn:0<=n/\n<2147483629):∃ (b:Bool) (n':Int),0<=n'/\n'<2147483629 ∧
  Cy [.fz (.int i),.fz (.int mm),.ow (.lst fs),.fz (.int n),.fz (.int (k:Int))]=some (.nx [.fz (.int i),.fz (.int mm),.ow (.lst (fs++[.bl b])),.fz (.int n'),.fz (.int (k:Int))]):=by
 obtain⟨p0,p1⟩:=YJ k hk;have s1:=shl1 k (by omega)
 rcases three i with h | h | h
 ·have d1:=GQ i 3 (by decide) (by decide);have d2:=GQ (i/3) (2^k) p0 p1;refine⟨decide (i/3/2^k%2=1),n,hn.1,hn.2,?_⟩;have a:=Ww fs (.bl (decide (i/3/2^k%2=1))) hf;have m3:=Gf i 3 (by decide);rw[h] at m3;simp only[ciK,Cy,m3,s1,d1,d2,a,Int.reduceLT]
 all_goals
  have m3:=Gf i 3 (by decide);rw[h] at m3;have e1:=Lr n n (by omega);have e2:=cW 48271 n (by decide);have e4:=Gf (n*n+48271*n+(k:Int)+1) 2147483629 (by decide);have b0:0<=(n*n+48271*n+(k:Int)+1)%2147483629:=z0E _ (by decide);have b1:(n*n+48271*n+(k:Int)+1)%2147483629<2147483629:=z0L _ (by decide);generalize (n*n+48271*n+(k:Int)+1)%2147483629=n' at e4 b0 b1
 ·have e3:mulD (.int 2) (.int 1)=some (.int 2):=by rfl
  have a:=Ww fs (.bl (decide (n'/7%2=0))) hf;refine⟨decide (n'/7%2=0),n',b0,b1,?_⟩;simp only[ciK,Cy,m3,e1,e2,e3,e4,a,Int.reduceLT]
 ·have e3:mulD (.int 2) (.int 2)=some (.int 4):=by rfl
  have a:=Ww fs (.bl (decide (n'/7%4=0))) hf;refine⟨decide (n'/7%4=0),n',b0,b1,?_⟩;simp only[ciK,Cy,m3,e1,e2,e3,e4,a,Int.reduceLT]
theorem Wy (i:Int) (mm:Nat) (hm:mm<=25):∃ bs:List Bool,Ex [.int i,.int (mm:Int)]=some (.lst (bs.map .bl))/\bs.length=mm:=by
 have n0:0<=i/3%2147483629:=z0E _ (by decide);have n1:i/3%2147483629<2147483629:=z0L _ (by decide);obtain⟨ρ',e,bs,n',z4,rfl,hl,_⟩:=Hi (b:=tgB (BW 4) Cy) (ds:=rngD mm) (ρ:=[.fz (.int i),.fz (.int (mm:Int)),.ow (.lst []),.fz (.int (i/3%2147483629)),.un])
  (P:=λ k ρ=>∃ (bs:List Bool) (n':Int) (z:Slot),ρ=[.fz (.int i),.fz (.int (mm:Int)),.ow (.lst (bs.map .bl)),.fz (.int n'),z]/\bs.length=k/\0<=n'/\n'<2147483629) 0 ⟨[],_,.un,rfl,rfl,n0,n1⟩ (by
   rintro k d ρ hd ⟨bs,n',z,rfl,hl,hn0,hn1⟩;have hk:k<mm:=by
    have:=(z0z.mp hd).1
    rwa [Du] at this
   have ed:d=.int (k:Int):=by
    have:=hd;simp[rngD,hk] at this;exact this.symm
   subst ed;obtain⟨b,n2,h1,h2,st⟩:=bD i mm k (by omega) (bs.map .bl) (by simp;omega) n' ⟨hn0,hn1⟩;refine⟨_,?_,bs++[b],n2,.fz (.int (k:Int)),rfl,by simp;omega,h1,h2⟩;rw[e_tg,Gg,HQ];rw[z0Q];exact st)
 rw[Du,z0G] at hl;refine⟨bs,?_,hl⟩;have e6:=KD (mm:Int) (by omega);simp only[diK,Ex,Ht,e6,z11,e,Int.reduceLT]
theorem QV {ws:List Str}{k:Nat}(h:k<ws.length):ixE (.lst (ws.map .str)) (.int (k:Int))=some (.str ws[k]):=by
 show atI (ws.map D.str) (k:Int)=_;rw[Fo,z0c];simp[h]
theorem jB {bs:List Bool}{k:Nat}(h:k<bs.length):ixE (.lst (bs.map .bl)) (.int (k:Int))=some (.bl bs[k]):=by
 show atI (bs.map D.bl) (k:Int)=_;rw[Fo,z0c];simp[h]
structure Mk (n:Nat) (ms:List (Str×List Nat)):Prop where
 ok:∀ p∈ms,p.2.Nodup/\p.2.length<=100/\∀ t∈p.2,t<n
structure Tk (n:Nat) (ts:List (Str×List (Nat×Nat))):Prop where
 ok:∀ p∈ts,p.2.Nodup/\p.2.length<=100/\∀ q∈p.2,q.1<n/\q.2<n
theorem YK (ns:List Int) (c:D) (n m:Nat) (hn:n<=5) (ws:List Str) (k:Nat) (hk:k<m) (hkw:k<ws.length) (ms:List (Str×List Nat)) (hl:ms.length<=50) (nt:ws[k]∉ms.map (·.1)) (hm:Mk n ms) (w7 z9:Slot) :
  ∃ l z,Bs [.fz (.lst (ns.map .int)),.fz (.int 0),.fz c,.fz (.int (n:Int)),.fz (.int (m:Int)),.fz (.lst (ws.map .str)),.ow (.dk (eM ms)),w7,.fz (.int (k:Int)),z9]
   = some (.nx [.fz (.lst (ns.map .int)),.fz (.int 0),.fz c,.fz (.int (n:Int)),.fz (.int (m:Int)),.fz (.lst (ws.map .str)),.ow (.dk (eM (ms++[(ws[k],l)]))),w7,.fz (.int (k:Int)),z])/\Mk n (ms++[(ws[k],l)]):=by
 obtain⟨i,ci⟩:=M5 ns (2+k);obtain⟨bs,hb,hbl⟩:=Wy i n (by omega);have ce:(0:Int)+2+(k:Int)=((2+k:Nat):Int):=by omega
 have lt:decide ((k:Int)<(m:Int))=true:=by simp;omega
 have cm:Gk (rngI (vF 3)) Ft Hu [.fz (.lst (ns.map .int)),.fz (.int 0),.fz c,.fz (.int (n:Int)),.fz (.int (m:Int)),.fz (.lst (ws.map .str)),.ow (.dk (eM ms)),w7,.fz (.int (k:Int)),.fz (.lst (bs.map .bl))]=some (lM ((List.range n).filter λ t=>bs.getD t false)):=
  QF (λ t=>bs.getD t false) iN _ (mR n (by omega) _ 3 rfl) (by omega) (λ t ht=>by
   have ix:=jB (bs:=bs) (k:=t) (by omega);have eg:bs.getD t false=bs[t]'(by omega):=by rw[z1q,z0D (by omega)];rfl
   simp only[cK,Ft,ix,eg]) λ t ht=>rfl
 have pk:Df (.dk (eM ms)) (.str ws[k]) (lM ((List.range n).filter λ t=>bs.getD t false))=some (.dk (eM (ms++[(ws[k],(List.range n).filter λ t=>bs.getD t false)]))):=by
  rw[JT _ _ _ (by simp[eM];omega)];have:(.inr ws[k]:Key)∉(eM ms).map (·.1):=Tz lM nt;rw[putL_new this];simp[eM]
 have ix:=QV hkw;refine⟨(List.range n).filter λ t=>bs.getD t false,.fz (.lst (bs.map .bl)),?_,⟨λ p hp=>?_⟩⟩
 ·simp only[ciK,Bs,lt,ce,ci,hb,Wc,KH,ix,cm,Rc,pk]
 ·rcases z0y.mp hp with q | q
  ·exact hm.ok p q
  ·obtain rfl:=z1i.mp q;refine⟨Fz n _,?_,λ t ht=>z0R.mp (z0s.mp ht).1⟩;have:=List.length_filter_le (λ t=>bs.getD t false) (List.range n);rw[List.length_range] at this;show ((List.range n).filter _).length<=100;omega
theorem bG (ns:List Int) (c:D) (n m:Nat) (hn:n<=5) (ws:List Str) (k:Nat) (hk:m<=k) (hkw:k<ws.length) (ts:List (Str×List (Nat×Nat))) (hl:ts.length<=50) (nt:ws[k]∉ts.map (·.1)) (hm:Tk n ts) (w6 z9:Slot) :
  ∃ l z,Bs [.fz (.lst (ns.map .int)),.fz (.int 0),.fz c,.fz (.int (n:Int)),.fz (.int (m:Int)),.fz (.lst (ws.map .str)),w6,.ow (.dk (eT ts)),.fz (.int (k:Int)),z9]
   = some (.nx [.fz (.lst (ns.map .int)),.fz (.int 0),.fz c,.fz (.int (n:Int)),.fz (.int (m:Int)),.fz (.lst (ws.map .str)),w6,.ow (.dk (eT (ts++[(ws[k],l)]))),.fz (.int (k:Int)),z])/\Tk n (ts++[(ws[k],l)]):=by
 have hnn:n*n<=25:=Nat.mul_le_mul hn hn;obtain⟨i,ci⟩:=M5 ns (5+k-m);obtain⟨bs,hb,hbl⟩:=Wy i (n*n) hnn;have ce:(0:Int)+5+(k:Int)-(m:Int)=((5+k-m:Nat):Int):=by omega
 have lt:decide ((k:Int)<(m:Int))=false:=by simp;omega
 have mu:=Lr (n:Int) (n:Int) (by omega);have mc:(n:Int)*(n:Int)=((n*n:Nat):Int):=by simp
 rw[mc] at mu;have rg:rngI (bF mulD (vF 3) (vF 3)) [.fz (.lst (ns.map .int)),.fz (.int 0),.fz c,.fz (.int (n:Int)),.fz (.int (m:Int)),.fz (.lst (ws.map .str)),w6,.ow (.dk (eT ts)),.fz (.int (k:Int)),.fz (.lst (bs.map .bl))]=some (rngD (n*n)):=by
  have e6:=KD ((n*n:Nat):Int) (by omega);rw[z11] at e6;simp only[cK,mu,e6]
 have cm:Gk (rngI (bF mulD (vF 3) (vF 3))) Fv Fw [.fz (.lst (ns.map .int)),.fz (.int 0),.fz c,.fz (.int (n:Int)),.fz (.int (m:Int)),.fz (.lst (ws.map .str)),w6,.ow (.dk (eT ts)),.fz (.int (k:Int)),.fz (.lst (bs.map .bl))]=some (.lst (((List.range (n*n)).filter λ t=>bs.getD t false).map λ t=>pN (t/n,t%n))):=
  QF (λ t=>bs.getD t false) (λ t=>pN (t/n,t%n)) _ rg (by omega) (λ t ht=>by
   have ix:=jB (bs:=bs) (k:=t) (by omega);have eg:bs.getD t false=bs[t]'(by omega):=by rw[z1q,z0D (by omega)];rfl
   simp only[cK,Fv,ix,eg]) λ t ht=>by
   have n0:0<n:=by
    rcases Nat.eq_zero_or_pos n with z | z
    ·subst z;simp at ht
    ·exact z
   have d1:=GQ (t:Int) (n:Int) (by omega) (by omega);have d2:=Gf (t:Int) (n:Int) (by omega);have q1:(t:Int)/(n:Int)=((t/n:Nat):Int):=by simp
   have q2:(t:Int)%(n:Int)=((t%n:Nat):Int):=by simp
   rw[q1] at d1;rw[q2] at d2;simp only[cK,Fw,d1,d2]
 have el:(.lst (((List.range (n*n)).filter λ t=>bs.getD t false).map λ t=>pN (t/n,t%n)):D)=lT (((List.range (n*n)).filter λ t=>bs.getD t false).map λ t=>(t/n,t%n)):=by simp[lT]
 rw[el] at cm;have pk:Df (.dk (eT ts)) (.str ws[k]) (lT (((List.range (n*n)).filter λ t=>bs.getD t false).map λ t=>(t/n,t%n)))=some (.dk (eT (ts++[(ws[k],((List.range (n*n)).filter λ t=>bs.getD t false).map λ t=>(t/n,t%n))]))):=by
  rw[JT _ _ _ (by simp[eT];omega)];have:(.inr ws[k]:Key)∉(eT ts).map (·.1):=Tz lT nt;rw[putL_new this];simp[eT]
 have ix:=QV hkw;refine⟨((List.range (n*n)).filter λ t=>bs.getD t false).map λ t=>(t/n,t%n),.fz (.lst (bs.map .bl)),?_,⟨λ p hp=>?_⟩⟩
 ·simp only[ciK,Bs,lt,ce,ci,mu,hb,Wc,KH,ix,cm,Rc,pk]
 ·rcases z0y.mp hp with q | q
  ·exact hm.ok p q
  ·obtain rfl:=z1i.mp q;refine⟨?_,?_,λ q hq=>?_⟩
   ·rw[List.Nodup,List.pairwise_map];refine List.Pairwise.imp (λ {a b} hab e=>hab ?_) (Fz (n*n) _);simp only[Prod.mk.injEq] at e;have h1:=Nat.div_add_mod a n;have h2:=Nat.div_add_mod b n;rw[e.1,e.2] at h1;exact h1.symm.trans h2
   ·have:=List.length_filter_le (λ t=>bs.getD t false) (List.range (n*n));rw[List.length_range] at this;show (((List.range (n*n)).filter _).map _).length<=100;rw[z01];omega
   ·obtain⟨t,ht,rfl⟩:=z0b.mp hq;have ht:=z0R.mp (z0s.mp ht).1;have n0:0<n:=by
     rcases Nat.eq_zero_or_pos n with z | z
     ·subst z;simp at ht
     ·exact z
    exact⟨Nat.div_lt_of_lt_mul ht,Nat.mod_lt _ n0⟩
theorem YL (a:Int) (b:Bool):ixE (.lst [.int a,.int 5]) (.int (if b then 1 else 0))=some (.int (if b then 5 else a)):=by cases b<;>rfl
theorem mU (l:List D):lenE (.lst l)=some (.int l.length):=Y8 l
theorem bH (ns:List Int):∃ W:Wl,WOk W/\DW [.lst (ns.map .int),.int 0]=some (.lst [.int (W.n:Int),.dk (eM W.ms),.dk (eT W.ts)]):=by
 obtain⟨c,hc⟩:=M5 ns 0;obtain⟨c1,hc1⟩:=M5 ns 1;have s0:0<=c/9%5:=z0E _ (by decide);have s1:c/9%5<5:=z0L _ (by decide);obtain⟨n,en⟩:∃ n:Nat,(n:Int)=(if decide (c/45%12=11) then 5 else c/9%5):=⟨(if decide (c/45%12=11) then 5 else c/9%5).toNat,by split<;>omega⟩;have hn:n<=5:=by
  have:(n:Int)<=5:=by rw[en];split<;>omega
  omega
 have m0:0<=c%4:=z0E _ (by decide);have m1:c%4<4:=z0L _ (by decide);obtain⟨m,em⟩:∃ m:Nat,(m:Int)=c%4:=⟨(c%4).toNat,by omega⟩;have t0:0<=c/4%4:=z0E _ (by decide);have t1:c/4%4<4:=z0L _ (by decide);obtain⟨t,et⟩:∃ t:Nat,(t:Int)=c/4%4:=⟨(c/4%4).toNat,by omega⟩;have hm3:m<=3:=by omega
 have ht3:t<=3:=by omega
 obtain⟨ws,hws,hwl,hwd,hnd⟩:=bA c1 (m+t) (by omega);obtain⟨ρ',e,ms,ts,z8,z9,rfl,a1,a2,a3,a4⟩:=Hi (b:=tgB (BW 8) Bs) (ds:=rngD (m+t)) (ρ:=[.fz (.lst (ns.map .int)),.fz (.int 0),.fz (.int c),.fz (.int (n:Int)),.fz (.int (m:Int)),.fz (.lst (ws.map .str)),.ow (.dk (eM [])),.ow (.dk (eT [])),.un,.un])
  (P:=λ k ρ=>∃ (ms:List (Str×List Nat)) (ts:List (Str×List (Nat×Nat))) (z8 z9:Slot),ρ=[.fz (.lst (ns.map .int)),.fz (.int 0),.fz (.int c),.fz (.int (n:Int)),.fz (.int (m:Int)),.fz (.lst (ws.map .str)),.ow (.dk (eM ms)),.ow (.dk (eT ts)),z8,z9]/\ms.map (·.1)=(ws.take m).take k/\ts.map (·.1)=(ws.drop m).take (k-m)/\Mk n ms/\Tk n ts) 0 ⟨[],[],.un,.un,rfl,by simp,by simp,⟨by simp⟩,⟨by simp⟩⟩ (by
   rintro k d ρ hd ⟨ms,ts,z8,z9,rfl,a1,a2,a3,a4⟩;have hk:k<m+t:=by
    have:=(z0z.mp hd).1
    rwa [Du] at this
   have ed:d=.int (k:Int):=by
    have:=hd;simp[rngD,hk] at this;exact this.symm
   subst ed;rw[z0G] at *;have hkw:k<ws.length:=by omega
   by_cases hkm:k<m
   ·have nt:ws[k]∉ms.map (·.1):=by
     rw[a1,List.take_take];intro q;obtain⟨j,hj,ej⟩:=z1o q;rw[z0T] at hj;rw[List.getElem_take] at ej;have:=QG hnd (by omega) hkw ej;omega
    have l1:=congrArg List.length a1;simp at l1;obtain⟨l,z,st,hm'⟩:=YK ns (.int c) n m hn ws k hkm hkw ms (by omega) nt a3 (.ow (.dk (eT ts))) z9;refine⟨_,?_,ms++[(ws[k],l)],ts,.fz (.int (k:Int)),z,rfl,?_,?_,hm',a4⟩
    ·rw[e_tg,Gg,HQ];exact st
    ·rw[z0Q,a1,List.take_take,List.take_take,show min k m=k by omega,show min (k+1) m=k+1 by omega,List.take_succ,z0D hkw];rfl
    ·rw[a2,show k-m=0 by omega,show k+1-m=0 by omega]
   ·have nt:ws[k]∉ts.map (·.1):=by
     rw[a2];intro q;obtain⟨j,hj,ej⟩:=z1o q;rw[z0T,z0W] at hj;rw[List.getElem_take,List.getElem_drop] at ej;have:=QG hnd (by omega) hkw ej;omega
    have l1:=congrArg List.length a2;simp at l1;obtain⟨l,z,st,hm'⟩:=bG ns (.int c) n m hn ws k (by omega) hkw ts (by omega) nt a4 (.ow (.dk (eM ms))) z9;refine⟨_,?_,ms,ts++[(ws[k],l)],.fz (.int (k:Int)),z,rfl,?_,?_,a3,hm'⟩
    ·rw[e_tg,Gg,HQ];exact st
    ·rw[a1,List.take_take,List.take_take,show min k m=m by omega,show min (k+1) m=m by omega]
    ·rw[z0Q,a2,show k+1-m=(k-m)+1 by omega,List.take_succ,List.getElem?_drop,show m+(k-m)=k by omega,z0D hkw];rfl)
 rw[Du,z0G] at *;have b1:ms.map (·.1)=ws.take m:=by rw[a1,List.take_take,show min (m+t) m=m by omega]
 have b2:ts.map (·.1)=ws.drop m:=by rw[a2,List.take_of_length_le (by rw[z0W];omega)]
 refine⟨⟨n,ms,ts⟩,⟨hn,?_,?_,λ p hp=>?_,λ p hp=>?_,?_,a3.ok,a4.ok⟩,?_⟩
 ·have:=congrArg List.length b1;simp at this;show ms.length<=3;omega
 ·have:=congrArg List.length b2;simp at this;show ts.length<=3;omega
 ·refine hwd _ (List.mem_of_mem_take (i:=m) ?_);rw[<-b1];exact z0b.mpr ⟨p,hp,rfl⟩
 ·refine hwd _ (List.mem_of_mem_drop (i:=m) ?_);rw[<-b2];exact z0b.mpr ⟨p,hp,rfl⟩
 ·show (ms.map (·.1)++ts.map (·.1)).Nodup;rw[b1,b2,List.take_append_drop];exact hnd
 ·have e6:=KD ((m+t:Nat):Int) (by omega);rw[z11] at e6;have i1:(0:Int)+1=((1:Nat):Int):=rfl;have i0:(0:Int)=((0:Nat):Int):=rfl;have hc':Bd [.lst (ns.map .int),.int 0]=some (.int c):=hc;have hc1':Bd [.lst (ns.map .int),.int 1]=some (.int c1):=hc1;have sp:=YL (c/9%5) (decide (c/45%12=11));rw[<-en] at sp;have mt:(m:Int)+(t:Int)=((m+t:Nat):Int):=by simp
  have lw:lenE (.lst (ws.map .str))=some (.int ((m+t:Nat):Int)):=by rw[mU,z01,hwl]
  have w0:(.dk []:D)=.dk (eM []):=rfl;have w1:(.dk []:D)=.dk (eT []):=rfl;have e':forF (tgB (BW 8) Bs) (rngD (m+t)) [.fz (.lst (ns.map .int)),.fz (.int 0),.fz (.int c),.fz (.int (n:Int)),.fz (.int (m:Int)),.fz (.lst (ws.map .str)),.ow (.dk []),.ow (.dk []),.un,.un]=_:=e;simp only[diK,DW,HB,jA,hc',Int.reduceLT,Int.reduceAdd,hc1',sp,<-em,<-et,mt,hws,lw,e6,e']
inductive Fl where
 | great (a b:Int) | word (w:Str) | thing (t:Int)
def dueL:Option Fl->D
 | none=>.lst [.str "made"]
 | some (.great a b)=>.lst [.str "great",.int a,.int b]
 | some (.word w)=>.lst [.str "word",.str w]
 | some (.thing t)=>.lst [.str "thing",.int t]
abbrev pI (q:Int×Int):D:=.tup [.int q.1,.int q.2]
def zM (ms:List (Str×List Int)):List (Key×D):=ms.map λ p=>(.inr p.1,.lst (p.2.map .int))
def zT (ts:List (Str×List (Int×Int))):List (Key×D):=ts.map λ p=>(.inr p.1,.lst (p.2.map pI))
def thF (n t:Int):Option Fl:=if t<0∨t≥n then some (.thing t) else none
def prF (n:Int) (q:Int×Int):Option Fl:=match thF n q.1 with | some f=>some f | none=>thF n q.2
def roM (isw:Str->Bool) (n:Int) (p:Str×List Int):Option Fl:=if isw p.1=true then p.2.findSome? (thF n) else some (.word p.1)
def roT (isw:Str->Bool) (ks:List Str) (n:Int) (p:Str×List (Int×Int)):Option Fl:=if isw p.1=true/\p.1∉ks then p.2.findSome? (prF n) else some (.word p.1)
def flt (isw:Str->Bool) (n:Int) (ms:List (Str×List Int)) (ts:List (Str×List (Int×Int))):Option Fl:=
 if n > 5 then some (.great n 5) else if ms.length > 3 then some (.great ms.length 3) else if ts.length > 3 then some (.great ts.length 3) else
 match ms.findSome? (roM isw n) with | some f=>some f | none=>ts.findSome? (roT isw (ms.map (·.1)) n)
theorem Gs {α:Type}{tg:FG}{b:FS}(mr:PV.Slot->PV.Slot->PV.Slot->Rho) (e:α->D) (F:α->Option Fl) (ht:∀ d x y z,tg d (mr x y z)=some (mr (.fz d) y z)) :
  ∀ (l:List α) (x y z:PV.Slot),(∀ a∈l,∀ y z,∃ y' z',b (mr (.fz (e a)) y z)=some (match F a with | some f=>.rt (dueL (some f)) (mr (.fz (e a)) y' z') | none=>.nx (mr (.fz (e a)) y' z'))) ->
  ∃ x' y' z',forF (tgB tg b) (l.map e) (mr x y z)=some (match l.findSome? F with | some f=>.rt (dueL (some f)) (mr x' y' z') | none=>.nx (mr x' y' z'))
 | [],x,y,z,_=>⟨x,y,z,rfl⟩
 | a::l,x,y,z,h=>by
  obtain⟨y1,z1,h1⟩:=h a (by simp) y z;rw[z04,Ci,e_tg,ht,HQ,h1,List.findSome?_cons];cases hf:F a with
  | some f=>exact⟨_,_,_,rfl⟩
  | none=>
   obtain⟨x',y',z',ih⟩:=Gs mr e F ht l (.fz (e a)) y1 z1 λ b hb=>h b (by simp[hb]);refine⟨x',y',z',?_⟩;simp only[Ep];exact ih
theorem T3 (ms:List (Str×List Int)):(zM ms).map (λ p=>kDt p.1)=ms.map λ p=>D.str p.1:=by simp[zM,K1]
theorem T4 (ts:List (Str×List (Int×Int))):(zT ts).map (λ p=>kDt p.1)=ts.map λ p=>D.str p.1:=by simp[zT,K1]
theorem Ry {α:Type}(f:α->D):∀ {l:List (Str×α)}{p:Str×α},(l.map (·.1)).Nodup->p∈l->getK (.inr p.1) (l.map λ q=>((.inr q.1:Key),f q.2))=some (f p.2)
 | [],p,_,h=>by cases h
 | q::l,p,nd,h=>by
  obtain⟨n1,n2⟩:=z0O.mp nd
  rcases z06.mp h with z | z
  ·subst z;simp[getK]
  ·have ne:q.1≠p.1:=λ e=>n1 (show (λ x:Str×α=>x.1) q∈l.map (·.1) from z0b.mpr ⟨p,z,e.symm⟩);have:=Ry f n2 z;simp[getK,ne] at this ⊢;exact this
theorem T5 (s1 s2 s3 s4 s6:PV.Slot) (n t:Int):DY [.fz (.int n),s1,s2,s3,s4,.fz (.int t),s6]=some (match thF n t with | some f=>.rt (dueL (some f)) [.fz (.int n),s1,s2,s3,s4,.fz (.int t),s6] | none=>.nx [.fz (.int n),s1,s2,s3,s4,.fz (.int t),s6]):=by
 unfold thF
 by_cases z1:t<0
 ·rw[if_pos (.inl z1)];simp only[ciK,DY,z1];rfl
 ·by_cases z2:n<=t
  ·rw[if_pos (.inr z2)];simp only[ciK,DY,NT,z1,z2];rfl
  ·rw[if_neg (by omega)];simp only[ciK,DY,NT,z1,z2]
theorem YM (s1 s2 s3 s4 s6:PV.Slot) (n t:Int):HD [.fz (.int n),s1,s2,s3,s4,.fz (.int t),s6]=some (match thF n t with | some f=>.rt (dueL (some f)) [.fz (.int n),s1,s2,s3,s4,.fz (.int t),s6] | none=>.nx [.fz (.int n),s1,s2,s3,s4,.fz (.int t),s6]):=T5 s1 s2 s3 s4 s6 n t
theorem mV (isw:Str->Bool) (n:Int) {ms:List (Str×List Int)}(nd:(ms.map (·.1)).Nodup) (s2 s3:PV.Slot) {p:Str×List Int}(hp:p∈ms) (hw:Ar [.str p.1]=some (.bl (isw p.1))) (y z:PV.Slot) :
  ∃ y' z',Eh [.fz (.int n),.fz (.dk (zM ms)),s2,s3,.fz (.str p.1),y,z]=some (match roM isw n p with | some f=>.rt (dueL (some f)) [.fz (.int n),.fz (.dk (zM ms)),s2,s3,.fz (.str p.1),y',z'] | none=>.nx [.fz (.int n),.fz (.dk (zM ms)),s2,s3,.fz (.str p.1),y',z']):=by
 unfold roM;cases hi:isw p.1 with
 | false=>
  rw[hi] at hw;refine⟨y,z,?_⟩;simp only[cK,Eh,hw];rfl
 | true=>
  rw[hi] at hw;have ix:ixE (.dk (zM ms)) (.str p.1)=some (.lst (p.2.map .int)):=by
   rw[Mq];exact Ry (λ l:List Int=>D.lst (l.map .int)) nd hp
  obtain⟨x',y',z',e⟩:=Gs (tg:=BW 5) (b:=DY) (λ x _ _=>[.fz (.int n),.fz (.dk (zM ms)),s2,s3,.fz (.str p.1),x,z]) D.int (thF n) (λ d x y z=>rfl) p.2 y .un .un λ t _ _ _=>⟨.un,.un,T5 _ _ _ _ _ n t⟩;refine⟨x',z,?_⟩;simp only[cK,Eh,hw,Dh,ix,Er,e,if_true]
theorem gC (n:Int) (s1 s2 s3 s4:PV.Slot) (q:Int×Int) (y:PV.Slot) :
  ∃ y',Fd [.fz (.int n),s1,s2,s3,s4,y,.fz (pI q)]=some (match prF n q with | some f=>.rt (dueL (some f)) [.fz (.int n),s1,s2,s3,s4,y',.fz (pI q)] | none=>.nx [.fz (.int n),s1,s2,s3,s4,y',.fz (pI q)]):=by
 obtain⟨x',y',z',e⟩:=Gs (tg:=BW 5) (b:=HD) (λ x _ _=>[.fz (.int n),s1,s2,s3,s4,x,.fz (pI q)]) D.int (thF n) (λ d x y z=>rfl) [q.1,q.2] y .un .un λ t _ _ _=>⟨.un,.un,YM _ _ _ _ _ n t⟩;refine⟨x',?_⟩;have sq:HR (some (pI q))=some ([q.1,q.2].map D.int):=rfl;have fs:prF n q=[q.1,q.2].findSome? (thF n):=by
  unfold prF;rw[List.findSome?_cons,List.findSome?_cons,List.findSome?_nil];cases thF n q.1 with
  | some f=>rfl
  | none=>
   dsimp only;cases thF n q.2<;>rfl
 rw[fs];generalize [q.1,q.2]=l at e sq;simp only[cK,Fd,Dh,sq,e]
theorem gD (isw:Str->Bool) (n:Int) {ms:List (Str×List Int)}{ts:List (Str×List (Int×Int))}(nd:(ts.map (·.1)).Nodup) (s3:PV.Slot) {p:Str×List (Int×Int)}(hp:p∈ts) (hw:Ar [.str p.1]=some (.bl (isw p.1)))
  (hm:inF false (.str p.1) (.dk (zM ms))=some (.bl (decide (p.1∈ms.map (·.1))))) (y z:PV.Slot) :
  ∃ y' z',Dd [.fz (.int n),.fz (.dk (zM ms)),.fz (.dk (zT ts)),s3,.fz (.str p.1),y,z]=some (match roT isw (ms.map (·.1)) n p with | some f=>.rt (dueL (some f)) [.fz (.int n),.fz (.dk (zM ms)),.fz (.dk (zT ts)),s3,.fz (.str p.1),y',z'] | none=>.nx [.fz (.int n),.fz (.dk (zM ms)),.fz (.dk (zT ts)),s3,.fz (.str p.1),y',z']):=by
 unfold roT;cases hi:isw p.1 with
 | false=>
  rw[hi] at hw;refine⟨y,z,?_⟩;rw[if_neg (by simp)];simp only[cK,Dd,hw];rfl
 | true=>
  rw[hi] at hw
  by_cases hk:p.1∈ms.map (·.1)
  ·rw[z0h hk] at hm;refine⟨y,z,?_⟩;rw[if_neg (λ w=>w.2 hk)];simp only[cK,Dd,hw,hm];rfl
  ·rw[z0d hk] at hm;rw[if_pos ⟨rfl,hk⟩];have ix:ixE (.dk (zT ts)) (.str p.1)=some (.lst (p.2.map pI)):=by
    rw[Mq];exact Ry (λ l:List (Int×Int)=>D.lst (l.map pI)) nd hp
   obtain⟨x',y',z',e⟩:=Gs (tg:=BW 6) (b:=Fd) (λ x y _=>[.fz (.int n),.fz (.dk (zM ms)),.fz (.dk (zT ts)),s3,.fz (.str p.1),y,x]) pI (prF n) (λ d x y z=>rfl) p.2 z y .un λ q _ y _=>by
    obtain⟨y',h⟩:=gC n (.fz (.dk (zM ms))) (.fz (.dk (zT ts))) s3 (.fz (.str p.1)) q y;exact⟨y',.un,h⟩
   refine⟨y',x',?_⟩;simp only[cK,Dd,hw,hm,Dh,ix,Er,e]
theorem mW (isw:Str->Bool) (n:Int) (ms:List (Str×List Int)) (ts:List (Str×List (Int×Int))) (nm:(ms.map (·.1)).Nodup) (nt:(ts.map (·.1)).Nodup) (hM:∀ p∈ms,Ar [.str p.1]=some (.bl (isw p.1)))
  (hT:∀ p∈ts,Ar [.str p.1]=some (.bl (isw p.1))/\inF false (.str p.1) (.dk (zM ms))=some (.bl (decide (p.1∈ms.map (·.1))))):Ce [.int n,.dk (zM ms),.dk (zT ts)]=some (dueL (flt isw n ms ts)):=by
 have lm:lenE (.dk (zM ms))=some (.int (ms.length:Int)):=by simp[lenE,zM]
 have lt:lenE (.dk (zT ts))=some (.int (ts.length:Int)):=by simp[lenE,zT]
 unfold flt
 by_cases z0:n > 5
 ·rw[if_pos z0];have g:gtD (.int n) (.int 5)=some (.bl true):=by rw[Jf,z0h z0]
  simp only[cK,Ce,Dm,g];rfl
 have g0:gtD (.int n) (.int 5)=some (.bl false):=by rw[Jf,z0d z0]
 rw[if_neg z0];have sq2:HR (some (.lst [.dk (zM ms),.dk (zT ts)]))=some [.dk (zM ms),.dk (zT ts)]:=Er _
 by_cases z1:ms.length > 3
 ·rw[if_pos z1];have g:gtD (.int (ms.length:Int)) (.int 3)=some (.bl true):=by rw[Jf,z0h (by omega)]
  simp only[cK,Ce,Dm,Eg,Y7,V0,PQ,G4,iB,iC,g0,Dh,sq2,Ci,lm,g];rfl
 have g1:gtD (.int (ms.length:Int)) (.int 3)=some (.bl false):=by rw[Jf,z0d (by omega)]
 rw[if_neg z1]
 by_cases z2:ts.length > 3
 ·rw[if_pos z2];have g:gtD (.int (ts.length:Int)) (.int 3)=some (.bl true):=by rw[Jf,z0h (by omega)]
  simp only[cK,Ce,Dm,Eg,Y7,V0,PQ,G4,iB,iC,g0,Dh,sq2,Ci,lm,lt,g1,g];rfl
 have g2:gtD (.int (ts.length:Int)) (.int 3)=some (.bl false):=by rw[Jf,z0d (by omega)]
 rw[if_neg z2];have l0:forF (tgB (BW 3) Eg) [.dk (zM ms),.dk (zT ts)] [.fz (.int n),.fz (.dk (zM ms)),.fz (.dk (zT ts)),.un,.un,.un,.un]=some (.nx [.fz (.int n),.fz (.dk (zM ms)),.fz (.dk (zT ts)),.fz (.dk (zT ts)),.un,.un,.un]):=by
  simp only[cK,Eg,Ci,lm,lt,g1,g2]
 have s1:HR (some (.dk (zM ms)))=some (ms.map λ p=>D.str p.1):=by rw[Mr,T3]
 have s2:HR (some (.dk (zT ts)))=some (ts.map λ p=>D.str p.1):=by rw[Mr,T4]
 obtain⟨x4,x5,x6,l1⟩:=Gs (tg:=BW 4) (b:=Eh) (λ x y z=>[.fz (.int n),.fz (.dk (zM ms)),.fz (.dk (zT ts)),.fz (.dk (zT ts)),x,y,z]) (λ p:Str×List Int=>D.str p.1) (roM isw n) (λ d x y z=>rfl) ms .un .un .un λ p hp y z=>mV isw n nm _ _ hp (hM p hp) y z;cases hf:ms.findSome? (roM isw n) with
 | some f=>
  rw[hf] at l1;simp only[cK,Ce,Dm,g0,Dh,sq2,l0,s1,l1]
 | none=>
  rw[hf] at l1;obtain⟨w4,w5,w6,l2⟩:=Gs (tg:=BW 4) (b:=Dd) (λ x y z=>[.fz (.int n),.fz (.dk (zM ms)),.fz (.dk (zT ts)),.fz (.dk (zT ts)),x,y,z]) (λ p:Str×List (Int×Int)=>D.str p.1) (roT isw (ms.map (·.1)) n) (λ d x y z=>rfl) ts x4 x5 x6 λ p hp y z=>gD isw n nt _ hp (hT p hp).1 (hT p hp).2 y z;simp only[cK,Ce,Dm,g0,Dh,sq2,l0,s1,l1,s2,l2];cases ts.findSome? (roT isw (ms.map (·.1)) n)<;>rfl
def RG (a b:Int):D:=.err "TooGreat" [("most",.int b),("number",.int a)]
def RW (w:Str):D:=.err "NoWord" [("word",.str w)]
def RT (t:Int):D:=.err "NoThing" [("thing",.int t)]
def outF (o:D):Option Fl->D
 | none=>o
 | some (.great a b)=>RG a b
 | some (.word w)=>RW w
 | some (.thing t)=>RT t
theorem YQ (gs:List (Str×D)):CT [.ob "World" gs]=some (dueL none):=by kernel_rfl
theorem VG (a b:Int):CT [RG a b]=some (dueL (some (.great a b))):=by kernel_rfl
theorem YS (w:Str):CT [RW w]=some (dueL (some (.word w))):=by kernel_rfl
theorem VH (t:Int):CT [RT t]=some (dueL (some (.thing t))):=by kernel_rfl
theorem gF (gs:List (Str×D)) (f:Option Fl):CT [outF (.ob "World" gs) f]=some (dueL f):=by
 cases f with
 | none=>exact YQ gs
 | some f=>
  cases f with
  | great a b=>exact VG a b
  | word w=>exact YS w
  | thing t=>exact VH t
def Sm (t:Int):Prop:=t.natAbs.log2<1920
def ET (t:Int):D:=.exc "NoThing" [("thing",.int t)]
theorem pC {t:Int}(h:Sm t) (ρ:Rho) (f:FE) (e:f ρ=some (.int t)):excF "NoThing" "thing" okID f ρ=some (ET t):=by
 have o:okID (.int t)=true:=z0h h;unfold excF;rw[e];show (if okID (.int t)=true then some (ET t) else none)=_;rw[if_pos o]
def zT' (n t:Int):D:=match thF n t with | some _=>ET t | none=>.non
theorem M6 (n t:Int) (h:Sm t):Aj [.int n,.int t]=some (zT' n t):=by
 unfold zT' thF;have x:=pC h [.fz (.int n),.fz (.int t)] (vF 1) rfl
 by_cases z1:t<0
 ·rw[if_pos (.inl z1)];simp only[ciK,Aj,CQ,z1,x]
 ·by_cases z2:n<=t
  ·rw[if_pos (.inr z2)];simp only[ciK,Aj,CQ,NT,z1,z2,x]
  ·rw[if_neg (by omega)];simp only[ciK,Aj,CQ,NT,z1,z2]
def EW (w:Str):D:=.exc "NoWord" [("word",.str w)]
def EG (a b:Int):D:=.exc "TooGreat" [("most",.int b),("number",.int a)]
def raiD:Fl->D
 | .great a b=>EG a b
 | .word w=>EW w
 | .thing t=>ET t
def dzO (ρ:Rho) (o:Option D):Option Out:=o.map λ d=>match excOf d with | some _=>.rt d ρ | none=>.nx ρ
theorem De (f:FE) (ρ:Rho):Dg f ρ=dzO ρ (f ρ):=zE_ _
theorem Lh (ρ:Rho):dzO ρ (some .non)=some (.nx ρ):=zE_ _
theorem bI (ρ:Rho) (t:Int):dzO ρ (some (ET t))=some (.rt (ET t) ρ):=zE_ _
theorem Wz (k:Key) (d:D):∀ l:List (Key×D),(repK k d l).length=l.length
 | []=>rfl
 | q::l=>by
  have:=Wz k d l;unfold repK;rw[z0o,z0o,this]
theorem R1 (k:Key) (d:D) (l:List (Key×D)):(putL k d l).length<=l.length+1:=by
 unfold putL;split
 ·rw[Wz];omega
 ·rw[z0A];simp
def kD1 (k:List (Key×D)) (t:Int):List (Key×D):=putL (.inl t) (.bl true) k
theorem Om (n:Int) (x:PV.Slot):∀ (r:List Int) (k:List (Key×D)) (z:PV.Slot),(∀ t∈r,Sm t)->k.length+r.length<=1000->∃ k' z',(r.findSome? (thF n)=none->k'=r.foldl kD1 k)/\forF (tgB (BW 3) B_) (r.map .int) [.fz (.int n),x,.ow (.dk k),z] =
  some (match r.findSome? (thF n) with | some f=>.rt (raiD f) [.fz (.int n),x,.ow (.dk k'),z'] | none=>.nx [.fz (.int n),x,.ow (.dk k'),z'])
 | [],k,z,_,_=>⟨k,z,λ _=>rfl,rfl⟩
 | t::r,k,z,hs,hl=>by
  have tz:=M6 n t (hs t (by simp));rw[z04,Ci,e_tg,Gg,HQ,List.findSome?_cons];simp only[z1a,z1b];cases hf:thF n t with
  | some f=>
   have ef:f=.thing t:=by
    unfold thF at hf;split at hf
    ·exact (z0f hf).symm
    ·cases hf
   subst ef;unfold zT' at tz;rw[hf] at tz;refine⟨k,.fz (.int t),λ z=>(by cases z),?_⟩;have b:B_ [.fz (.int n),x,.ow (.dk k),.fz (.int t)]=some (.rt (ET t) [.fz (.int n),x,.ow (.dk k),.fz (.int t)]):=by
    simp only[cK,B_,De,tz,bI]
   rw[b];rfl
  | none=>
   unfold zT' at tz;rw[hf] at tz;have pk:=lD k t (.bl true) (by simp at hl;omega);have b:B_ [.fz (.int n),x,.ow (.dk k),.fz (.int t)]=some (.nx [.fz (.int n),x,.ow (.dk (putL (.inl t) (.bl true) k)),.fz (.int t)]):=by
    simp only[dK,B_,De,tz,Lh,pk]
   have lp:=R1 (.inl t) (.bl true) k;obtain⟨k',z',ek,ih⟩:=Om n x r (putL (.inl t) (.bl true) k) (.fz (.int t)) (λ u hu=>hs u (by simp[hu])) (by simp at hl;omega);refine⟨k',z',ek,?_⟩;rw[b,Ep,ih]
def kD (l:List Int):List (Key×D):=l.foldl kD1 []
theorem mX (n:Int) (l:List Int) (hs:∀ t∈l,Sm t) (hl:l.length<=900):Ca [.int n,.lst (l.map .int)]=some (match l.findSome? (thF n) with | some f=>raiD f | none=>.dk (kD l)):=by
 obtain⟨k,z,ek,e⟩:=Om n (.fz (.lst (l.map .int))) l [] .un hs (by simp;omega);cases hf:l.findSome? (thF n) with
 | some f=>
  rw[hf] at e;simp only[dK,Ca,Es,Dh,Er,e]
 | none=>
  rw[hf] at e;simp only[dK,Ca,Es,Dh,Er,e,ek hf,kD]
theorem W0 (k:List Key) (d:D):∀ l:List (List Key×D),(repK k d l).length=l.length
 | []=>rfl
 | q::l=>by
  have:=W0 k d l;unfold repK;rw[z0o,z0o,this]
theorem gG (k:List Key) (d:D) (l:List (List Key×D)):(putL k d l).length<=l.length+1:=by
 unfold putL;split
 ·rw[W0];omega
 ·rw[z0A];simp
theorem T6 {t:Int}{f:Fl}(hf:thF n t=some f):f=.thing t:=by
 unfold thF at hf;split at hf
 ·exact (z0f hf).symm
 ·cases hf
def kP1 (k:List (List Key×D)) (t:Int×Int):List (List Key×D):=putL [.inl t.1,.inl t.2] (.bl true) k
theorem Oo (n:Int) (x:PV.Slot):∀ (r:List (Int×Int)) (k:List (List Key×D)) (z y:PV.Slot),(∀ t∈r,Sm t.1/\Sm t.2)->k.length+r.length<=1000->∃ k' z' y',(r.findSome? (prF n)=none->k'=r.foldl kP1 k)/\forF (tgB (tupG 2 (Bq 3 (Bq 4 nilG))) Be) (r.map pI) [.fz (.int n),x,.ow (.dt k),z,y] =
  some (match r.findSome? (prF n) with | some f=>.rt (raiD f) [.fz (.int n),x,.ow (.dt k'),z',y'] | none=>.nx [.fz (.int n),x,.ow (.dt k'),z',y'])
 | [],k,z,y,_,_=>⟨k,z,y,λ _=>rfl,rfl⟩
 | t::r,k,z,y,hs,hl=>by
  have t1:=M6 n t.1 (hs t (by simp)).1;have t2:=M6 n t.2 (hs t (by simp)).2;unfold zT' at t1 t2;rw[z04,Ci,e_tg,Rg,HQ,List.findSome?_cons];simp only[z1a,z1b];unfold prF;cases hf:thF n t.1 with
  | some f=>
   rw[T6 hf];rw[hf] at t1;refine⟨k,.fz (.int t.1),.fz (.int t.2),λ z=>(by cases z),?_⟩;have b:Be [.fz (.int n),x,.ow (.dt k),.fz (.int t.1),.fz (.int t.2)]=some (.rt (ET t.1) [.fz (.int n),x,.ow (.dt k),.fz (.int t.1),.fz (.int t.2)]):=by
    simp only[cK,Be,De,t1,bI]
   rw[b];rfl
  | none=>
   rw[hf] at t1;cases hg:thF n t.2 with
   | some f=>
    rw[T6 hg];rw[hg] at t2;refine⟨k,.fz (.int t.1),.fz (.int t.2),λ z=>(by cases z),?_⟩;have b:Be [.fz (.int n),x,.ow (.dt k),.fz (.int t.1),.fz (.int t.2)]=some (.rt (ET t.2) [.fz (.int n),x,.ow (.dt k),.fz (.int t.1),.fz (.int t.2)]):=by
     simp only[cK,Be,De,t1,Lh,t2,bI]
    rw[b];rfl
   | none=>
    rw[hg] at t2;have pk:=lE k t.1 t.2 (.bl true) (by simp at hl;omega);have b:Be [.fz (.int n),x,.ow (.dt k),.fz (.int t.1),.fz (.int t.2)]=some (.nx [.fz (.int n),x,.ow (.dt (putL [.inl t.1,.inl t.2] (.bl true) k)),.fz (.int t.1),.fz (.int t.2)]):=by
     simp only[dK,Be,De,t1,t2,Lh,pk]
    have lp:=gG [.inl t.1,.inl t.2] (.bl true) k;obtain⟨k',z',y',ek,ih⟩:=Oo n x r (putL [.inl t.1,.inl t.2] (.bl true) k) (.fz (.int t.1)) (.fz (.int t.2)) (λ u hu=>hs u (by simp[hu])) (by simp at hl;omega);refine⟨k',z',y',ek,?_⟩;rw[b,Ep,ih];rfl
def kP (l:List (Int×Int)):List (List Key×D):=l.foldl kP1 []
theorem gH (n:Int) (l:List (Int×Int)) (hs:∀ t∈l,Sm t.1/\Sm t.2) (hl:l.length<=900):Cu [.int n,.lst (l.map pI)]=some (match l.findSome? (prF n) with | some f=>raiD f | none=>.dt (kP l)):=by
 obtain⟨k,z,y,ek,e⟩:=Oo n (.fz (.lst (l.map pI))) l [] .un .un hs (by simp;omega);cases hf:l.findSome? (prF n) with
 | some f=>
  rw[hf] at e;simp only[dK,Cu,FQ,Dh,Er,e]
 | none=>
  rw[hf] at e;simp only[dK,Cu,FQ,Dh,Er,e,ek hf,kP]
theorem R3 (i j:Int) (hi:Sm i) (hj:Sm j):An [.int i,.int j]=some (if j<i then EG i j else .non):=by
 by_cases c:j<i
 ·rw[if_pos c];have oi:okID (.int i)=true:=z0h hi;have oj:okID (.int j)=true:=z0h hj;have x:Wm "TooGreat" "number" "most" (Aa (vF 0) (Aa (vF 1) nilA)) [.fz (.int i),.fz (.int j)]=some (EG i j):=by
   show (if (okID (.int i)&&okID (.int j))=true then some (EG i j) else none)=_;rw[oi,oj];rfl
  simp only[ciK,An,Ea,c,x]
 ·rw[if_neg c];simp only[ciK,An,Ea,c]
abbrev ef (n:Int) (M T:List (Key×D)):Ef:=[("size",false,.int n),("marked",true,.dk M),("tied",true,.dk T)]
abbrev ra (n:Int) (x:Addr) (a b:D) (z4 z5 z6:PV.Slot):Rho:=[.fz (.adr x),.fz (.int n),.fz a,.fz b,z4,z5,z6]
theorem q1:(("marked":Str)=="size")=false:=by decide +kernel
theorem q2:(("tied":Str)=="size")=false:=by decide +kernel
theorem q3:(("tied":Str)=="marked")=false:=by decide +kernel
theorem n1:¬ (("size":Str)="marked"):=by decide +kernel
theorem n2:¬ (("size":Str)="tied"):=by decide +kernel
theorem n3:¬ (("marked":Str)="tied"):=by decide +kernel
theorem Bl (g gs:FEz) (ρ:Rho) (ε:Ef):seqZ g gs ρ ε=Hr (g ρ ε) gs:=zE_ _
theorem Bx (r:Rho×Ef) (gs:FEz):Hr (some (.inl r)) gs=gs r.1 r.2:=zE_ _
theorem Iw (q:D×Rho) (gs:FEz):Hr (some (.inr q)) gs=some (.inr q):=zE_ _
theorem Ko {g:FEs}{r:Rho×Ef}(h:g ρ ε=some r):N8 g ρ ε=some (.inl r):=by unfold N8;rw[h];rfl
theorem bJ {t:FTE}{g:FS}(h:t ρ ε=some false):ifEZ t g ρ ε=some (.inl (ρ,ε)):=by unfold ifEZ;rw[h]
theorem bK {t:FTE}{g:FS}{c:Str}(h:t ρ ε=some true) (hg:g ρ=some (.rt (.exc c gs) ρ')) (no:noOw ρ'=true):ifEZ t g ρ ε=some (.inr (.exc c gs,ρ')):=by
 unfold ifEZ;rw[h];show rtZ (g ρ)=_;rw[hg];show (if _ then _ else _)=_;rw[if_pos ⟨no,rfl⟩]
theorem lkM (n:Int) (d e:D):List.lookup ("marked":Str) [("size",false,.int n),("marked",true,d),("tied",true,e)]=some (true,d):=by
 rw[z09,q1];show List.lookup ("marked":Str) [("marked",true,d),("tied",true,e)]=_;rw[z09,show (("marked":Str)=="marked")=true by decide +kernel]
theorem rpM (n:Int) (d e d':D):repE "marked" d' ([("size",false,.int n),("marked",true,d),("tied",true,e)]:Ef)=([("size",false,.int n),("marked",true,d'),("tied",true,e)]:List (Str×Bool×D)):=by
 unfold repE repE;rw[if_neg n1,if_pos rfl]
def Pl (z:PV.Slot):Prop:=∀ d,z≠.ow d
theorem QH (n:Int) (x:Addr) (a b:D) {z4 z5 z6:PV.Slot}(h4:Pl z4) (h5:Pl z5) (h6:Pl z6):noOw (ra n x a b z4 z5 z6)=true:=by
 cases z4 with
 | ow d=>exact absurd rfl (h4 d)
 | _=>cases z5 with
  | ow d=>exact absurd rfl (h5 d)
  | _=>cases z6 with
   | ow d=>exact absurd rfl (h6 d)
   | _=>rfl
theorem El (d:D):Pl (.fz d):=λ _ h=>by cases h
theorem mY (isw:Str->Bool) (n:Int) (a b:D) (z6:PV.Slot) (h6:Pl z6) (w:Str) (l:List Int) (hw:BL [.str w]=some (.bl (isw w))) (ok:okSD (.str w)=true) (hs:∀ t∈l,Sm t) (hl:l.length<=900) (M T:List (Key×D)) (hM:M.length<=100) :
  ∀ x:Addr,Bt (ra n x a b (.fz (.str w)) (.fz (.lst (l.map .int))) z6) (ef n M T)=some (match roM isw n (w,l) with
   | some f=>.inr (raiD f,ra n x a b (.fz (.str w)) (.fz (.lst (l.map .int))) z6)
   | none=>.inl (ra n x a b (.fz (.str w)) (.fz (.lst (l.map .int))) z6,ef n (putL (.inr w) (.dk (kD l)) M) T)):=by
 have kz:=mX n l hs hl;intro x;unfold roM Bt;cases hi:isw w with
 | false=>
  rw[hi] at hw;have t0:Jl (notT (trF (Am (BL) (Aa (vF 4) (nilA))))) (ra n x a b (.fz (.str w)) (.fz (.lst (l.map .int))) z6) (ef n M T)=some true:=by
   have:notT (trF (Am (BL) (Aa (vF 4) (nilA)))) (ra n x a b (.fz (.str w)) (.fz (.lst (l.map .int))) z6)=some true:=by simp only[cK,hw]
   unfold Jl;exact this
  have g0:retF (excF "NoWord" "word" okSD (vF 4)) (ra n x a b (.fz (.str w)) (.fz (.lst (l.map .int))) z6)=some (.rt (EW w) (ra n x a b (.fz (.str w)) (.fz (.lst (l.map .int))) z6)):=by
   have:excF "NoWord" "word" okSD (vF 4) (ra n x a b (.fz (.str w)) (.fz (.lst (l.map .int))) z6)=some (EW w):=by
    show (if okSD (.str w)=true then some (EW w) else none)=_;rw[if_pos ok]
   simp only[cK,this]
  rw[Bl,bK t0 g0 (QH n x a b (El _) (El _) h6),Iw];rfl
 | true=>
  rw[hi] at hw;have t0:Jl (notT (trF (Am (BL) (Aa (vF 4) (nilA))))) (ra n x a b (.fz (.str w)) (.fz (.lst (l.map .int))) z6) (ef n M T)=some false:=by
   have:notT (trF (Am (BL) (Aa (vF 4) (nilA)))) (ra n x a b (.fz (.str w)) (.fz (.lst (l.map .int))) z6)=some false:=by simp only[cK,hw]
   unfold Jl;exact this
  rw[Bl,bJ t0,Bx];have v1:Am (Ca) (Aa (vF 1) (Aa (vF 5) (nilA))) (ra n x a b (.fz (.str w)) (.fz (.lst (l.map .int))) z6)=some (match l.findSome? (thF n) with | some f=>raiD f | none=>.dk (kD l)):=by
   (simp only[cK,kz])<;>rfl
  have v2:vF 4 (ra n x a b (.fz (.str w)) (.fz (.lst (l.map .int))) z6)=some (.str w):=rfl;rw[if_pos rfl];show K4 "marked" (vF 4) (Am (Ca) (Aa (vF 1) (Aa (vF 5) (nilA)))) _ _=_;unfold K4;rw[v1];cases hf:l.findSome? (thF n) with
  | some f=>
   cases f<;>rfl
  | none=>
   rw[hf] at v1;show (Pk "marked" (vF 4) _ _ _).map Sum.inl=_;unfold Pk;rw[v1,v2];show ((match List.lookup ("marked":Str) (ef n M T) with | some (true,d)=>(Df d (.str w) (.dk (kD l))).map λ d'=>(_,repE "marked" d' (ef n M T)) | _=>none):Option (Rho×Ef)).map Sum.inl=_;rw[lkM];show ((Df (.dk M) (.str w) (.dk (kD l))).map _:Option (Rho×Ef)).map Sum.inl=_;rw[JT _ _ _ (by omega)];show (some (_,repE "marked" _ (ef n M T)):Option (Rho×Ef)).map Sum.inl=_;rw[rpM];rfl
theorem lkT (n:Int) (d e:D):List.lookup ("tied":Str) [("size",false,.int n),("marked",true,d),("tied",true,e)]=some (true,e):=by
 rw[z09,q2];show List.lookup ("tied":Str) [("marked",true,d),("tied",true,e)]=_;rw[z09,q3];show List.lookup ("tied":Str) [("tied",true,e)]=_;rw[z09,show (("tied":Str)=="tied")=true by decide +kernel]
theorem rpT (n:Int) (d e e':D):repE "tied" e' ([("size",false,.int n),("marked",true,d),("tied",true,e)]:Ef)=([("size",false,.int n),("marked",true,d),("tied",true,e')]:List (Str×Bool×D)):=by
 unfold repE repE repE;rw[if_neg n2,if_neg n3,if_pos rfl]
theorem pD (isw:Str->Bool) (ks:List Str) (n:Int) (a b:D) (z5:PV.Slot) (h5:Pl z5) (w:Str) (l:List (Int×Int)) (hw:BL [.str w]=some (.bl (isw w))) (ok:okSD (.str w)=true) (hs:∀ t∈l,Sm t.1/\Sm t.2) (hl:l.length<=900) (M T:List (Key×D)) (hk:(getK (.inr w:Key) M).isSome=decide (w∈ks)) (hT:T.length<=100) :
  ∀ x:Addr,Bu (ra n x a b (.fz (.str w)) z5 (.fz (.lst (l.map pI)))) (ef n M T)=some (match roT isw ks n (w,l) with
   | some f=>.inr (raiD f,ra n x a b (.fz (.str w)) z5 (.fz (.lst (l.map pI))))
   | none=>.inl (ra n x a b (.fz (.str w)) z5 (.fz (.lst (l.map pI))),ef n M (putL (.inr w) (.dt (kP l)) T))):=by
 have kz:=gH n l hs hl;intro x;have v2:vF 4 (ra n x a b (.fz (.str w)) z5 (.fz (.lst (l.map pI))))=some (.str w):=rfl;have u2:inTE "marked" (vF 4) (ra n x a b (.fz (.str w)) z5 (.fz (.lst (l.map pI)))) (ef n M T)=some (decide (w∈ks)):=by
  unfold inTE;rw[v2];show (match List.lookup ("marked":Str) (ef n M T) with | some (true,.dk kds)=>(keyD (.str w)).map λ q=>(getK q kds).isSome | _=>none)=_;rw[lkM];show some ((getK (.inr w:Key) M).isSome)=_;rw[hk]
 have g0:retF (excF "NoWord" "word" okSD (vF 4)) (ra n x a b (.fz (.str w)) z5 (.fz (.lst (l.map pI))))=some (.rt (EW w) (ra n x a b (.fz (.str w)) z5 (.fz (.lst (l.map pI))))):=by
  have:excF "NoWord" "word" okSD (vF 4) (ra n x a b (.fz (.str w)) z5 (.fz (.lst (l.map pI))))=some (EW w):=by
   show (if okSD (.str w)=true then some (EW w) else none)=_;rw[if_pos ok]
  simp only[cK,this]
 have u1:notT (trF (Am (BL) (Aa (vF 4) (nilA)))) (ra n x a b (.fz (.str w)) z5 (.fz (.lst (l.map pI))))=some (!isw w):=by simp only[cK,hw]
 have t0:orTE (Jl (notT (trF (Am (BL) (Aa (vF 4) (nilA)))))) (inTE "marked" (vF 4)) (ra n x a b (.fz (.str w)) z5 (.fz (.lst (l.map pI)))) (ef n M T)=some (!isw w||decide (w∈ks)):=by
  unfold orTE Jl;rw[u1];cases isw w with
  | false=>rfl
  | true=>exact u2
 unfold roT Bu
 by_cases g:isw w=true/\w∉ks
 ·rw[if_pos g];rw[g.1,z0d g.2] at t0;rw[Bl,bJ t0,Bx];have v1:Am (Cu) (Aa (vF 1) (Aa (vF 6) (nilA))) (ra n x a b (.fz (.str w)) z5 (.fz (.lst (l.map pI))))=some (match l.findSome? (prF n) with | some f=>raiD f | none=>.dt (kP l)):=by
   (simp only[cK,kz])<;>rfl
  show K4 "tied" (vF 4) (Am (Cu) (Aa (vF 1) (Aa (vF 6) (nilA)))) _ _=_;unfold K4;rw[v1];cases hf:l.findSome? (prF n) with
  | some f=>
   cases f<;>rfl
  | none=>
   rw[hf] at v1;show (Pk "tied" (vF 4) _ _ _).map Sum.inl=_;unfold Pk;rw[v1,v2];show ((match List.lookup ("tied":Str) (ef n M T) with | some (true,d)=>(Df d (.str w) (.dt (kP l))).map λ d'=>(_,repE "tied" d' (ef n M T)) | _=>none):Option (Rho×Ef)).map Sum.inl=_;rw[lkT];show ((Df (.dk T) (.str w) (.dt (kP l))).map _:Option (Rho×Ef)).map Sum.inl=_;rw[JT _ _ _ (by omega)];show (some (_,repE "tied" _ (ef n M T)):Option (Rho×Ef)).map Sum.inl=_;rw[rpT];rfl
 ·rw[if_neg g];have tt:(!isw w||decide (w∈ks))=true:=by
   cases hi:isw w with
   | false=>rfl
   | true=>
    have:w∈ks:=Classical.byContradiction λ z=>g ⟨hi,z⟩;simp[this]
  rw[tt] at t0;rw[Bl,bK t0 g0 (QH n x a b (El _) h5 (El _)),Iw];rfl
theorem W2 (d e:D) (n:Int) (x:Addr) (a b:D) (z4 z5 z6:PV.Slot):tupG 2 (Bq 4 (Bq 5 nilG)) (.tup [d,e]) (ra n x a b z4 z5 z6)=some (ra n x a b (.fz d) (.fz e) z6):=rfl
theorem W3 (d e:D) (n:Int) (x:Addr) (a b:D) (z4 z5 z6:PV.Slot):tupG 2 (Bq 4 (Bq 6 nilG)) (.tup [d,e]) (ra n x a b z4 z5 z6)=some (ra n x a b (.fz d) z5 (.fz e)):=rfl
theorem Iz {tg:FG}{b:FEz}{d:D}{r:List D}(ht:tg d ρ=some ρ') (no:noOw ρ'=true):GZ tg b (d::r) ρ ε=Hr (b ρ' ε) (GZ tg b r):=by
 show (tg d ρ).bind (λ ρ'=>if noOw ρ'=true then Hr (b ρ' ε) (GZ tg b r) else none)=_;rw[ht];show (if noOw ρ'=true then Hr (b ρ' ε) (GZ tg b r) else none)=_;rw[if_pos no]
structure RowM (isw:Str->Bool) (p:Str×List Int):Prop where
 w:BL [.str p.1]=some (.bl (isw p.1))
 ok:okSD (.str p.1)=true
 sm:∀ t∈p.2,Sm t
 ln:p.2.length<=900
structure RowT (isw:Str->Bool) (p:Str×List (Int×Int)):Prop where
 w:BL [.str p.1]=some (.bl (isw p.1))
 ok:okSD (.str p.1)=true
 sm:∀ t∈p.2,Sm t.1/\Sm t.2
 ln:p.2.length<=900
def gM1 (M:List (Key×D)) (p:Str×List Int):List (Key×D):=putL (.inr p.1) (.dk (kD p.2)) M
def gT1 (M:List (Key×D)) (p:Str×List (Int×Int)):List (Key×D):=putL (.inr p.1) (.dt (kP p.2)) M
theorem W4 (isw:Str->Bool) (n:Int) (a b:D) (z6:PV.Slot) (h6:Pl z6) (T:List (Key×D)):∀ (r:List (Str×List Int)) (M:List (Key×D)) (z4 z5:PV.Slot),Pl z4->Pl z5->(∀ p∈r,RowM isw p)->M.length+r.length<=50 ->
  ∃ z4' z5',Pl z4'/\Pl z5'/\∀ x:Addr,GZ (tupG 2 (Bq 4 (Bq 5 nilG))) Bt (r.map λ p=>.tup [.str p.1,.lst (p.2.map .int)]) (ra n x a b z4 z5 z6) (ef n M T) =
   some (match r.findSome? (roM isw n) with | some f=>.inr (raiD f,ra n x a b z4' z5' z6) | none=>.inl (ra n x a b z4' z5' z6,ef n (r.foldl gM1 M) T))
 | [],M,z4,z5,p4,p5,_,_=>⟨z4,z5,p4,p5,λ x=>rfl⟩
 | p::r,M,z4,z5,p4,p5,hr,hl=>by
  have h:=hr p (by simp);have st:=mY isw n a b z6 h6 p.1 p.2 h.w h.ok h.sm h.ln M T (by simp at hl;omega);rw[List.findSome?_cons];cases hf:roM isw n p with
  | some f=>
   have hf':roM isw n (p.1,p.2)=some f:=hf;simp only[hf'] at st;refine⟨.fz (.str p.1),.fz (.lst (p.2.map .int)),El _,El _,?_⟩;intro x;rw[z04,Iz (W2 _ _ n x a b z4 z5 z6) (QH n x a b (El _) (El _) h6),st];rfl
  | none=>
   have hf':roM isw n (p.1,p.2)=none:=hf;simp only[hf'] at st;have lp:=R1 (.inr p.1) (.dk (kD p.2)) M;obtain⟨z4',z5',q4,q5,ih⟩:=W4 isw n a b z6 h6 T r (gM1 M p) (.fz (.str p.1)) (.fz (.lst (p.2.map .int))) (El _) (El _) (λ q hq=>hr q (by simp[hq])) (by simp only[gM1];simp at hl ⊢;omega);refine⟨z4',z5',q4,q5,?_⟩;intro x;rw[z04,Iz (W2 _ _ n x a b z4 z5 z6) (QH n x a b (El _) (El _) h6),st];exact ih x
theorem W5 (isw:Str->Bool) (ks:List Str) (n:Int) (a b:D) (z5:PV.Slot) (h5:Pl z5) (M:List (Key×D)) (hM:∀ w:Str,(getK (.inr w:Key) M).isSome=decide (w∈ks)):∀ (r:List (Str×List (Int×Int))) (T:List (Key×D)) (z4 z6:PV.Slot),Pl z4->Pl z6->(∀ p∈r,RowT isw p)->T.length+r.length<=50 ->
  ∃ z4' z6',∀ x:Addr,GZ (tupG 2 (Bq 4 (Bq 6 nilG))) Bu (r.map λ p=>.tup [.str p.1,.lst (p.2.map pI)]) (ra n x a b z4 z5 z6) (ef n M T) =
   some (match r.findSome? (roT isw ks n) with | some f=>.inr (raiD f,ra n x a b z4' z5 z6') | none=>.inl (ra n x a b z4' z5 z6',ef n M (r.foldl gT1 T)))
 | [],T,z4,z6,p4,p6,_,_=>⟨z4,z6,λ x=>rfl⟩
 | p::r,T,z4,z6,p4,p6,hr,hl=>by
  have h:=hr p (by simp);have st:=pD isw ks n a b z5 h5 p.1 p.2 h.w h.ok h.sm h.ln M T (hM p.1) (by simp at hl;omega);rw[List.findSome?_cons];cases hf:roT isw ks n p with
  | some f=>
   have hf':roT isw ks n (p.1,p.2)=some f:=hf;simp only[hf'] at st;refine⟨.fz (.str p.1),.fz (.lst (p.2.map pI)),λ x=>?_⟩;rw[z04,Iz (W3 _ _ n x a b z4 z5 z6) (QH n x a b (El _) h5 (El _)),st];rfl
  | none=>
   have hf':roT isw ks n (p.1,p.2)=none:=hf;simp only[hf'] at st;have lp:=R1 (.inr p.1) (.dt (kP p.2)) T;obtain⟨z4',z6',ih⟩:=W5 isw ks n a b z5 h5 M hM r (gT1 T p) (.fz (.str p.1)) (.fz (.lst (p.2.map pI))) (El _) (El _) (λ q hq=>hr q (by simp[hq])) (by simp only[gT1];simp at hl ⊢;omega);refine⟨z4',z6',λ x=>?_⟩;rw[z04,Iz (W3 _ _ n x a b z4 z5 z6) (QH n x a b (El _) h5 (El _)),st];exact ih x
def gM (ms:List (Str×List Int)):List (Key×D):=ms.foldl gM1 []
def gT (ts:List (Str×List (Int×Int))):List (Key×D):=ts.foldl gT1 []
theorem mk_l {c:Str}{g:Addr->List D->Option (Sum Ef D)}{fs:FA}(hf:fs ρ=some ds) (h:∀ y,g y ds=some (.inl ε)):mkIZ c g fs ρ=some (finE c ε):=by
 unfold mkIZ;rw[hf];simp only[z0a,h];rw[if_pos h]
theorem mk_r {c:Str}{g:Addr->List D->Option (Sum Ef D)}{fs:FA}{c':Str}(hf:fs ρ=some ds) (h:∀ y,g y ds=some (.inr (.exc c' gs))):mkIZ c g fs ρ=some (.exc c' gs):=by
 unfold mkIZ;rw[hf];simp only[z0a,h];rw[if_pos h];rfl
theorem it_M (ms:List (Str×List Int)):((zM ms).map λ p=>D.tup [kDt p.1,p.2])=ms.map λ q=>.tup [.str q.1,.lst (q.2.map .int)]:=by simp only[zM,z0i,Function.comp_def,K1]
theorem it_T (ts:List (Str×List (Int×Int))):((zT ts).map λ p=>D.tup [kDt p.1,p.2])=ts.map λ q=>.tup [.str q.1,.lst (q.2.map pI)]:=by simp only[zT,z0i,Function.comp_def,K1]
theorem W6:Pl .un:=λ _ h=>by cases h
theorem pz_n {g:FS}(h:g ρ=some (.nx ρ)) (no:noOw ρ=true):HS g ρ ε=some (.inl (ρ,ε)):=by
 unfold HS;rw[h];show (if noOw ρ=true then some (Sum.inl (ρ,ε)) else none)=_;rw[if_pos no]
theorem pz_g {g:FS}{a b:Int}(h:g ρ=some (.rt (EG a b) ρ)) (no:noOw ρ=true):HS g ρ ε=some (.inr (EG a b,ρ)):=by
 unfold HS;rw[h];show rtZ (some (.rt (EG a b) ρ))=_;unfold rtZ;simp[no,EG,excOf]
theorem bL (ρ:Rho) (a b:Int):dzO ρ (some (EG a b))=some (.rt (EG a b) ρ):=zE_ _
abbrev ea (n:Int):Ef:=[("size",false,.int n)]
abbrev eb (n:Int):Ef:=[("size",false,.int n),("marked",true,.dk [])]
theorem Ib {k:Nat}(h:k<=1000):Sm (k:Int):=by
 unfold Sm;rw[Int.natAbs_natCast];exact z18 (Nat.log2_le_self k) (by omega)
theorem T7 {κ:Type} [DecidableEq κ] (k:κ) (v:D) (k':κ):∀ l:List (κ×D),getK k' (repK k v l)=if k'=k then (getK k l).map (λ _=>v) else getK k' l
 | []=>by simp[repK,getK]
 | q::l=>by
  have ih:=T7 k v k' l;obtain⟨a,b⟩:=q
  by_cases c:a=k
  ·subst c
   by_cases e:k'=a
   ·subst e;simp[repK,getK]
   ·have e':¬ a=k':=λ z=>e z.symm;simp only[if_neg e] at ih;simp[repK,getK,e,e',ih]
  ·by_cases e:k'=k
   ·subst e;simp only[if_pos] at ih;simp[repK,getK,c,ih]
   ·simp only[if_neg e] at ih;simp[repK,getK,c,e,ih]
theorem T8 {κ:Type} [DecidableEq κ] (k:κ) (v:D) (k':κ):∀ l:List (κ×D),getK k' (l++[(k,v)])=match getK k' l with | some d=>some d | none=>if k=k' then some v else none
 | []=>by simp[getK]
 | q::l=>by
  have ih:=T8 k v k' l
  by_cases e:q.1=k'
  ·simp[getK,e]
  ·simp[getK,e,ih]
theorem F_ {κ:Type} [DecidableEq κ] (k:κ) (v:D) (k':κ) (l:List (κ×D)):getK k' (putL k v l)=if k'=k then some v else getK k' l:=by
 unfold putL;split
 ·next h=>
  rw[T7];obtain⟨d,hd⟩:=Option.isSome_iff_exists.mp h;simp[hd]
 ·next h=>
  rw[T8]
  by_cases e:k'=k
  ·subst e;have:getK k' l=none:=by simpa using h
   simp[this]
  ·have e':¬ k=k':=λ z=>e z.symm;simp only[if_neg e,if_neg e'];cases getK k' l<;>rfl
theorem jC (t:Int):∀ (l:List Int) (k:List (Key×D)),(getK (.inl t:Key) (l.foldl kD1 k)).isSome=((getK (.inl t:Key) k).isSome||decide (t∈l))
 | [],k=>by simp
 | u::l,k=>by
  rw[z1c,jC t l,kD1,F_]
  by_cases e:t=u
  ·subst e;simp
  ·have:¬ (.inl t:Key)=.inl u:=λ z=>e (Sum.inl.inj z);simp[this,e]
theorem jD (t u:Int):∀ (l:List (Int×Int)) (k:List (List Key×D)),(getK ([.inl t,.inl u]:List Key) (l.foldl kP1 k)).isSome=((getK ([.inl t,.inl u]:List Key) k).isSome||decide ((t,u)∈l))
 | [],k=>by simp
 | q::l,k=>by
  rw[z1c,jD t u l,kP1,F_]
  by_cases e:(t,u)=q
  ·subst e;simp
  ·have:¬ ([.inl t,.inl u]:List Key)=[.inl q.1,.inl q.2]:=λ z=>e (by injection z with a b;injection b with b c;rw[Sum.inl.inj a,Sum.inl.inj b]);simp[this,e]
theorem jE (w:Str):∀ (l:List (Str×List Int)) (k:List (Key×D)),(getK (.inr w:Key) (l.foldl gM1 k)).isSome=((getK (.inr w:Key) k).isSome||decide (w∈l.map (·.1)))
 | [],k=>by simp
 | u::l,k=>by
  rw[z1c,jE w l,gM1,F_]
  by_cases e:w=u.1
  ·subst e;simp[z04]
  ·have:¬ (.inr w:Key)=.inr u.1:=λ z=>e (Sum.inr.inj z);have q:decide (w∈(u::l).map (·.1))=decide (w∈l.map (·.1)):=by
    rw[z04];simp[e]
   rw[if_neg this,q]
theorem jF (w:Str):∀ (l:List (Str×List Int)) (k:List (Key×D)),w∉l.map (·.1)->getK (.inr w:Key) (l.foldl gM1 k)=getK (.inr w:Key) k
 | [],k,_=>rfl
 | u::l,k,h=>by
  rw[z1c,jF w l _ (λ z=>h (by simp[z])),gM1,F_,if_neg];exact λ z=>h (by rw[Sum.inr.inj z];simp)
theorem jG {p:Str×List Int}:∀ (l:List (Str×List Int)) (k:List (Key×D)),(l.map (·.1)).Nodup->p∈l->getK (.inr p.1:Key) (l.foldl gM1 k)=some (.dk (kD p.2))
 | [],k,_,h=>by cases h
 | u::l,k,nd,h=>by
  rw[z04,z0O] at nd;rw[z1c];cases h with
  | head=>
   rw[jF _ _ _ nd.1,gM1,F_,if_pos rfl]
  | tail _ h=>exact jG l _ nd.2 h
theorem jH (w:Str):∀ (l:List (Str×List (Int×Int))) (k:List (Key×D)),w∉l.map (·.1)->getK (.inr w:Key) (l.foldl gT1 k)=getK (.inr w:Key) k
 | [],k,_=>rfl
 | u::l,k,h=>by
  rw[z1c,jH w l _ (λ z=>h (by simp[z])),gT1,F_,if_neg];exact λ z=>h (by rw[Sum.inr.inj z];simp)
theorem jJ {p:Str×List (Int×Int)}:∀ (l:List (Str×List (Int×Int))) (k:List (Key×D)),(l.map (·.1)).Nodup->p∈l->getK (.inr p.1:Key) (l.foldl gT1 k)=some (.dt (kP p.2))
 | [],k,_,h=>by cases h
 | u::l,k,nd,h=>by
  rw[z04,z0O] at nd;rw[z1c];cases h with
  | head=>
   rw[jH _ _ _ nd.1,gT1,F_,if_pos rfl]
  | tail _ h=>exact jJ l _ nd.2 h
theorem mZ (isw:Str->Bool) (n:Int) (hn:Sm n) (ms:List (Str×List Int)) (ts:List (Str×List (Int×Int))) (hM:∀ p∈ms,RowM isw p) (hT:∀ p∈ts,RowT isw p) (lm:ms.length<=20) (lt:ts.length<=20) :
  ∀ x:Addr,A_ x [.int n,.dk (zM ms),.dk (zT ts)]=some (match flt isw n ms ts with | some f=>.inr (raiD f) | none=>.inl (ef n (gM ms) (gT ts))):=by
 have r1:=R3 n 5 hn (Ib (k:=5) (by decide));have r2:=R3 (ms.length:Int) 3 (Ib (by omega)) (Ib (k:=3) (by decide));have r3:=R3 (ts.length:Int) 3 (Ib (by omega)) (Ib (k:=3) (by decide));have lM:lenE (.dk (zM ms))=some (.int (ms.length:Int)):=by simp[lenE,zM]
 have lT:lenE (.dk (zT ts))=some (.int (ts.length:Int)):=by simp[lenE,zT]
 have no:∀ x,noOw (ra n x (.dk (zM ms)) (.dk (zT ts)) .un .un .un)=true:=λ x=>rfl;have st:∀ x,Ra 7 x [.int n,.dk (zM ms),.dk (zT ts)]=(ra n x (.dk (zM ms)) (.dk (zT ts)) .un .un .un):=λ x=>rfl;unfold flt
 by_cases z0:n > 5
 ·rw[if_pos z0];rw[if_pos (show (5:Int)<n from z0)] at r1;intro x;have p1:=pz_g (a:=n) (b:=5) (g:=Dg (Am (An) (Aa (vF 1) (Aa (kF (.int 5)) (nilA))))) (ρ:=(ra n x (.dk (zM ms)) (.dk (zT ts)) .un .un .un)) (ε:=[]) (by simp only[cK,De,r1,bL]) (no x);unfold A_ Jr;rw[if_pos (show [D.int n,.dk (zM ms),.dk (zT ts)].length+1=4 from rfl),st];unfold Bb;rw[Bl,p1,Iw];rfl
 rw[if_neg z0];rw[if_neg (show ¬ (5:Int)<n from z0)] at r1;have p1:∀ x,HS (Dg (Am (An) (Aa (vF 1) (Aa (kF (.int 5)) (nilA))))) (ra n x (.dk (zM ms)) (.dk (zT ts)) .un .un .un) []=some (.inl (ra n x (.dk (zM ms)) (.dk (zT ts)) .un .un .un,[])):=λ x=>pz_n (by simp only[cK,De,r1,Lh]) (no x)
 by_cases z1:ms.length > 3
 ·rw[if_pos z1];rw[if_pos (show (3:Int)<(ms.length:Int) by omega)] at r2;intro x;have p2:=pz_g (a:=ms.length) (b:=3) (g:=Dg (Am (An) (Aa (uF lenE (vF 2)) (Aa (kF (.int 3)) (nilA))))) (ρ:=(ra n x (.dk (zM ms)) (.dk (zT ts)) .un .un .un)) (ε:=[]) (by simp only[cK,De,lM,r2,bL]) (no x);unfold A_ Jr;rw[if_pos (show [D.int n,.dk (zM ms),.dk (zT ts)].length+1=4 from rfl),st];unfold Bb;rw[Bl,p1,Bx,Bl,p2,Iw];rfl
 rw[if_neg z1];rw[if_neg (show ¬ (3:Int)<(ms.length:Int) by omega)] at r2;have p2:∀ x,HS (Dg (Am (An) (Aa (uF lenE (vF 2)) (Aa (kF (.int 3)) (nilA))))) (ra n x (.dk (zM ms)) (.dk (zT ts)) .un .un .un) []=some (.inl (ra n x (.dk (zM ms)) (.dk (zT ts)) .un .un .un,[])):=λ x=>pz_n (by simp only[cK,De,lM,r2,Lh]) (no x)
 by_cases z2:ts.length > 3
 ·rw[if_pos z2];rw[if_pos (show (3:Int)<(ts.length:Int) by omega)] at r3;intro x;have p3:=pz_g (a:=ts.length) (b:=3) (g:=Dg (Am (An) (Aa (uF lenE (vF 3)) (Aa (kF (.int 3)) (nilA))))) (ρ:=(ra n x (.dk (zM ms)) (.dk (zT ts)) .un .un .un)) (ε:=[]) (by simp only[cK,De,lT,r3,bL]) (no x);unfold A_ Jr;rw[if_pos (show [D.int n,.dk (zM ms),.dk (zT ts)].length+1=4 from rfl),st];unfold Bb;rw[Bl,p1,Bx,Bl,p2,Bx,Bl,p3,Iw];rfl
 rw[if_neg z2];rw[if_neg (show ¬ (3:Int)<(ts.length:Int) by omega)] at r3;have p3:∀ x,HS (Dg (Am (An) (Aa (uF lenE (vF 3)) (Aa (kF (.int 3)) (nilA))))) (ra n x (.dk (zM ms)) (.dk (zT ts)) .un .un .un) []=some (.inl (ra n x (.dk (zM ms)) (.dk (zT ts)) .un .un .un,[])):=λ x=>pz_n (by simp only[cK,De,lT,r3,Lh]) (no x);have s1:∀ x,WM "size" (vF 1) (ra n x (.dk (zM ms)) (.dk (zT ts)) .un .un .un) []=some (ra n x (.dk (zM ms)) (.dk (zT ts)) .un .un .un,(ea n)):=λ x=>rfl;have s2:∀ x,Kz "marked" (kF (.dk [])) (ra n x (.dk (zM ms)) (.dk (zT ts)) .un .un .un) (ea n)=some (ra n x (.dk (zM ms)) (.dk (zT ts)) .un .un .un,(eb n)):=λ x=>by
  have l:List.lookup ("marked":Str) (ea n)=none:=by
   rw[z09,q1];rfl
  unfold Kz;show (if (List.lookup ("marked":Str) (ea n)).isNone=true/\1<1000 then some (_,(ea n)++[(("marked":Str),true,D.dk [])]) else none)=_;rw[l,if_pos ⟨rfl,(by decide)⟩];rfl
 have s3:∀ x,Kz "tied" (kF (.dk [])) (ra n x (.dk (zM ms)) (.dk (zT ts)) .un .un .un) (eb n)=some (ra n x (.dk (zM ms)) (.dk (zT ts)) .un .un .un,ef n [] []):=λ x=>by
  have l:List.lookup ("tied":Str) (eb n)=none:=by
   rw[z09,q2];show List.lookup ("tied":Str) ([("marked",true,.dk [])]:List (Str×Bool×D))=none;rw[z09,q3];rfl
  unfold Kz;show (if (List.lookup ("tied":Str) (eb n)).isNone=true/\2<1000 then some (_,(eb n)++[(("tied":Str),true,D.dk [])]) else none)=_;rw[l,if_pos ⟨rfl,(by decide)⟩];rfl
 obtain⟨z4,z5,q4,q5,lo⟩:=W4 isw n (.dk (zM ms)) (.dk (zT ts)) .un W6 [] ms [] .un .un W6 W6 hM (by simp;omega);have fa:∀ x,forZ (JQ (vF 2)) (tupG 2 (Bq 4 (Bq 5 nilG))) Bt (ra n x (.dk (zM ms)) (.dk (zT ts)) .un .un .un) (ef n [] [])=some (match ms.findSome? (roM isw n) with | some f=>.inr (raiD f,ra n x (.dk (zM ms)) (.dk (zT ts)) z4 z5 .un) | none=>.inl (ra n x (.dk (zM ms)) (.dk (zT ts)) z4 z5 .un,ef n (gM ms) [])):=λ x=>by
  show GZ _ _ ((zM ms).map λ p=>D.tup [kDt p.1,p.2]) _ _=_;rw[it_M];exact lo x
 cases hf:ms.findSome? (roM isw n) with
 | some f=>
  intro x;have fa:=fa x;rw[hf] at fa;unfold A_ Jr;rw[if_pos (show [D.int n,.dk (zM ms),.dk (zT ts)].length+1=4 from rfl),st];unfold Bb;rw[Bl,p1,Bx,Bl,p2,Bx,Bl,p3,Bx,Bl,Ko (s1 x),Bx,Bl,Ko (s2 x),Bx,Bl,Ko (s3 x),Bx,Bl,fa,Iw];rfl
 | none=>
  have gk:∀ w:Str,(getK (.inr w:Key) (gM ms)).isSome=decide (w∈ms.map (·.1)):=λ w=>by rw[gM,jE];simp[getK]
  obtain⟨w4,w6,lo2⟩:=W5 isw (ms.map (·.1)) n (.dk (zM ms)) (.dk (zT ts)) z5 q5 (gM ms) gk ts [] z4 .un q4 W6 hT (by simp;omega);intro x;have fa:=fa x;rw[hf] at fa;have fb:forZ (JQ (vF 3)) (tupG 2 (Bq 4 (Bq 6 nilG))) Bu (ra n x (.dk (zM ms)) (.dk (zT ts)) z4 z5 .un) (ef n (gM ms) [])=some (match ts.findSome? (roT isw (ms.map (·.1)) n) with | some f=>.inr (raiD f,ra n x (.dk (zM ms)) (.dk (zT ts)) w4 z5 w6) | none=>.inl (ra n x (.dk (zM ms)) (.dk (zT ts)) w4 z5 w6,ef n (gM ms) (gT ts))):=by
   show GZ _ _ ((zT ts).map λ p=>D.tup [kDt p.1,p.2]) _ _=_;rw[it_T];exact lo2 x
  unfold A_ Jr;rw[if_pos (show [D.int n,.dk (zM ms),.dk (zT ts)].length+1=4 from rfl),st];unfold Bb;rw[Bl,p1,Bx,Bl,p2,Bx,Bl,p3,Bx,Bl,Ko (s1 x),Bx,Bl,Ko (s2 x),Bx,Bl,Ko (s3 x),Bx,Bl,fa,Bx,Bl,fb];cases ts.findSome? (roT isw (ms.map (·.1)) n) with
  | some f=>rfl
  | none=>rfl
def wo (n:Int) (ms:List (Str×List Int)) (ts:List (Str×List (Int×Int))):List (Str×D):=[("size",.int n),("marked",.dk (gM ms)),("tied",.dk (gT ts))]
def szO (i:Nat) (ρ:Rho) (o:Option D):Option Out:=o.map λ d=>match excOf d with | some _=>.rt d ρ | none=>.nx (ρ.set i (.fz d))
theorem R4 (i:Nat) (f:FE) (ρ:Rho):setZ i f ρ=szO i ρ (f ρ):=zE_ _
theorem pF (i:Nat) (ρ:Rho) (c:Str) (gs:List (Str×D)):szO i ρ (some (.ob c gs))=some (.nx (ρ.set i (.fz (.ob c gs)))):=zE_ _
theorem bM (i:Nat) (ρ:Rho) (c:Str) (gs:List (Str×D)):szO i ρ (some (.exc c gs))=some (.rt (.exc c gs) ρ):=zE_ _
theorem R5 (cs:List Str) (i:Nat) (g h:FS) (ρ:Rho):tryF cs i g h ρ=tryO cs i h (g ρ):=zE_ _
theorem mj (cs:List Str) (i:Nat) (h:FS) (ρ:Rho):tryO cs i h (some (.nx ρ))=some (.nx ρ):=zE_ _
theorem VJ {cs:List Str}{h:FS}{c:Str}(hc:cs.contains c=true):tryO cs i h (some (.rt (.exc c gs) ρ))=offO i (h (ρ.set i (.fz (.err c gs)))):=by
 show (if cs.contains c=true then _ else _)=_;rw[if_pos hc]
theorem VL (i:Nat) (ρ:Rho):offO i (some (.nx ρ))=some (.nx (ρ.set i .un)):=zE_ _
theorem cs_t:cs_.contains ("NoThing":Str)=true:=by decide +kernel
theorem cs_w:cs_.contains ("NoWord":Str)=true:=by decide +kernel
theorem cs_g:cs_.contains ("TooGreat":Str)=true:=by decide +kernel
theorem W7 (isw:Str->Bool) (n:Int) (hn:Sm n) (ms:List (Str×List Int)) (ts:List (Str×List (Int×Int))) (hM:∀ p∈ms,RowM isw p) (hT:∀ p∈ts,RowT isw p) (lm:ms.length<=20) (lt:ts.length<=20) :
  Bf [.int n,.dk (zM ms),.dk (zT ts)]=some (outF (.ob "World" (wo n ms ts)) (flt isw n ms ts)):=by
 have ini:=mZ isw n hn ms ts hM hT lm lt;have fa:(Aa (vF 0) (Aa (vF 1) (Aa (vF 2) (nilA)))) [.fz (.int n),.fz (.dk (zM ms)),.fz (.dk (zT ts)),.fz .non,.un]=some [.int n,.dk (zM ms),.dk (zT ts)]:=rfl;cases hf:flt isw n ms ts with
 | none=>
  rw[hf] at ini;have mk:=mk_l (c:="World") fa ini;have mk:mkIZ "World" A_ (Aa (vF 0) (Aa (vF 1) (Aa (vF 2) (nilA)))) [.fz (.int n),.fz (.dk (zM ms)),.fz (.dk (zT ts)),.fz .non,.un]=some (.ob "World" (wo n ms ts)):=mk;simp only[cK,Bf,Dq,R5,R4,mk,pF,mj];rfl
 | some f=>
  rw[hf] at ini;cases f with
  | thing t=>
   have mk:=mk_r (c:="World") (c':="NoThing") (gs:=[("thing",.int t)]) fa ini;simp only[cK,Bf,Dq,R5,R4,mk,bM,VJ cs_t,VL];rfl
  | word w=>
   have mk:=mk_r (c:="World") (c':="NoWord") (gs:=[("word",.str w)]) fa ini;simp only[cK,Bf,Dq,R5,R4,mk,bM,VJ cs_w,VL];rfl
  | great i j=>
   have mk:=mk_r (c:="World") (c':="TooGreat") (gs:=[("most",.int j),("number",.int i)]) fa ini;simp only[cK,Bf,Dq,R5,R4,mk,bM,VJ cs_g,VL];rfl
structure Q (α:Type) where
 w:Str
 a:Addr
 l:List α
def kQ {α:Type}(qs:List (Q α)):List (Key×D):=qs.map λ q=>((.inr q.w:Key),.adr q.a)
def rQ {α:Type}(e:α->D) (l:List α):D:=.lst (l.map e)
theorem R6 (p:Addr) (c:D) (μ:Mu):List.lookup p ((p,c)::μ)=some c:=by rw[z09];simp
theorem Ew {x:Addr}(c:D) (μ:Mu) (h:x≠p):List.lookup x ((p,c)::μ)=μ.lookup x:=by
 rw[z09,z0p.mpr h]
theorem Gu (a:Addr) (c:D):∀ (μ:Mu) (b:Addr),(putA a c μ).lookup b=if b=a then (μ.lookup b).map λ _=>c else μ.lookup b
 | [],b=>by simp[putA]
 | (x,e)::r,b=>by
  have ih:=Gu a c r b;unfold putA at ih ⊢;rw[z04]
  by_cases hx:x=a
  ·subst hx;rw[if_pos rfl,z09,z09,ih]
   by_cases hb:b=x
   ·subst hb;simp
   ·have:(b==x)=false:=z0p.mpr hb;simp[this,hb]
  ·rw[if_neg hx,z09,z09,ih]
   by_cases hb:b=x
   ·subst hb;simp[hx]
   ·have:(b==x)=false:=z0p.mpr hb;simp[this]
theorem Cj:∀ {μ:Mu}{a:Addr}{c:D},μ.lookup a=some c->a∈ksM μ
 | (b,d)::r,a,c,h=>by
  by_cases e:a=b
  ·subst e;simp[ksM]
  ·rw[Ew _ _ e] at h;have:=Cj h;simp only[ksM,z04,z06] at this ⊢;exact Or.inr this
structure Dc {α:Type}(e:α->D) (μ:Mu) (a:Addr) (qs:List (Q α)):Prop where
 at_:μ.lookup a=some (.dk (kQ qs))
 row:∀ q∈qs,μ.lookup q.a=some (rQ e q.l)
theorem Dc.frame {α:Type}{e:α->D}{μ μ':Mu}{qs:List (Q α)}(h:Dc e μ a qs) (h0:μ'.lookup a=μ.lookup a) (h1:∀ q∈qs,μ'.lookup q.a=μ.lookup q.a):Dc e μ' a qs:=⟨by rw[h0];exact h.at_,λ q hq=>by rw[h1 q hq];exact h.row q hq⟩
structure Sx {α β:Type}(e:α->D) (f:β->D) (μ:Mu) (a b:Addr) (qs:List (Q α)) (us:List (Q β)):Prop where
 A:Dc e μ a qs
 B:Dc f μ b us
 ab:a≠b
 aq:∀ q∈qs,q.a≠a
 au:∀ u∈us,u.a≠a
 bq:∀ q∈qs,q.a≠b
 bu:∀ u∈us,u.a≠b
 qu:∀ q∈qs,∀ u∈us,q.a≠u.a
theorem Sx.swap {α β:Type}{e:α->D}{f:β->D}{μ:Mu}{qs:List (Q α)}{us:List (Q β)}(h:Sx e f μ a b qs us):Sx f e μ b a us qs:=⟨h.B,h.A,h.ab.symm,h.bu,h.bq,h.au,h.aq,λ q hq u hu=>(h.qu u hu q hq).symm⟩
def putQ {α:Type}(w:Str) (p:Addr) (l:List α) (qs:List (Q α)):List (Q α):=if w∈qs.map (·.w) then qs.map (λ q=>if q.w=w then ⟨w,p,l⟩ else q) else qs++[⟨w,p,l⟩]
theorem mq {α:Type}(w:Str) (qs:List (Q α)):(getK (.inr w:Key) (kQ qs)).isSome=decide (w∈qs.map (·.w)):=by
 induction qs with
 | nil=>rfl
 | cons q r ih=>
  unfold kQ at ih ⊢;rw[z04,z04];unfold getK
  by_cases c:q.w=w
  ·subst c;simp
  ·have c1:¬ (.inr q.w:Key)=.inr w:=λ z=>c (Sum.inr.inj z);have c2:¬ w=q.w:=λ z=>c z.symm;rw[if_neg c1,ih];simp[c2]
theorem jK {α:Type}(w:Str) (p:Addr) (l:List α):∀ qs:List (Q α),repK (.inr w:Key) (.adr p) (kQ qs)=kQ (qs.map (λ q=>if q.w=w then ⟨w,p,l⟩ else q))
 | []=>rfl
 | q::r=>by
  have ih:=jK w p l r;unfold kQ at ih ⊢;rw[z04,z04,z04];unfold repK;rw[ih]
  by_cases c:q.w=w
  ·subst c;simp
  ·have c1:¬ (.inr q.w:Key)=.inr w:=λ z=>c (Sum.inr.inj z);rw[if_neg c1,if_neg c]
theorem bN {α:Type}(w:Str) (p:Addr) (l:List α) (qs:List (Q α)):putL (.inr w:Key) (.adr p) (kQ qs)=kQ (putQ w p l qs):=by
 unfold putL putQ;rw[mq]
 by_cases c:w∈qs.map (·.w)
 ·rw[if_pos (z0h c),if_pos c,jK w p l]
 ·rw[if_neg (by simpa using c),if_neg c];simp[kQ]
theorem GC {α:Type}{w:Str}{l:List α}{qs:List (Q α)}{q:Q α}(h:q∈putQ w p l qs):q=⟨w,p,l⟩∨q∈qs:=by
 unfold putQ at h;split at h
 ·obtain⟨x,hx,e⟩:=z0b.mp h;split at e
  ·exact Or.inl e.symm
  ·exact Or.inr (e▸hx)
 ·rcases z0y.mp h with h | h
  ·exact Or.inr h
  ·exact Or.inl (by simpa using h)
theorem Sx.put {α β:Type}{e:α->D}{f:β->D}{μ:Mu}{qs:List (Q α)}{us:List (Q β)}(h:Sx e f μ a b qs us) {p:Addr}(hp:p∉ksM μ) (w:Str) (l:List α):Sx e f (putA a (.dk (kQ (putQ w p l qs))) ((p,rQ e l)::μ)) a b (putQ w p l qs) us:=by
 have pa:a≠p:=λ z=>hp (z▸Cj h.A.at_);have pb:b≠p:=λ z=>hp (z▸Cj h.B.at_);have pq:∀ q∈qs,q.a≠p:=λ q hq z=>hp (z▸Cj (h.A.row q hq));have pu:∀ u∈us,u.a≠p:=λ q hq z=>hp (z▸Cj (h.B.row q hq));have la:(putA a (.dk (kQ (putQ w p l qs))) ((p,rQ e l)::μ)).lookup a=some (.dk (kQ (putQ w p l qs))):=by rw[Gu,if_pos rfl,Ew _ _ pa,h.A.at_];rfl
 have lx:∀ x,x≠a->x≠p->(putA a (.dk (kQ (putQ w p l qs))) ((p,rQ e l)::μ)).lookup x=μ.lookup x:=λ x h1 h2=>by rw[Gu,if_neg h1,Ew _ _ h2]
 have lp:(putA a (.dk (kQ (putQ w p l qs))) ((p,rQ e l)::μ)).lookup p=some (rQ e l):=by rw[Gu,if_neg pa.symm,R6]
 refine⟨⟨la,λ q hq=>?_⟩,h.B.frame (lx b h.ab.symm pb) λ u hu=>lx u.a (h.au u hu) (pu u hu),h.ab,λ q hq=>?_,h.au,λ q hq=>?_,h.bu,λ q hq u hu=>?_⟩
 ·rcases GC hq with rfl | hq
  ·exact lp
  ·rw[lx q.a (h.aq q hq) (pq q hq)];exact h.A.row q hq
 ·rcases GC hq with rfl | hq
  ·exact pa.symm
  ·exact h.aq q hq
 ·rcases GC hq with rfl | hq
  ·exact pb.symm
  ·exact h.bq q hq
 ·rcases GC hq with rfl | hq
  ·exact (pu u hu).symm
  ·exact h.qu q hq u hu
theorem W8 {α β:Type}{e:α->D}{f:β->D}{μ:Mu}{qs:List (Q α)}{us:List (Q β)}(h:Sx e f μ a b qs us) {i:Nat}{fk fr:FE}{ρ:Rho}{w:Str}{l:List α}{K:KM}(hi:ρ[i]?=some (.fz (.adr a))) (hk:fk ρ=some (.str w)) (hr:fr ρ=some (rQ e l)) (hl:qs.length<=1000)
  (hK:∀ p μ',Sx e f μ' a b (putQ w p l qs) us->K (.nx ρ) μ'):JD i fk (newX fr) ρ μ K:=by
 refine⟨_,hr,λ p hp=>?_⟩;have pa:a≠p:=λ z=>hp (z▸Cj h.A.at_);refine⟨.str w,a,.dk (kQ qs),.dk (kQ (putQ w p l qs)),hk,hi,by rw[Ew _ _ pa];exact h.A.at_,?_,hK p _ (h.put hp w l)⟩;rw[JT _ _ _ (by simp[kQ];omega),bN w p l]
theorem bO {α β:Type}{e:α->D}{f:β->D}{μ:Mu}{qs:List (Q α)}{us:List (Q β)}(h:Sx e f μ a b qs us) {i:Nat}{js:List Nat}{fk fr:FE}{ρ:Rho}{w:Str}{l:List α}{K:KM}(hi:ρ[i]?=some (.fz (.adr a))) (hk:∀ p,p∉ksM μ->vwM js fk ρ ((p,rQ e l)::μ)=some (.str w)) (hr:fr ρ=some (rQ e l)) (hl:qs.length<=1000)
  (hK:∀ p μ',Sx e f μ' a b (putQ w p l qs) us->K (.nx ρ) μ'):Ws i js fk (newX fr) ρ μ K:=by
 refine⟨_,hr,λ p hp=>?_⟩;have pa:a≠p:=λ z=>hp (z▸Cj h.A.at_);refine⟨.str w,a,.dk (kQ qs),.dk (kQ (putQ w p l qs)),hk p hp,hi,by rw[Ew _ _ pa];exact h.A.at_,?_,hK p _ (h.put hp w l)⟩;rw[JT _ _ _ (by simp[kQ];omega),bN w p l]
def chQ {α:Type}(x:Addr) (l:List α) (qs:List (Q α)):List (Q α):=qs.map λ q=>if q.a=x then ⟨q.w,q.a,l⟩ else q
theorem pG {α:Type}(x:Addr) (l:List α) (qs:List (Q α)):kQ (chQ x l qs)=kQ qs:=by
 unfold kQ chQ;rw[z0i];refine List.map_congr_left λ q _=>?_;simp only[Function.comp_apply];split<;>rfl
theorem Sx.ch {α β:Type}{e:α->D}{f:β->D}{μ:Mu}{qs:List (Q α)}{us:List (Q β)}(h:Sx e f μ a b qs us) {q0:Q α}(h0:q0∈qs) (l:List α):Sx e f (putA q0.a (rQ e l) μ) a b (chQ q0.a l qs) us:=by
 have lx:∀ x,x≠q0.a->(putA q0.a (rQ e l) μ).lookup x=μ.lookup x:=λ x h1=>by rw[Gu,if_neg h1]
 have lq:(putA q0.a (rQ e l) μ).lookup q0.a=some (rQ e l):=by rw[Gu,if_pos rfl,h.A.row q0 h0];rfl
 have ad:∀ q∈chQ q0.a l qs,∃ q'∈qs,q'.a=q.a:=λ q hq=>by
  obtain⟨x,hx,e⟩:=z0b.mp hq;refine⟨x,hx,?_⟩;rw[<-e];split<;>rfl
 refine⟨⟨?_,λ q hq=>?_⟩,h.B.frame (lx b (h.bq q0 h0).symm) λ u hu=>lx u.a (h.qu q0 h0 u hu).symm,h.ab,λ q hq=>?_,h.au,λ q hq=>?_,h.bu,λ q hq u hu=>?_⟩
 ·rw[lx a (h.aq q0 h0).symm,pG];exact h.A.at_
 ·obtain⟨x,hx,ex⟩:=z0b.mp hq
  by_cases c:x.a=q0.a
  ·rw[if_pos c] at ex;rw[<-ex];show List.lookup x.a _=_;rw[c];exact lq
  ·rw[if_neg c] at ex;rw[<-ex,lx x.a c];exact h.A.row x hx
 ·obtain⟨x,hx,e⟩:=ad q hq;exact e▸h.aq x hx
 ·obtain⟨x,hx,e⟩:=ad q hq;exact e▸h.bq x hx
 ·obtain⟨x,hx,e⟩:=ad q hq;exact e▸h.qu x hx u hu
def zE {α:Type}(e:α->D) (ls:List (Str×List α)):List (Key×D):=ls.map λ p=>((.inr p.1:Key),rQ e p.2)
def wl {α:Type}(q:Q α):Str×List α:=(q.w,q.l)
theorem zE_M (ms:List (Str×List Int)):zM ms=zE .int ms:=rfl
theorem zE_T (ts:List (Str×List (Int×Int))):zT ts=zE pI ts:=rfl
structure Lp {α:Type}(e:α->D) (μ0 μ:Mu) (qs:List (Q α)):Prop where
 row:∀ q∈qs,μ.lookup q.a=some (rQ e q.l)
 new:∀ q∈qs,q.a∉ksM μ0
 old:∀ x∈ksM μ0,μ.lookup x=μ0.lookup x
 sub:∀ x∈ksM μ0,x∈ksM μ
theorem Lp.step {α:Type}{e:α->D}{μ0 μ:Mu}{qs:List (Q α)}(h:Lp e μ0 μ qs) {p:Addr}(hp:p∉ksM μ) (w:Str) (l:List α):Lp e μ0 ((p,rQ e l)::μ) (qs++[⟨w,p,l⟩]):=by
 refine⟨λ q hq=>?_,λ q hq=>?_,λ x hx=>?_,λ x hx=>?_⟩
 ·rcases z0y.mp hq with hq | hq
  ·rw[Ew _ _ (show q.a≠p from λ z=>hp (z▸Cj (h.row q hq)))];exact h.row q hq
  ·obtain rfl:q=⟨w,p,l⟩:=by simpa using hq
   exact R6 _ _ _
 ·rcases z0y.mp hq with hq | hq
  ·exact h.new q hq
  ·obtain rfl:q=⟨w,p,l⟩:=by simpa using hq
   exact λ z=>hp (h.sub _ z)
 ·rw[Ew _ _ (show x≠p from λ z=>hp (z▸h.sub x hx))];exact h.old x hx
 ·show x∈p::ksM μ;exact z07 _ (h.sub x hx)
theorem R7 {α:Type}(e:α->D) {ls:List (Str×List α)}{p:Str×List α}(nd:(ls.map (·.1)).Nodup) (h:p∈ls):getK (.inr p.1:Key) (zE e ls)=some (rQ e p.2):=Ry (rQ e) nd h
theorem pH {α:Type}{qs:List (Q α)}{p:Str×List α}{r:List (Str×List α)}(nd:((qs.map wl++p::r).map (·.1)).Nodup):p.1∉qs.map (·.w):=by
 intro z;rw[z0Q,List.nodup_append] at nd;refine nd.2.2 p.1 ?_ p.1 (by simp) rfl;rw[z0i];exact z
theorem QJ {α:Type}(e:α->D) (ls:List (Str×List α)) (nd:(ls.map (·.1)).Nodup) (hl:ls.length<=100) (μ0:Mu) (K:KM):∀ (r:List (Str×List α)) (qs:List (Q α)) (μ:Mu) (z:PV.Slot),qs.map wl++r=ls->Lp e μ0 μ qs ->
  (∀ qs' μ' z',qs'.map wl=ls->Lp e μ0 μ' qs'->K (.nx [.fz (.dk (zE e ls)),.ow (.dk (kQ qs')),z']) μ')->QC (BW 2) JF (r.map λ p=>.str p.1) [.fz (.dk (zE e ls)),.ow (.dk (kQ qs)),z] μ K
 | [],qs,μ,z,hq,h,hK=>hK qs μ z (by simpa using hq) h
 | p::r,qs,μ,z,hq,h,hK=>by
  have hp:p∈ls:=by rw[<-hq];simp
  have g:=R7 e nd hp;have nq:p.1∉qs.map (·.w):=pH (by rw[hq];exact nd);have lq:qs.length<=100:=by
   have:=congrArg List.length hq;simp at this;omega
  refine⟨[.fz (.dk (zE e ls)),.ow (.dk (kQ qs)),.fz (.str p.1)],rfl,?_⟩;refine⟨rQ e p.2,?_,λ a ha=>?_⟩
  ·have ix:ixE (.dk (zE e ls)) (.str p.1)=some (rQ e p.2):=g;show (ixE (.dk (zE e ls)) (.str p.1)).bind Wt=_;rw[ix];rfl
  ·refine⟨.str p.1,.dk (kQ qs),.dk (kQ (qs++[⟨p.1,a,p.2⟩])),rfl,rfl,?_,?_⟩
   ·rw[JT _ _ _ (by simp[kQ];omega),bN p.1 a p.2,putQ,if_neg nq]
   ·exact QJ e ls nd hl μ0 K r (qs++[⟨p.1,a,p.2⟩]) _ _ (by rw[<-hq];simp[wl]) (h.step ha p.1 p.2) hK
theorem W9 {α:Type}(e:α->D) (ls:List (Str×List α)) (nd:(ls.map (·.1)).Nodup) (hl:ls.length<=100) (μ0:Mu) (K:D->Mu->Prop)
  (hK:∀ a qs μ',qs.map wl=ls->Dc e μ' a qs->(∀ q∈qs,q.a≠a)->a∉ksM μ0->(∀ q∈qs,q.a∉ksM μ0)->(∀ x∈ksM μ0,μ'.lookup x=μ0.lookup x)->K (.adr a) μ'):Gb [.dk (zE e ls)] μ0 K:=by
 refine⟨rfl,?_⟩;refine⟨.nx [.fz (.dk (zE e ls)),.ow (.dk (kQ ([]:List (Q α)))),.un],rfl,?_⟩;refine⟨ls.map λ p=>.str p.1,?_,?_⟩
 ·show some ((zE e ls).map λ p=>kDt p.1)=_;simp[zE,K1]
 ·refine QJ e ls nd hl μ0 _ ls [] μ0 .un rfl ⟨by simp,by simp,λ x _=>rfl,λ x h=>h⟩ λ qs μ' z hq h=>?_;refine⟨_,rfl,λ p hp=>?_⟩;refine⟨.adr p,rfl,?_⟩;refine hK p qs _ hq ⟨R6 _ _ _,λ q hq=>?_⟩ (λ q hq z=>?_) (λ z=>hp (h.sub _ z)) h.new λ x hx=>?_
  ·rw[Ew _ _ (show q.a≠p from λ z=>hp (z▸Cj (h.row q hq)))];exact h.row q hq
  ·exact hp (z▸Cj (h.row q hq))
  ·rw[Ew _ _ (show x≠p from λ z=>hp (z▸h.sub x hx))];exact h.old x hx
theorem vw1 {α:Type}{f:Rho->Option α}{μ:Mu}{c:D}(hj:ρ[j]?=some (.fz (.adr a))) (hc:μ.lookup a=some c):vwM [j] f ρ μ=f (ρ.set j (.ow c)):=by
 unfold vwM D_;rw[hj];show (((μ.lookup a).bind λ c=>D_ μ [] [a] (ρ.set j (.ow c)))).bind f=_;rw[hc];rfl
theorem W_ (c:Int) (n:Nat) (h:0<n):modD (.int c) (.int (n:Int))=some (.int (((c%n).toNat:Nat):Int))/\(c%n).toNat<n:=by
 have h0:0<=c%(n:Int):=z0E _ (by omega);have h1:c%(n:Int)<n:=z0L _ (by omega);exact⟨by rw[Gf c n (by omega),Int.toNat_of_nonneg h0],by omega⟩
theorem gJ {α:Type}(qs:List (Q α)):eqD false (.lst (qs.map λ q=>.str q.w)) (.lst [])=some (.bl (decide (qs.length=0))):=by
 cases qs with
 | nil=>rfl
 | cons q r=>
  unfold eqD;have:eqvD (.lst ((q::r).map λ q=>D.str q.w)) (.lst [])=some false:=by
   show (if ((q::r).map λ q=>D.str q.w).length=([]:List D).length then allO (eqK 180) ((q::r).map λ q=>D.str q.w) [] else some false)=some false;exact if_neg (by simp)
  rw[this];rfl
theorem XD {α:Type}{w:Str}:∀ {qs:List (Q α)},w∈qs.map (·.w)->∃ q∈qs,getK (.inr w:Key) (kQ qs)=some (.adr q.a)
 | q::r,h=>by
  unfold kQ;rw[z04];unfold getK
  by_cases c:q.w=w
  ·subst c;exact⟨q,by simp,by simp⟩
  ·have c1:¬ (.inr q.w:Key)=.inr w:=λ z=>c (Sum.inr.inj z);have h':w∈r.map (·.w):=by
    rcases z06.mp h with h | h
    ·exact absurd h.symm c
    ·exact h
   obtain⟨x,hx,e⟩:=XD h';refine⟨x,by simp[hx],?_⟩;rw[if_neg c1];exact e
structure Ins {α:Type}(t:α) (qs qs':List (Q α)):Prop where
 w:qs'.map (·.w)=qs.map (·.w)
 c:∀ q'∈qs',∃ q∈qs,q'.l.length<=q.l.length+1/\∀ y∈q'.l,y∈q.l∨y=t
theorem Ins.rfl' {α:Type}(t:α) (qs:List (Q α)):Ins t qs qs:=⟨rfl,λ q hq=>⟨q,hq,by omega,λ y hy=>Or.inl hy⟩⟩
theorem pJ {α:Type}(e:α->D) (l:List α) (t:α) (i:Nat) (hi:i<=l.length) (hl:l.length<=900):insM (rQ e l) [.int (i:Int),e t]=some (.non,rQ e (l.take i++t::l.drop i)):=by
 unfold rQ;show (if 0<=(i:Int)/\(i:Int).toNat<=(l.map e).length/\(l.map e).length<sizeLine then some (D.non,D.lst ((l.map e).take (i:Int).toNat++e t::(l.map e).drop (i:Int).toNat)) else none)=_;rw[if_pos ⟨by omega,by simpa using hi,by rw[z01];exact z0r (by omega) (Bw (n:=1000) (by decide))⟩];simp
theorem Uu {α β:Type}{e:α->D}{f:β->D}{μ:Mu}{qs:List (Q α)}{us:List (Q β)}(h:Sx e f μ a b qs us) (t:α) (c:Int) (hL:∀ q∈qs,q.l.length<=900) (hl:qs.length<=900) (K:D->Mu->Prop)
  (hK:∀ μ' qs',Sx e f μ' a b qs' us->Ins t qs qs'->K .non μ'):Cd [.adr a,.int c,e t] μ K:=by
 refine⟨rfl,?_⟩;have v1:vwM [0] (uF Pn (vU 0)) [.fz (.adr a),.fz (.int c),.fz (e t),.un,.un] μ=some (.lst (qs.map λ q=>.str q.w)):=by
  rw[vw1 (a:=a) rfl h.A.at_];show some (D.lst ((kQ qs).map λ p=>kDt p.1))=_;simp[kQ,K1]
 refine⟨_,v1,?_⟩;have e0:=gJ qs;have t0:ifS (blF (bF (eqD false) (vF 3) (lstF (nilA)))) (retN) (nxF) [.fz (.adr a),.fz (.int c),.fz (e t),.fz (.lst (qs.map λ q=>.str q.w)),.un]=some (if qs.length=0 then .rt .non [.fz (.adr a),.fz (.int c),.fz (e t),.fz (.lst (qs.map λ q=>.str q.w)),.un] else .nx [.fz (.adr a),.fz (.int c),.fz (e t),.fz (.lst (qs.map λ q=>.str q.w)),.un]):=by
  by_cases z:qs.length=0
  ·rw[z0h z] at e0;rw[if_pos z];simp only[cK,e0]
  ·rw[z0d z] at e0;rw[if_neg z];simp only[cK,e0]
 refine⟨_,t0,?_⟩
 by_cases z:qs.length=0
 ·rw[if_pos z];exact hK μ qs h (Ins.rfl' t qs)
 ·rw[if_neg z];obtain⟨m1,m2⟩:=W_ c qs.length (by omega);generalize hi:(c%(qs.length:Int)).toNat=i at m1 m2;have l0:lenE (.lst (qs.map λ q=>.str q.w))=some (.int (qs.length:Int)):=by
   show lenD (.lst (qs.map λ q=>D.str q.w))=_;rw[Y8,z01]
  have ix:ixE (.lst (qs.map λ q=>.str q.w)) (.int (i:Int))=some (.str (qs[i]).w):=by
   show atI (qs.map λ q=>D.str q.w) (i:Int)=_;rw[Fo,z0c,z0D m2];rfl
  obtain⟨q0,hq0,g⟩:=XD (w:=(qs[i]).w) (qs:=qs) (z0b.mpr ⟨qs[i],List.getElem_mem m2,rfl⟩);have g':ixE (.dk (kQ qs)) (.str (qs[i]).w)=some (.adr q0.a):=g;have v2:vwM [0] (bF ixE (vU 0) (bF ixE (vF 3) (bF modD (vF 1) (uF lenE (vF 3))))) [.fz (.adr a),.fz (.int c),.fz (e t),.fz (.lst (qs.map λ q=>.str q.w)),.un] μ=some (.adr q0.a):=by
   rw[vw1 (a:=a) rfl h.A.at_];show (bF ixE (vU 0) (bF ixE (vF 3) (bF modD (vF 1) (uF lenE (vF 3))))) [.ow (.dk (kQ qs)),.fz (.int c),.fz (e t),.fz (.lst (qs.map λ q=>.str q.w)),.un]=_;have w0:vU 0 [.ow (.dk (kQ qs)),.fz (.int c),.fz (e t),.fz (.lst (qs.map λ q=>.str q.w)),.un]=some (.dk (kQ qs)):=rfl;simp only[cK,w0,l0,m1,ix,g']
  refine⟨_,v2,?_⟩;have r0:=h.A.row q0 hq0;have lr:=hL q0 hq0;have lenr:lenE (rQ e q0.l)=some (.int (q0.l.length:Int)):=by
   show lenD (.lst (q0.l.map e))=_;rw[Y8,z01]
  obtain⟨n1,n2⟩:=W_ (c/3) (q0.l.length+1) (by omega);generalize hj:(c/3%((q0.l.length+1:Nat):Int)).toNat=j at n1 n2;have n1':modD (.int (c/3)) (.int ((q0.l.length:Int)+1))=some (.int (j:Int)):=n1;have v3:vwM [4] (Aa (bF modD (bF Bp (vF 1) (kF (.int 3))) (bF addD (uF lenE (vU 4)) (kF (.int 1)))) (Aa (vF 2) (nilA))) [.fz (.adr a),.fz (.int c),.fz (e t),.fz (.lst (qs.map λ q=>.str q.w)),.fz (.adr q0.a)] μ=some [.int (j:Int),e t]:=by
   rw[vw1 (a:=q0.a) rfl r0];show (Aa (bF modD (bF Bp (vF 1) (kF (.int 3))) (bF addD (uF lenE (vU 4)) (kF (.int 1)))) (Aa (vF 2) (nilA))) [.fz (.adr a),.fz (.int c),.fz (e t),.fz (.lst (qs.map λ q=>.str q.w)),.ow (rQ e q0.l)]=_;have w0:vU 4 [.fz (.adr a),.fz (.int c),.fz (e t),.fz (.lst (qs.map λ q=>.str q.w)),.ow (rQ e q0.l)]=some (rQ e q0.l):=rfl;simp only[ciK,w0,lenr,n1']
  refine⟨_,q0.a,rQ e q0.l,.non,_,v3,rfl,r0,pJ e q0.l t j (by omega) lr,?_⟩;refine hK _ _ (h.ch hq0 _) ⟨?_,λ q' hq'=>?_⟩
  ·unfold chQ;rw[z0i];refine List.map_congr_left λ q _=>?_;simp only[Function.comp_apply];split<;>rfl
  ·obtain⟨x,hx,ex⟩:=z0b.mp hq'
   by_cases cc:x.a=q0.a
   ·rw[if_pos cc] at ex;subst ex;refine⟨q0,hq0,?_,λ y hy=>?_⟩
    ·simp;omega
    ·rcases z0y.mp hy with hy | hy
     ·exact Or.inl (List.mem_of_mem_take hy)
     ·rcases z06.mp hy with hy | hy
      ·exact Or.inr hy
      ·exact Or.inl (List.mem_of_mem_drop hy)
   ·rw[if_neg cc] at ex;subst ex;exact⟨x,hx,by omega,λ y hy=>Or.inl hy⟩
theorem XF:powD (.int 10) (.int 59)=some (.int (10^59)):=by rfl
theorem GD (i j:Int):eqF false (.int i) (.int j)=some (.bl (decide (i=j))):=Vg i j
theorem XH (t:Int) (h : -(10^60)<=t/\t<=10^60):Sm t:=by
 have hn:t.natAbs<2^1920:=by
  have:t.natAbs<=10^60:=by omega
  exact z18 this (by decide)
 show t.natAbs.log2<1920
 by_cases z:t.natAbs=0
 ·rw[z];decide
 ·exact (Nat.log2_lt z).mpr hn
def gw (w:Str):Prop:=Wd w∨w="Red"∨w="near to"
structure Iv {α:Type}(P:α->Prop) (N L:Nat) (qs:List (Q α)):Prop where
 nd:(qs.map (·.w)).Nodup
 ln:qs.length<=N
 gw:∀ w∈qs.map (·.w),gw w
 ll:∀ q∈qs,q.l.length<=L
 pp:∀ q∈qs,∀ y∈q.l,P y
theorem Iv.mono {α:Type}{P:α->Prop}{N:Nat}{qs:List (Q α)}(h:Iv P N L qs) (a:N<=N') (b:L<=L'):Iv P N' L' qs:=⟨h.nd,z0j h.ln a,h.gw,λ q hq=>z0j (h.ll q hq) b,h.pp⟩
theorem Iv.put {α:Type}{P:α->Prop}{N:Nat}{qs:List (Q α)}(h:Iv P N L qs) {w:Str}(p:Addr) {l:List α}(hw:K03.gw w) (hl:l.length<=L) (hp:∀ y∈l,P y):Iv P (N+1) L (putQ w p l qs):=by
 have hn:=h.ln;refine⟨?_,?_,?_,λ q hq=>?_,λ q hq=>?_⟩
 ·unfold putQ;split
  ·rw[z0i];have:qs.map ((λ x:Q α=>x.w) ∘ λ q=>if q.w=w then (⟨w,p,l⟩:Q α) else q)=qs.map (·.w):=by
    refine List.map_congr_left λ q _=>?_;simp only[Function.comp_apply];split
    ·next e=>exact e.symm
    ·rfl
   rw[this];exact h.nd
  ·next c=>
   rw[z0Q,List.nodup_append];refine⟨h.nd,by simp,λ x hx y hy e=>?_⟩;have:y=w:=by simpa using hy
   exact c (this▸e▸hx)
 ·unfold putQ;split
  ·simp;omega
  ·simp;omega
 ·intro x hx;obtain⟨q,hq,rfl⟩:=z0b.mp hx
  rcases GC hq with rfl | hq
  ·exact hw
  ·exact h.gw _ (z0b.mpr ⟨q,hq,rfl⟩)
 ·rcases GC hq with rfl | hq
  ·exact hl
  ·exact h.ll q hq
 ·rcases GC hq with rfl | hq
  ·exact hp
  ·exact h.pp q hq
theorem Iv.ins {α:Type}{P:α->Prop}{N:Nat}{qs qs':List (Q α)}{t:α}(h:Iv P N L qs) (ht:P t) (i:Ins t qs qs'):Iv P N (L+1) qs':=by
 refine⟨by rw[i.w];exact h.nd,?_,by rw[i.w];exact h.gw,λ q hq=>?_,λ q hq y hy=>?_⟩
 ·have:=congrArg List.length i.w;simp at this;have:=h.ln;omega
 ·obtain⟨x,hx,e,_⟩:=i.c q hq;have:=h.ll x hx;omega
 ·obtain⟨x,hx,_,e⟩:=i.c q hq
  rcases e y hy with z | z
  ·exact h.pp x hx y z
  ·exact z▸ht
def Sm2 (q:Int×Int):Prop:=Sm q.1/\Sm q.2
structure St (μ:Mu) (a b:Addr) (N L N' L':Nat) (qs:List (Q Int)) (us:List (Q (Int×Int))):Prop where
 s:Sx .int pI μ a b qs us
 q:Iv Sm N L qs
 u:Iv Sm2 N' L' us
abbrev Rf (k c n:Int) (a b:Addr) (t:Int) (z:PV.Slot):Rho:=[.fz (.int k),.fz (.int c),.fz (.int n),.fz (.adr a),.fz (.adr b),.fz (.int t),z]
theorem if_w {js:List Nat}{t:FT}{g gs:FM}{μ:Mu}{K:KM}{B:Bool}(ht:vwM js t ρ μ=some B) (h1:B=true->g ρ μ K) (h0:B=false->gs ρ μ K):ifM js t g gs ρ μ K:=by
 unfold ifM;rw[ht];cases B with
 | true=>exact h1 rfl
 | false=>exact h0 rfl
theorem wd_q:∀ c∈cs "abcd",Wd (("qqqqqqq":Str)++⟨#[c]⟩):=by
 have d:∀ c∈cs "abcd",(cs (("qqqqqqq":Str)++⟨#[c]⟩)).all (λ x=>decide (x∈cs LET))=true/\(("qqqqqqq":Str)++⟨#[c]⟩).length=8/\(("qqqqqqq":Str)++⟨#[c]⟩)∉KEPT:=by decide +kernel
 intro c hc;obtain⟨h1,h2,h3⟩:=d c hc;exact⟨by omega,by omega,λ x hx=>z0Z (z0C.mp h1 x hx),h3⟩
theorem qa:∃ w,Wd w/\∀ (k c n:Int) (a b:Addr) (t:Int),(bF addD (kF (.str "qqqqqqq")) (bF ixE (kF (.str "abcd")) (vF 6))) (Rf k c n a b t (.fz (.int ((0:Nat):Int))))=some (.str w):=⟨_,wd_q 97 (by decide +kernel),λ _ _ _ _ _ _=>rfl⟩
theorem qb:∃ w,Wd w/\∀ (k c n:Int) (a b:Addr) (t:Int),(bF addD (kF (.str "qqqqqqq")) (bF ixE (kF (.str "abcd")) (vF 6))) (Rf k c n a b t (.fz (.int ((1:Nat):Int))))=some (.str w):=⟨_,wd_q 98 (by decide +kernel),λ _ _ _ _ _ _=>rfl⟩
theorem qc:∃ w,Wd w/\∀ (k c n:Int) (a b:Addr) (t:Int),(bF addD (kF (.str "qqqqqqq")) (bF ixE (kF (.str "abcd")) (vF 6))) (Rf k c n a b t (.fz (.int ((2:Nat):Int))))=some (.str w):=⟨_,wd_q 99 (by decide +kernel),λ _ _ _ _ _ _=>rfl⟩
theorem qd:∃ w,Wd w/\∀ (k c n:Int) (a b:Addr) (t:Int),(bF addD (kF (.str "qqqqqqq")) (bF ixE (kF (.str "abcd")) (vF 6))) (Rf k c n a b t (.fz (.int ((3:Nat):Int))))=some (.str w):=⟨_,wd_q 100 (by decide +kernel),λ _ _ _ _ _ _=>rfl⟩
theorem J9 {α:Type}(e:α->D) (ρ:Rho):lstF nilA ρ=some (rQ e []):=rfl
theorem T9 {μ:Mu}{N:Nat}{qs:List (Q Int)}{us:List (Q (Int×Int))}{K:KM}{k t:Int}{z:PV.Slot}(h:St μ a b N L N' L' qs us) (hN:N<=900) {fk fr:FE}{w:Str}{l:List Int}(hk:fk (Rf k c n a b t z)=some (.str w)) (hr:fr (Rf k c n a b t z)=some (rQ .int l)) (hw:gw w) (hl:l.length<=L) (hp:∀ y∈l,Sm y)
  (hK:∀ μ' qs',St μ' a b (N+1) L N' L' qs' us->K (.nx (Rf k c n a b t z)) μ'):JD 3 fk (newX fr) (Rf k c n a b t z) μ K:=by
 have:=h.q.ln;exact W8 h.s rfl hk hr (by omega) λ p μ' s=>hK μ' _ ⟨s,h.q.put p hw hl hp,h.u⟩
theorem T_ {μ:Mu}{N:Nat}{qs:List (Q Int)}{us:List (Q (Int×Int))}{K:KM}{k t:Int}{z:PV.Slot}(h:St μ a b N L N' L' qs us) (hN:N'<=900) {fk fr:FE}{w:Str}{l:List (Int×Int)}(hk:fk (Rf k c n a b t z)=some (.str w)) (hr:fr (Rf k c n a b t z)=some (rQ pI l)) (hw:gw w) (hl:l.length<=L') (hp:∀ y∈l,Sm2 y)
  (hK:∀ μ' us',St μ' a b N L (N'+1) L' qs us'->K (.nx (Rf k c n a b t z)) μ'):JD 4 fk (newX fr) (Rf k c n a b t z) μ K:=by
 have:=h.u.ln;exact W8 h.s.swap rfl hk hr (by omega) λ p μ' s=>hK μ' _ ⟨s.swap,h.q,h.u.put p hw hl hp⟩
theorem four {k t:Int}{z:PV.Slot}:rngI (kF (.int 4)) (Rf k c n a b t z)=some [.int ((0:Nat):Int),.int ((1:Nat):Int),.int ((2:Nat):Int),.int ((3:Nat):Int)]:=rfl
theorem eqk {k t:Int}{z:PV.Slot}(j:Int):blF (bF (eqF false) (vF 0) (kF (.int j))) (Rf k c n a b t z)=some (decide (k=j)):=by
 have e:=GD k j;simp only[cK,e]
theorem vw0 {μ:Mu}{α:Type}(f:Rho->Option α) (ρ:Rho):vwM [] f ρ μ=f ρ:=rfl
theorem s1 {μ:Mu}{N:Nat}{qs:List (Q Int)}{us:List (Q (Int×Int))}{K:KM}{k t:Int}{z:PV.Slot}(h:St μ a b N L N' L' qs us) (hN:N<=800) (hK:∀ μ' qs' z',St μ' a b (N+4) L N' L' qs' us->K (.nx (Rf k c n a b t z')) μ') :
  ifM [] (blF (bF (eqF false) (vF 0) (kF (.int 1)))) (forM (rngI (kF (.int 4))) (BW 6) (Hw)) (nxM) (Rf k c n a b t z) μ K:=by
 refine if_w (by rw[vw0];exact eqk 1) (λ _=>?_) λ _=>hK μ qs z ⟨h.s,h.q.mono (by omega) (by omega),h.u⟩;obtain⟨w1,d1,e1⟩:=qa;obtain⟨w2,d2,e2⟩:=qb;obtain⟨w3,d3,e3⟩:=qc;obtain⟨w4,d4,e4⟩:=qd;refine⟨_,four,?_⟩;refine⟨Rf k c n a b t (.fz (.int ((0:Nat):Int))),rfl,?_⟩;refine T9 h (by omega) (e1 ..) (J9 .int _) (Or.inl d1) (by simp) (by simp) λ μ1 q1 h1=>?_;refine⟨Rf k c n a b t (.fz (.int ((1:Nat):Int))),rfl,?_⟩;refine T9 h1 (by omega) (e2 ..) (J9 .int _) (Or.inl d2) (by simp) (by simp) λ μ2 q2 h2=>?_;refine⟨Rf k c n a b t (.fz (.int ((2:Nat):Int))),rfl,?_⟩;refine T9 h2 (by omega) (e3 ..) (J9 .int _) (Or.inl d3) (by simp) (by simp) λ μ3 q3 h3=>?_;refine⟨Rf k c n a b t (.fz (.int ((3:Nat):Int))),rfl,?_⟩;refine T9 h3 (by omega) (e4 ..) (J9 .int _) (Or.inl d4) (by simp) (by simp) λ μ4 q4 h4=>?_;exact hK μ4 q4 _ h4
theorem s2 {μ:Mu}{N:Nat}{qs:List (Q Int)}{us:List (Q (Int×Int))}{K:KM}{k t:Int}{z:PV.Slot}(h:St μ a b N L N' L' qs us) (hN:N'<=800) (hK:∀ μ' us' z',St μ' a b N L (N'+4) L' qs us'->K (.nx (Rf k c n a b t z')) μ') :
  ifM [] (blF (bF (eqF false) (vF 0) (kF (.int 2)))) (forM (rngI (kF (.int 4))) (BW 6) (Hx)) (nxM) (Rf k c n a b t z) μ K:=by
 refine if_w (by rw[vw0];exact eqk 2) (λ _=>?_) λ _=>hK μ us z ⟨h.s,h.q,h.u.mono (by omega) (by omega)⟩;obtain⟨w1,d1,e1⟩:=qa;obtain⟨w2,d2,e2⟩:=qb;obtain⟨w3,d3,e3⟩:=qc;obtain⟨w4,d4,e4⟩:=qd;refine⟨_,four,?_⟩;refine⟨Rf k c n a b t (.fz (.int ((0:Nat):Int))),rfl,?_⟩;refine T_ h (by omega) (e1 ..) (J9 pI _) (Or.inl d1) (by simp) (by simp) λ μ1 q1 h1=>?_;refine⟨Rf k c n a b t (.fz (.int ((1:Nat):Int))),rfl,?_⟩;refine T_ h1 (by omega) (e2 ..) (J9 pI _) (Or.inl d2) (by simp) (by simp) λ μ2 q2 h2=>?_;refine⟨Rf k c n a b t (.fz (.int ((2:Nat):Int))),rfl,?_⟩;refine T_ h2 (by omega) (e3 ..) (J9 pI _) (Or.inl d3) (by simp) (by simp) λ μ3 q3 h3=>?_;refine⟨Rf k c n a b t (.fz (.int ((3:Nat):Int))),rfl,?_⟩;refine T_ h3 (by omega) (e4 ..) (J9 pI _) (Or.inl d4) (by simp) (by simp) λ μ4 q4 h4=>?_;exact hK μ4 q4 _ h4
theorem bQ {α:Type}(qs:List (Q α)):lenE (.dk (kQ qs))=some (.int (qs.length:Int)):=by
 show some (D.int ((kQ qs).length:Int))=_;simp[kQ]
theorem s3 {μ:Mu}{N:Nat}{qs:List (Q Int)}{us:List (Q (Int×Int))}{K:KM}{k t:Int}{z:PV.Slot}(h:St μ a b N L N' L' qs us) (hN:N<=800) (hL:1<=L) (ht:Sm t) (hK:∀ μ' qs',St μ' a b (N+1) L N' L' qs' us->K (.nx (Rf k c n a b t z)) μ') :
  ifM [3] (andT (blF (bF (eqF false) (vF 0) (kF (.int 3)))) (blF (bF ltD (uF lenE (vU 3)) (kF (.int 3))))) (JD 3 (kF (.str "Red")) (newX (lstF (Aa (vF 5) (nilA))))) (nxM) (Rf k c n a b t z) μ K:=by
 have e:=GD k 3;have l:=bQ qs;have u3:vU 3 [.fz (.int k),.fz (.int c),.fz (.int n),.ow (.dk (kQ qs)),.fz (.adr b),.fz (.int t),z]=some (.dk (kQ qs)):=rfl;have v:vwM [3] (andT (blF (bF (eqF false) (vF 0) (kF (.int 3)))) (blF (bF ltD (uF lenE (vU 3)) (kF (.int 3))))) (Rf k c n a b t z) μ=some (decide (k=3)&&decide ((qs.length:Int)<3)):=by
  rw[vw1 (a:=a) rfl h.s.A.at_]
  by_cases x:k=3
  ·rw[z0h x] at e;rw[z0h x];simp only[ciK,e,u3,l,Bool.true_and]
  ·rw[z0d x] at e;rw[z0d x];simp only[cK,e,Bool.false_and]
 refine if_w v (λ _=>?_) λ _=>hK μ qs ⟨h.s,h.q.mono (by omega) (by omega),h.u⟩;exact T9 h (by omega) (w:="Red") (l:=[t]) rfl rfl (Or.inr (Or.inl rfl)) hL (by simpa using ht) hK
theorem s4 {μ:Mu}{N:Nat}{qs:List (Q Int)}{us:List (Q (Int×Int))}{K:KM}{k t:Int}{z:PV.Slot}(h:St μ a b N L N' L' qs us) (hN:N'<=800) (hL:1<=L') (ht:Sm t) (hK:∀ μ' us',St μ' a b N L (N'+1) L' qs us'->K (.nx (Rf k c n a b t z)) μ') :
  ifM [4] (andT (blF (bF (eqF false) (vF 0) (kF (.int 4)))) (blF (bF ltD (uF lenE (vU 4)) (kF (.int 3))))) (JD 4 (kF (.str "near to")) (newX (lstF (Aa (tupF (Aa (vF 5) (Aa (vF 5) (nilA)))) (nilA))))) (nxM) (Rf k c n a b t z) μ K:=by
 have e:=GD k 4;have l:=bQ us;have u3:vU 4 [.fz (.int k),.fz (.int c),.fz (.int n),.fz (.adr a),.ow (.dk (kQ us)),.fz (.int t),z]=some (.dk (kQ us)):=rfl;have v:vwM [4] (andT (blF (bF (eqF false) (vF 0) (kF (.int 4)))) (blF (bF ltD (uF lenE (vU 4)) (kF (.int 3))))) (Rf k c n a b t z) μ=some (decide (k=4)&&decide ((us.length:Int)<3)):=by
  rw[vw1 (a:=b) rfl h.s.B.at_]
  by_cases x:k=4
  ·rw[z0h x] at e;rw[z0h x];simp only[ciK,e,u3,l,Bool.true_and]
  ·rw[z0d x] at e;rw[z0d x];simp only[cK,e,Bool.false_and]
 refine if_w v (λ _=>?_) λ _=>hK μ us ⟨h.s,h.q,h.u.mono (by omega) (by omega)⟩;exact T_ h (by omega) (w:="near to") (l:=[(t,t)]) rfl rfl (Or.inr (Or.inr rfl)) hL (by simpa using ⟨ht,ht⟩) hK
theorem dk_q {α:Type}(qs:List (Q α)):eqF true (.dk (kQ qs)) (.dk [])=some (.bl (decide (qs.length≠0))):=by
 cases qs with
 | nil=>rfl
 | cons q r=>
  show (dkEq (kQ (q::r)) []).map (λ c=>D.bl (!c))=_;have:dkEq (kQ (q::r)) []=some false:=if_pos (by simp[kQ]);rw[this];rfl
theorem vw2 {μ:Mu}{α:Type}{f:Rho->Option α}{x y:Addr}{c d:D}(hi:ρ[i]?=some (.fz (.adr x))) (hc:μ.lookup x=some c) (hj:(ρ.set i (.ow c))[j]?=some (.fz (.adr y))) (hd:μ.lookup y=some d) (ne:y≠x):vwM [i,j] f ρ μ=f ((ρ.set i (.ow c)).set j (.ow d)):=by
 unfold vwM D_;rw[hi];show (((μ.lookup x).bind λ c=>D_ μ [j] [x] (ρ.set i (.ow c)))).bind f=_;rw[hc];show (D_ μ [j] [x] (ρ.set i (.ow c))).bind f=_;unfold D_;rw[hj];show ((if y∈[x] then none else (μ.lookup y).bind λ d=>D_ μ [] [y,x] ((ρ.set i (.ow c)).set j (.ow d)))).bind f=_;rw[if_neg (by simpa using ne),hd];rfl
theorem s5 {μ:Mu}{N:Nat}{qs:List (Q Int)}{us:List (Q (Int×Int))}{K:KM}{k t:Int}{z:PV.Slot}(h:St μ a b N L N' L' qs us) (hN:N'<=800) (hK:∀ μ' us',St μ' a b N L (N'+1) L' qs us'->K (.nx (Rf k c n a b t z)) μ') :
  ifM [3,4] (andT (blF (bF (eqF false) (vF 0) (kF (.int 5)))) (andT (blF (bF (eqF true) (vU 3) (kF (.dk [])))) (blF (bF ltD (uF lenE (vU 4)) (kF (.int 3)))))) (Ws 4 [3] (bF ixE (uF Pn (vU 3)) (kF (.int 0))) (newX (lstF (nilA)))) (nxM) (Rf k c n a b t z) μ K:=by
 have e:=GD k 5;have l:=bQ us;have g:=dk_q qs;have u3:vU 3 [.fz (.int k),.fz (.int c),.fz (.int n),.ow (.dk (kQ qs)),.ow (.dk (kQ us)),.fz (.int t),z]=some (.dk (kQ qs)):=rfl;have u4:vU 4 [.fz (.int k),.fz (.int c),.fz (.int n),.ow (.dk (kQ qs)),.ow (.dk (kQ us)),.fz (.int t),z]=some (.dk (kQ us)):=rfl;have v:vwM [3,4] (andT (blF (bF (eqF false) (vF 0) (kF (.int 5)))) (andT (blF (bF (eqF true) (vU 3) (kF (.dk [])))) (blF (bF ltD (uF lenE (vU 4)) (kF (.int 3)))))) (Rf k c n a b t z) μ=some (decide (k=5)&&(decide (qs.length≠0)&&decide ((us.length:Int)<3))):=by
  rw[vw2 (x:=a) (y:=b) (c:=.dk (kQ qs)) (d:=.dk (kQ us)) rfl h.s.A.at_ rfl h.s.B.at_ h.s.ab.symm]
  by_cases x:k=5
  ·rw[z0h x] at e;rw[z0h x]
   by_cases y:qs.length≠0
   ·rw[z0h y] at g;rw[z0h y];simp only[ciK,e,u3,u4,g,l,Bool.true_and]
   ·rw[z0d y] at g;rw[z0d y];simp only[cK,e,u3,g,Bool.true_and,Bool.false_and]
  ·rw[z0d x] at e;rw[z0d x];simp only[cK,e,Bool.false_and]
 refine if_w v (λ hb=>?_) λ _=>hK μ us ⟨h.s,h.q,h.u.mono (by omega) (by omega)⟩;have q0:qs.length≠0:=by
  simp only[z0q,z0K] at hb;exact hb.2.1
 have:=h.u.ln
 match qs,q0,h with
 | q::r,_,h=>
  refine bO h.s.swap (w:=q.w) (l:=[]) rfl (λ p hp=>?_) (J9 pI _) (by omega) λ p μ' s=>hK μ' _ ⟨s.swap,h.q,h.u.put p (h.q.gw _ (by simp)) (by simp) (by simp)⟩;have pa:a≠p:=λ z=>hp (z▸Cj h.s.A.at_);rw[vw1 (a:=a) (c:=.dk (kQ (q::r))) rfl (by rw[Ew _ _ pa];exact h.s.A.at_)];show atI ((kQ (q::r)).map λ p=>kDt p.1) ((0:Nat):Int)=_;rw[Fo];rfl
theorem pK {μ:Mu}{N:Nat}{qs:List (Q Int)}{us:List (Q (Int×Int))}{K:KM}{k t:Int}{z:PV.Slot}(h:St μ a b N L N' L' qs us) (hN:N<=800) (hL:L<=800) {fs:FA}{x:Int}(hx:Sm x) (hs:fs (Rf k c n a b t z)=some [.adr a,.int c,.int x]) (hK:∀ μ' qs',St μ' a b N (L+1) N' L' qs' us->K (.nx (Rf k c n a b t z)) μ'):JC (calX (Cd) fs) (Rf k c n a b t z) μ K:=by
 refine⟨_,hs,?_⟩;have:=h.q.ln;refine Uu (e:=.int) h.s x c (λ q hq=>z0j (h.q.ll q hq) (by omega)) (by omega) _ λ μ' qs' s i=>hK μ' qs' ⟨s,h.q.ins hx i,h.u⟩
theorem jL {μ:Mu}{N:Nat}{qs:List (Q Int)}{us:List (Q (Int×Int))}{K:KM}{k t:Int}{z:PV.Slot}(h:St μ a b N L N' L' qs us) (hN:N'<=800) (hL:L'<=800) {fs:FA}{x:Int×Int}(hx:Sm2 x) (hs:fs (Rf k c n a b t z)=some [.adr b,.int c,pI x]) (hK:∀ μ' us',St μ' a b N L N' (L'+1) qs us'->K (.nx (Rf k c n a b t z)) μ'):JC (calX (Cd) fs) (Rf k c n a b t z) μ K:=by
 refine⟨_,hs,?_⟩;have:=h.u.ln;refine Uu (e:=pI) h.s.swap x c (λ q hq=>z0j (h.u.ll q hq) (by omega)) (by omega) _ λ μ' us' s i=>hK μ' us' ⟨s.swap,h.q,h.u.ins hx i⟩
theorem s6 {μ:Mu}{N:Nat}{qs:List (Q Int)}{us:List (Q (Int×Int))}{K:KM}{k t:Int}{z:PV.Slot}(h:St μ a b N L N' L' qs us) (hN:N<=800) (hL:L<=800) (ht:Sm t) (hK:∀ μ' qs',St μ' a b N (L+1) N' L' qs' us->K (.nx (Rf k c n a b t z)) μ') :
  ifM [] (blF (bF (eqF false) (vF 0) (kF (.int 6)))) (JC (calX (Cd) (Aa (vF 3) (Aa (vF 1) (Aa (vF 5) (nilA)))))) (nxM) (Rf k c n a b t z) μ K:=by
 refine if_w (by rw[vw0];exact eqk 6) (λ _=>?_) λ _=>hK μ qs ⟨h.s,h.q.mono (by omega) (by omega),h.u⟩;exact pK h hN hL ht rfl hK
theorem s7 {μ:Mu}{N:Nat}{qs:List (Q Int)}{us:List (Q (Int×Int))}{K:KM}{k t:Int}{z:PV.Slot}(h:St μ a b N L N' L' qs us) (hN:N'<=800) (hL:L'<=800) (ht:Sm t) (hK:∀ μ' us',St μ' a b N L N' (L'+1) qs us'->K (.nx (Rf k c n a b t z)) μ') :
  ifM [] (blF (bF (eqF false) (vF 0) (kF (.int 7)))) (JC (calX (Cd) (Aa (vF 4) (Aa (vF 1) (Aa (tupF (Aa (vF 5) (Aa (kF (.int 0)) (nilA)))) (nilA)))))) (nxM) (Rf k c n a b t z) μ K:=by
 refine if_w (by rw[vw0];exact eqk 7) (λ _=>?_) λ _=>hK μ us ⟨h.s,h.q,h.u.mono (by omega) (by omega)⟩;exact jL h hN hL (x:=(t,0)) ⟨ht,Ib (k:=0) (by decide)⟩ rfl hK
theorem s8 {μ:Mu}{N:Nat}{qs:List (Q Int)}{us:List (Q (Int×Int))}{K:KM}{k t:Int}{z:PV.Slot}(h:St μ a b N L N' L' qs us) (hN:N'<=800) (hL:L'<=800) (ht:Sm t) (hn:Sm (n-1)) (hK:∀ μ' us',St μ' a b N L N' (L'+1) qs us'->K (.nx (Rf k c n a b t z)) μ') :
  ifM [] (andT (blF (bF (eqF false) (vF 0) (kF (.int 8)))) (blF (bF gtD (vF 2) (kF (.int 0))))) (JC (calX (Cd) (Aa (vF 4) (Aa (vF 1) (Aa (tupF (Aa (bF subD (vF 2) (kF (.int 1))) (Aa (vF 5) (nilA)))) (nilA)))))) (nxM) (Rf k c n a b t z) μ K:=by
 have e:=GD k 8;have v:vwM [] (andT (blF (bF (eqF false) (vF 0) (kF (.int 8)))) (blF (bF gtD (vF 2) (kF (.int 0))))) (Rf k c n a b t z) μ=some (decide (k=8)&&decide (0<n)):=by
  rw[vw0]
  by_cases x:k=8
  ·rw[z0h x] at e;rw[z0h x];simp only[ciK,e,Bool.true_and]
  ·rw[z0d x] at e;rw[z0d x];simp only[cK,e,Bool.false_and]
 refine if_w v (λ _=>?_) λ _=>hK μ us ⟨h.s,h.q,h.u.mono (by omega) (by omega)⟩;refine jL h hN hL (x:=(n-1,t)) ⟨hn,ht⟩ ?_ hK;simp only[ciK,GD]
def Bn (n:Int):Prop:=0<=n/\n<=6+10^59
theorem x59 (c:Int):0<=c/30%(10^59)/\c/30%(10^59)<10^59:=⟨z0E _ (by decide),z0L _ (by decide)⟩
theorem x59e (c:Int):modD (.int (c/30)) (.int (10^59))=some (.int (c/30%(10^59))):=Gf _ _ (by decide)
theorem my (n:Int):maxD (.int n) (.int 0)=some (.int (if 0 > n then 0 else n)):=zE_ _
theorem gK (k c n:Int) (hn:Bn n) (a b:Addr):∃ t,Sm t/\∃ t0,setF 5 (bF addD (bF maxD (vF 2) (kF (.int 0))) (bF modD (bF Bp (vF 1) (kF (.int 30))) (bF powD (kF (.int 10)) (kF (.int 59))))) [.fz (.int k),.fz (.int c),.fz (.int n),.fz (.adr a),.fz (.adr b),.un,.un]=some (.nx (Rf k c n a b t0 .un)) ∧
  ifS (blF (bF (eqF false) (bF modD (bF Bp (vF 1) (kF (.int 6))) (kF (.int 2))) (kF (.int 1)))) (setF 5 (bF subD (uF negD (kF (.int 1))) (bF modD (bF Bp (vF 1) (kF (.int 30))) (bF powD (kF (.int 10)) (kF (.int 59)))))) (nxF) (Rf k c n a b t0 .un)=some (.nx (Rf k c n a b t .un)):=by
 obtain⟨h0,h1⟩:=x59 c;have xe:=x59e c;obtain⟨n0,n1⟩:=hn;have me:=my n;rw[if_neg (by omega)] at me;have eq:=GD (c/6%2) 1;generalize hX:c/30%(10^59:Int)=X at *
 by_cases z:c/6%2=1
 ·rw[z0h z] at eq;refine⟨-1-X,XH _ (by omega),n+X,?_,?_⟩
  ·simp only[ciK,XF,me,xe]
  ·simp only[ciK,XF,xe,eq]
 ·rw[z0d z] at eq;refine⟨n+X,XH _ (by omega),n+X,?_,?_⟩
  ·simp only[ciK,XF,me,xe]
  ·simp only[ciK,eq]
theorem gO (k c n:Int) (hn:Bn n) (a b:Addr) (t:Int) (z:PV.Slot):∃ o,ifS (blF (bF (eqF false) (vF 0) (kF (.int 9)))) (retF (bF addD (kF (.int 6)) (bF modD (bF Bp (vF 1) (kF (.int 30))) (bF powD (kF (.int 10)) (kF (.int 59)))))) (nxF) (Rf k c n a b t z)=some o/\∀ (μ:Mu) (K:D->Mu->Prop),(∀ n',Bn n'->K (.int n') μ)->thM (puM (retF (vF 2))) (finM K) o μ:=by
 obtain⟨h0,h1⟩:=x59 c;have xe:=x59e c;have eq:=GD k 9;generalize hX:c/30%(10^59:Int)=X at *
 by_cases y:k=9
 ·rw[z0h y] at eq;refine⟨.rt (.int (6+X)) (Rf k c n a b t z),?_,λ μ K hK=>hK _ ⟨by omega,by omega⟩⟩;simp only[ciK,XF,xe,eq]
 ·rw[z0d y] at eq;refine⟨.nx (Rf k c n a b t z),?_,λ μ K hK=>⟨.rt (.int n) (Rf k c n a b t z),rfl,hK n hn⟩⟩;simp only[cK,eq]
theorem gP (hn:Bn n):Sm (n-1):=by
 obtain⟨n0,n1⟩:=hn;exact XH _ (by omega)
theorem sm_n (hn:Bn n):Sm n:=by
 obtain⟨n0,n1⟩:=hn;exact XH _ (by omega)
theorem UG (k c n:Int) (hn:Bn n) {μ:Mu}{a b:Addr}{N L N' L':Nat}{qs:List (Q Int)}{us:List (Q (Int×Int))}(h:St μ a b N L N' L' qs us) (b1:N<=100) (b2:L<=200) (b3:N'<=100) (b4:L'<=200) (l1:1<=L) (l2:1<=L') (K:D->Mu->Prop)
  (hK:∀ n' μ' qs' us',Bn n'->St μ' a b (N+5) (L+1) (N'+6) (L'+2) qs' us'->K (.int n') μ'):Fb [.int k,.int c,.int n,.adr a,.adr b] μ K:=by
 obtain⟨t,ht,t0,e1,e2⟩:=gK k c n hn a b;refine⟨rfl,_,e1,_,e2,?_⟩;refine s1 h (by omega) λ μ1 q1 z1 h1=>?_;refine s2 h1 (by omega) λ μ2 u2 z2 h2=>?_;refine s3 h2 (by omega) l1 ht λ μ3 q3 h3=>?_;refine s4 h3 (by omega) l2 ht λ μ4 u4 h4=>?_;refine s5 h4 (by omega) λ μ5 u5 h5=>?_;refine s6 h5 (by omega) (by omega) ht λ μ6 q6 h6=>?_;refine s7 h6 (by omega) (by omega) ht λ μ7 u7 h7=>?_;refine s8 h7 (by omega) (by omega) ht (gP hn) λ μ8 u8 h8=>?_;obtain⟨o,e9,f9⟩:=gO k c n hn a b t z2;exact⟨o,e9,f9 μ8 K λ n' hn'=>hK n' μ8 _ _ hn' ⟨h8.s,h8.q,h8.u⟩⟩
theorem gQ {α:Type} [DecidableEq α] (x:α) (l:List α):(l.any λ t=>decide (t=x))=decide (x∈l):=by
 rw[z0S,List.any_eq_true,z0K];exact⟨λ ⟨t,h,e⟩=>by rw[<-z0Z e];exact h,λ h=>⟨x,h,by simp⟩⟩
theorem in_i (x:Int) (l:List Int):inF false (.int x) (.lst (l.map .int))=some (.bl (decide (x∈l))):=by
 have h:∀ ys:List Int,flVs (ys.map D.int)=some (ys.map λ t=>V.int t):=λ ys=>by
  induction ys with
  | nil=>rfl
  | cons y r ih=>simp[flVs,flV,ih]
 show ((flV (.int x)).bind λ v=>(flVs (l.map D.int)).map λ vs=>D.bl (inV v vs))=_;rw[h];show some (D.bl (inV (.int x) (l.map λ t=>V.int t)))=_;have e:∀ t:Int,eqV (.int t) (.int x)=decide (t=x):=λ t=>by
  by_cases z:t=x
  ·subst z;simp[eqV]
  ·simp[eqV,z]
 simp only[inV,List.any_map,Function.comp_def,e,gQ]
theorem in_p (x y:Int) (l:List (Int×Int)):inF false (.tup [.int x,.int y]) (.lst (l.map pI))=some (.bl (decide ((x,y)∈l))):=by
 have k:∀ q:Int×Int,eqK 62 (pI q) (.tup [.int x,.int y])=some (decide (q=(x,y))):=λ q=>by
  have e:∀ a b:Int,eqK 61 (.int a) (.int b)=some (decide (a=b)):=λ a b=>by
   show some (eqV (.int a) (.int b))=_
   by_cases z:a=b
   ·subst z;simp[eqV]
   ·simp[eqV,z]
  show (if 2=2 then allO (eqK 61) [.int q.1,.int q.2] [.int x,.int y] else none)=_;rw[if_pos rfl];simp only[allO,e]
  by_cases z1:q.1=x
  ·by_cases z2:q.2=y
   ·have:q=(x,y):=by rw[<-z1,<-z2]
    simp[this]
   ·have:¬ q=(x,y):=λ w=>z2 (by rw[w]);simp[z1,z2,this]
  ·have:¬ q=(x,y):=λ w=>z1 (by rw[w]);simp[z1,this]
 have h1:(l.map pI).all (knows (.tup [.int x,.int y]))=true:=by
  rw[z0C];intro d hd;obtain⟨q,_,rfl⟩:=z0b.mp hd;unfold knows;rw[k q];rfl
 have h2:(l.map pI).any (eqTo (.tup [.int x,.int y]))=decide ((x,y)∈l):=by
  have e:∀ q,eqTo (.tup [.int x,.int y]) (pI q)=decide (q=(x,y)):=λ q=>by
   unfold eqTo;rw[k q]
  rw[List.any_map,z0S,List.any_eq_true,z0K];exact⟨λ ⟨t,h,z⟩=>by rw[<-z0Z (e t▸z:decide (t=(x,y))=true)];exact h,λ h=>⟨_,h,by show eqTo _ (pI (x,y))=true;rw[e];simp⟩⟩
 show (if (l.map pI).all (knows (.tup [.int x,.int y]))=true then some (D.bl ((l.map pI).any (eqTo (.tup [.int x,.int y])))) else none)=_;rw[if_pos h1,h2]
theorem bR (n:Int) (ms:List (Str×List Int)) (ts:List (Str×List (Int×Int))):fldD "size" (.ob "World" (wo n ms ts))=some (.int n):=rfl
theorem bT (n:Int) (ms:List (Str×List Int)) (ts:List (Str×List (Int×Int))):fldD "marked" (.ob "World" (wo n ms ts))=some (.dk (gM ms)):=by
 show List.lookup ("marked":Str) [(("size":Str),D.int n),("marked",.dk (gM ms)),("tied",.dk (gT ts))]=_;simp only[List.lookup,q1];rfl
theorem mz (n:Int) (ms:List (Str×List Int)) (ts:List (Str×List (Int×Int))):fldD "tied" (.ob "World" (wo n ms ts))=some (.dk (gT ts)):=by
 show List.lookup ("tied":Str) [(("size":Str),D.int n),("marked",.dk (gM ms)),("tied",.dk (gT ts))]=_;simp only[List.lookup,q2,q3];rfl
def mzO (c m:Str) (g:List D->Option D) (o:Option D) (ds:Option (List D)):Option D:=o.bind λ o=>if Jq c m o=true then ds.bind λ ds=>g (o::ds) else none
theorem XJ (c m:Str) (g:List D->Option D) (fo:FE) (fs:FA) (ρ:Rho):TY c m g fo fs ρ=mzO c m g (fo ρ) (fs ρ):=zE_ _
theorem jM {c:Str}{o:D}(h:Jq c m o=true):mzO c m g (some o) (some ds)=g (o::ds):=by
 show (if Jq c m o=true then _ else _)=_;rw[if_pos h];rfl
theorem pL (fs:FA) (fb:FE) (ρ:Rho):inTF fs fb ρ=inTO (fs ρ) (fb ρ):=zE_ _
theorem m5 (n:Int) (ms:List (Str×List Int)) (ts:List (Str×List (Int×Int))):Jq "World" "has" (.ob "World" (wo n ms ts))=true:=rfl
theorem bU (n:Int) (ms:List (Str×List Int)) (ts:List (Str×List (Int×Int))):Jq "World" "leads" (.ob "World" (wo n ms ts))=true:=rfl
theorem bV (n:Int) (h:0<n):Aj [.int n,.int 0]=some .non:=by
 have t:=M6 n 0 (Ib (k:=0) (by decide));have:thF n 0=none:=if_neg (by omega);unfold zT' at t;rw[this] at t;exact t
theorem m6 (n:Int) (hn:0<n) (ms:List (Str×List Int)) (ts:List (Str×List (Int×Int))) (nd:(ms.map (·.1)).Nodup) {p:Str×List Int}(hp:p∈ms):noX Ez [.ob "World" (wo n ms ts),.str p.1,.int 0]=some (.bl (decide ((0:Int)∈p.2))):=by
 have g:getK (.inr p.1:Key) (gM ms)=some (.dk (kD p.2)):=jG ms [] nd hp;have f1:=bR n ms ts;have f2:=bT n ms ts;have i1:inF true (.str p.1) (.dk (gM ms))=some (.bl false):=by rw[Jp,g];rfl
 have i2:ixE (.dk (gM ms)) (.str p.1)=some (.dk (kD p.2)):=g;have i3:inF false (.int 0) (.dk (kD p.2))=some (.bl (decide ((0:Int)∈p.2))):=by
  rw[Rb,kD,jC];rfl
 have zz:=bV n hn;have h:Ez [.ob "World" (wo n ms ts),.str p.1,.int 0]=some (.bl (decide ((0:Int)∈p.2))):=by
  simp only[cK,Ez,Hv,f1,f2,i1,De,zz,Lh,i2,i3]
 unfold noX;rw[h];rfl
theorem bW (n:Int) (hn:0<n) (ms:List (Str×List Int)) (ts:List (Str×List (Int×Int))) (nd:(ts.map (·.1)).Nodup) {p:Str×List (Int×Int)}(hp:p∈ts):noX Di [.ob "World" (wo n ms ts),.str p.1,.int 0,.int 0]=some (.bl (decide (((0:Int),(0:Int))∈p.2))):=by
 have g:getK (.inr p.1:Key) (gT ts)=some (.dt (kP p.2)):=jJ ts [] nd hp;have f1:=bR n ms ts;have f2:=mz n ms ts;have i1:inF true (.str p.1) (.dk (gT ts))=some (.bl false):=by rw[Jp,g];rfl
 have i2:ixE (.dk (gT ts)) (.str p.1)=some (.dt (kP p.2)):=g;have i3:inTO (some [.int 0,.int 0]) (some (.dt (kP p.2)))=some (.bl (decide (((0:Int),(0:Int))∈p.2))):=by
  have e:inTO (some [.int 0,.int 0]) (some (.dt (kP p.2)))=some (.bl ((getK [(.inl (0:Int):Key),.inl (0:Int)] (kP p.2)).isSome)):=by
   unfold inTO;simp only[z0a];rw[if_pos (Bw (by show 2<=10000000;decide))];rfl
  rw[e,kP,jD];rfl
 have zz:=bV n hn;have h:Di [.ob "World" (wo n ms ts),.str p.1,.int 0,.int 0]=some (.bl (decide (((0:Int),(0:Int))∈p.2))):=by
  simp only[cK,Di,Gj,f1,f2,i1,De,zz,Lh,i2,pL,i3]
 unfold noX;rw[h];rfl
theorem jN (b:Bool):eqD true (.bl b) (.bl b)=some (.bl false):=by cases b<;>rfl
theorem m7 (ms:List (Str×List Int)):HR (some (.dk (zM ms)))=some (ms.map λ p=>.str p.1):=by
 show some ((zM ms).map λ p=>kDt p.1)=_;rw[T3]
theorem m8 (ts:List (Str×List (Int×Int))):HR (some (.dk (zT ts)))=some (ts.map λ p=>.str p.1):=by
 show some ((zT ts).map λ p=>kDt p.1)=_;rw[T4]
theorem XM (n:Int) (hn:0<n) (ms:List (Str×List Int)) (ts:List (Str×List (Int×Int))) (nd:(ms.map (·.1)).Nodup):∀ (r:List (Str×List Int)) (z:PV.Slot),(∀ p∈r,p∈ms)->∃ z',forF (tgB (BW 4) Eb) (r.map λ p=>.str p.1) [.fz (.int n),.fz (.dk (zM ms)),.fz (.dk (zT ts)),.fz (.ob "World" (wo n ms ts)),z]=some (.nx [.fz (.int n),.fz (.dk (zM ms)),.fz (.dk (zT ts)),.fz (.ob "World" (wo n ms ts)),z'])
 | [],z,_=>⟨z,rfl⟩
 | p::r,z,h=>by
  have hp:=h p (by simp);obtain⟨z',ih⟩:=XM n hn ms ts nd r (.fz (.str p.1)) λ q hq=>h q (by simp[hq]);have hs:=m6 n hn ms ts nd hp;have g:ixE (.dk (zM ms)) (.str p.1)=some (.lst (p.2.map .int)):=R7 .int nd hp;have i:=in_i 0 p.2;have n0:=jN (decide ((0:Int)∈p.2));have ob:=m5 n ms ts;have b:Eb [.fz (.int n),.fz (.dk (zM ms)),.fz (.dk (zT ts)),.fz (.ob "World" (wo n ms ts)),.fz (.str p.1)]=some (.nx [.fz (.int n),.fz (.dk (zM ms)),.fz (.dk (zT ts)),.fz (.ob "World" (wo n ms ts)),.fz (.str p.1)]):=by
   simp only[cK,Eb,XJ,jM ob,hs,g,i,n0]
  refine⟨z',?_⟩
  w_up
  rw[b,Ep];exact ih
theorem XN (n:Int) (hn:0<n) (ms:List (Str×List Int)) (ts:List (Str×List (Int×Int))) (nd:(ts.map (·.1)).Nodup):∀ (r:List (Str×List (Int×Int))) (z:PV.Slot),(∀ p∈r,p∈ts)->∃ z',forF (tgB (BW 4) Ec) (r.map λ p=>.str p.1) [.fz (.int n),.fz (.dk (zM ms)),.fz (.dk (zT ts)),.fz (.ob "World" (wo n ms ts)),z]=some (.nx [.fz (.int n),.fz (.dk (zM ms)),.fz (.dk (zT ts)),.fz (.ob "World" (wo n ms ts)),z'])
 | [],z,_=>⟨z,rfl⟩
 | p::r,z,h=>by
  have hp:=h p (by simp);obtain⟨z',ih⟩:=XN n hn ms ts nd r (.fz (.str p.1)) λ q hq=>h q (by simp[hq]);have hs:=bW n hn ms ts nd hp;have g:ixE (.dk (zT ts)) (.str p.1)=some (.lst (p.2.map pI)):=R7 pI nd hp;have i:=in_p 0 0 p.2;have n0:=jN (decide (((0:Int),(0:Int))∈p.2));have ob:=bU n ms ts;have b:Ec [.fz (.int n),.fz (.dk (zM ms)),.fz (.dk (zT ts)),.fz (.ob "World" (wo n ms ts)),.fz (.str p.1)]=some (.nx [.fz (.int n),.fz (.dk (zM ms)),.fz (.dk (zT ts)),.fz (.ob "World" (wo n ms ts)),.fz (.str p.1)]):=by
   simp only[cK,Ec,XJ,jM ob,hs,g,i,n0]
  refine⟨z',?_⟩
  w_up
  rw[b,Ep];exact ih
theorem pM (gs:List (Str×D)):isoD "World" true (.ob "World" gs)=some (.bl true):=by
 show (if ("World":Str)="World" then some (D.bl true) else none)=_;rw[if_pos rfl]
theorem bY (isw:Str->Bool) (n:Int) (hn:Sm n) (ms:List (Str×List Int)) (ts:List (Str×List (Int×Int))) (nm:(ms.map (·.1)).Nodup) (nt:(ts.map (·.1)).Nodup) (hM:∀ p∈ms,RowM isw p) (hT:∀ p∈ts,RowT isw p) (lm:ms.length<=20) (lt:ts.length<=20) (hf:flt isw n ms ts=none) :
  Ed [.int n,.dk (zM ms),.dk (zT ts)]=some (.bl true):=by
 have mk:=W7 isw n hn ms ts hM hT lm lt;rw[hf] at mk;replace mk:Bf [.int n,.dk (zM ms),.dk (zT ts)]=some (.ob "World" (wo n ms ts)):=mk;have is:=pM (wo n ms ts);have km:=m7 ms;have kt:=m8 ts
 by_cases h0:0<n
 ·obtain⟨z1,l1⟩:=XM n h0 ms ts nm ms .un λ _ h=>h;obtain⟨z2,l2⟩:=XN n h0 ms ts nt ts z1 λ _ h=>h;simp only[ciK,Ed,FW,mk,is,h0,Dh,km,kt,l1,l2]
 ·simp only[ciK,Ed,FW,mk,is,h0]
def isw (w:Str):Bool:=!(w=="Red")&&!(w=="near to")
theorem pO {x:Str}(h:Wd x):okSD (.str x)=true:=by
 have l26:∀ c∈cs LET,c<4294967296:=by decide +kernel
 show (decide (x.length<=100000)&&x.cps.toList.all λ c=>decide (c<4294967296))=true;rw[z0q,z0K,z0C];exact⟨by have:=h.hi;omega,λ c hc=>z0h (l26 c (h.isL c hc))⟩
theorem R8 {x:Str}(h:Wd x):isw x=true:=by
 have a:¬ x="Red":=λ e=>by
  have z:=h.isL 82 (by rw[e];decide +kernel)
  revert z
  decide +kernel
 have b:¬ x="near to":=λ e=>by
  have z:=h.isL 32 (by rw[e];decide +kernel)
  revert z
  decide +kernel
 unfold isw;simp[a,b]
theorem XQ:isw "Red"=false:=by decide +kernel
theorem UJ:isw "near to"=false:=by decide +kernel
theorem gw_w {w:Str}(h:gw w):BL [.str w]=some (.bl (isw w)):=by
 rcases h with h | h | h
 ·rw[R8 h];exact gA h
 ·subst h;rw[XQ];exact pA
 ·subst h;rw[UJ];exact mO
theorem gw_l {w:Str}(h:gw w):Ar [.str w]=some (.bl (isw w)):=by
 rcases h with h | h | h
 ·rw[R8 h];exact bC h.isL
 ·subst h;rw[XQ];exact pB
 ·subst h;rw[UJ];exact mQ
theorem XR {w:Str}(h:gw w):okSD (.str w)=true:=by
 rcases h with h | h | h
 ·exact pO h
 ·subst h;decide +kernel
 ·subst h;decide +kernel
theorem bZ {α:Type}{e:α->D}{μ:Mu}(he:∀ x,der 4 μ (e x)=e x) (ls:List (Str×List α)):der 6 μ (.dk (zE e ls))=.dk (zE e ls):=by
 show D.dk ((zE e ls).map λ p=>(p.1,der 5 μ p.2))=_;congr 1;unfold zE;rw[z0i];refine List.map_congr_left λ p _=>?_;show ((.inr p.1:Key),D.lst ((p.2.map e).map (der 4 μ)))=_;rw[z0i,show (der 4 μ ∘ e)=e from funext he];rfl
theorem bc {α:Type}{e:α->D}{μ:Mu}(he:∀ x,der 2 μ (e x)=e x) {a:Addr}{qs:List (Q α)}(h:Dc e μ a qs):der 6 μ (.adr a)=.dk (zE e (qs.map wl)):=by
 show (match μ.lookup a with | some c=>der 5 μ c | none=>.adr a)=_;rw[h.at_];show D.dk ((kQ qs).map λ p=>(p.1,der 4 μ p.2))=_;congr 1;unfold kQ zE;rw[z0i,z0i];refine List.map_congr_left λ q hq=>?_;show ((.inr q.w:Key),(match μ.lookup q.a with | some c=>der 3 μ c | none=>.adr q.a))=_;rw[h.row q hq];show ((.inr q.w:Key),D.lst ((q.l.map e).map (der 2 μ)))=_;rw[z0i,show (der 2 μ ∘ e)=e from funext he];rfl
theorem m9 (μ:Mu) (ns:List Int):der 6 μ (.lst (ns.map .int))=.lst (ns.map .int):=by
 show D.lst ((ns.map D.int).map (der 5 μ))=_;rw[z0i];rfl
theorem St.rM {μ:Mu}{N:Nat}{qs:List (Q Int)}{us:List (Q (Int×Int))}(h:St μ a b N L N' L' qs us) (hL:L<=900):∀ p∈qs.map wl,RowM isw p:=λ p hp=>by
 obtain⟨q,hq,rfl⟩:=z0b.mp hp;have g:=h.q.gw q.w (z0b.mpr ⟨q,hq,rfl⟩);exact⟨gw_w g,XR g,h.q.pp q hq,z0j (h.q.ll q hq) hL⟩
theorem St.rT {μ:Mu}{N:Nat}{qs:List (Q Int)}{us:List (Q (Int×Int))}(h:St μ a b N L N' L' qs us) (hL:L'<=900):∀ p∈us.map wl,RowT isw p:=λ p hp=>by
 obtain⟨q,hq,rfl⟩:=z0b.mp hp;have g:=h.u.gw q.w (z0b.mpr ⟨q,hq,rfl⟩);exact⟨gw_w g,XR g,h.u.pp q hq,z0j (h.u.ll q hq) hL⟩
theorem ekI (i:Int):eqK 180 (.int i) (.int i)=some true:=by
 show some (eqV (.int i) (.int i))=_;simp[eqV]
theorem ekS (w:Str):eqK 180 (.str w) (.str w)=some true:=by
 show some (eqV (.str w) (.str w))=_;simp[eqV]
theorem XS:∀ xs:List D,(∀ x∈xs,eqK 180 x x=some true)->allO (eqK 180) xs xs=some true
 | [],_=>rfl
 | x::r,h=>by
  have ih:=XS r λ y hy=>h y (by simp[hy]);have hx:=h x (by simp);unfold allO;rw[ih,hx];rfl
theorem ne_l (xs:List D) (h:∀ x∈xs,eqK 180 x x=some true):eqD true (.lst xs) (.lst xs)=some (.bl false):=by
 have:eqvD (.lst xs) (.lst xs)=some true:=by
  show (if xs.length=xs.length then allO (eqK 180) xs xs else some false)=_;rw[if_pos rfl,XS xs h]
 unfold eqD;rw[this];rfl
theorem m_ (f:Option Fl):eqD true (dueL f) (dueL f)=some (.bl false):=by
 cases f with
 | none=>
  refine ne_l [.str "made"] λ x hx=>?_;simp only[z06,List.not_mem_nil,or_false] at hx;subst hx;exact ekS _
 | some f=>
  cases f with
  | great a b=>
   refine ne_l [.str "great",.int a,.int b] λ x hx=>?_;simp only[z06,List.not_mem_nil,or_false] at hx
   rcases hx with rfl | rfl | rfl
   ·exact ekS _
   ·exact ekI _
   ·exact ekI _
  | word w=>
   refine ne_l [.str "word",.str w] λ x hx=>?_;simp only[z06,List.not_mem_nil,or_false] at hx
   rcases hx with rfl | rfl
   ·exact ekS _
   ·exact ekS _
  | thing t=>
   refine ne_l [.str "thing",.int t] λ x hx=>?_;simp only[z06,List.not_mem_nil,or_false] at hx
   rcases hx with rfl | rfl
   ·exact ekS _
   ·exact ekI _
theorem pP (ms:List (Str×List Int)) (w:Str):inF false (.str w) (.dk (zM ms))=some (.bl (decide (w∈ms.map (·.1)))):=by
 rw[Jp];have:(getK (.inr w:Key) (zM ms)).isSome=decide (w∈ms.map (·.1)):=by
  induction ms with
  | nil=>rfl
  | cons p r ih=>
   unfold zM at ih ⊢;rw[z04,z04];unfold getK
   by_cases c:p.1=w
   ·subst c;simp
   ·have c1:¬ (.inr p.1:Key)=.inr w:=λ z=>c (Sum.inr.inj z);have c2:¬ w=p.1:=λ z=>c z.symm;rw[if_neg c1,ih];simp[c2]
 rw[this];rfl
theorem same {μ:Mu}{N:Nat}{qs:List (Q Int)}{us:List (Q (Int×Int))}(h:St μ a b N L N' L' qs us) (b1:N<=20) (b2:L<=900) (b3:N'<=20) (b4:L'<=900) (n:Int) (hn:Bn n) :
  ∃ (o:D) (f:Option Fl),Bf [.int n,.dk (zE .int (qs.map wl)),.dk (zE pI (us.map wl))]=some o/\CT [o]=some (dueL f)/\Ce [.int n,.dk (zE .int (qs.map wl)),.dk (zE pI (us.map wl))]=some (dueL f):=by
 have rM:=h.rM b2;have rT:=h.rT b4;have l1:=h.q.ln;have l2:=h.u.ln;have mk:=W7 isw n (sm_n hn) _ _ rM rT (by rw[z01];omega) (by rw[z01];omega);have w1:(qs.map wl).map (·.1)=qs.map (·.w):=by rw[z0i];rfl
 have w2:(us.map wl).map (·.1)=us.map (·.w):=by rw[z0i];rfl
 have du:=mW isw n (qs.map wl) (us.map wl) (by rw[w1];exact h.q.nd) (by rw[w2];exact h.u.nd) (λ p hp=>gw_l (h.q.gw p.1 (by rw[<-w1];exact z0b.mpr ⟨p,hp,rfl⟩))) λ p hp=>⟨gw_l (h.u.gw p.1 (by rw[<-w2];exact z0b.mpr ⟨p,hp,rfl⟩)),pP _ _⟩;exact⟨_,_,mk,gF _ _,du⟩
abbrev Rl (ns:List Int) (n:Int) (ms:List (Str×List Int)) (ts:List (Str×List (Int×Int))) (z4 z5 z6 z7:PV.Slot):Rho:=[.fz (.lst (ns.map .int)),.fz (.int n),.fz (.dk (zE .int ms)),.fz (.dk (zE pI ts)),z4,z5,z6,z7]
structure Wo (n:Int) (ms:List (Str×List Int)) (ts:List (Str×List (Int×Int))):Prop where
 n0:0<=n
 n5:n<=5
 lm:ms.length<=3
 lt:ts.length<=3
 nm:(ms.map (·.1)).Nodup
 nt:(ts.map (·.1)).Nodup
 wm:∀ p∈ms,Wd p.1/\p.2.length<=100
 wt:∀ p∈ts,Wd p.1/\p.2.length<=100
 mt:∀ p∈ms,∀ t∈p.2,0<=t/\t<n
 tt:∀ p∈ts,∀ t∈p.2,0<=t.1/\t.1<n/\0<=t.2/\t.2<n
 ds:∀ p∈ts,p.1∉ms.map (·.1)
theorem Wo.bn (h:Wo n ms ts):Bn n:=⟨h.n0,Int.le_trans h.n5 (by decide)⟩
theorem Gv {t:Int}(h0:0<=t) (h1:t<100):Sm t:=by
 obtain⟨k,rfl⟩:∃ k:Nat,t=(k:Int):=⟨t.toNat,by omega⟩;exact Ib (by omega)
theorem wl_w {α:Type}(qs:List (Q α)):(qs.map wl).map (·.1)=qs.map (·.w):=by rw[z0i];rfl
theorem iv_M (h:Wo n ms ts) {qs:List (Q Int)}(e:qs.map wl=ms):Iv Sm 3 100 qs:=by
 subst e;have n5:=h.n5;have hm:∀ q∈qs,wl q∈qs.map wl:=λ q hq=>z0b.mpr ⟨q,hq,rfl⟩;refine⟨by rw[<-wl_w];exact h.nm,by have:=h.lm;simpa using this,λ w hw=>?_,λ q hq=>(h.wm _ (hm q hq)).2,λ q hq y hy=>?_⟩
 ·obtain⟨q,hq,rfl⟩:=z0b.mp hw;exact Or.inl (h.wm _ (hm q hq)).1
 ·have:=h.mt _ (hm q hq) y hy;exact Gv this.1 (by omega)
theorem iv_T (h:Wo n ms ts) {us:List (Q (Int×Int))}(e:us.map wl=ts):Iv Sm2 3 100 us:=by
 subst e;have n5:=h.n5;have hm:∀ q∈us,wl q∈us.map wl:=λ q hq=>z0b.mpr ⟨q,hq,rfl⟩;refine⟨by rw[<-wl_w];exact h.nt,by have:=h.lt;simpa using this,λ w hw=>?_,λ q hq=>(h.wt _ (hm q hq)).2,λ q hq y hy=>?_⟩
 ·obtain⟨q,hq,rfl⟩:=z0b.mp hw;exact Or.inl (h.wt _ (hm q hq)).1
 ·have:=h.tt _ (hm q hq) y hy;exact⟨Gv this.1 (by omega),Gv this.2.2.1 (by omega)⟩
theorem pQ {ns:List Int}{m:Int}{μ:Mu}{N:Nat}{qs:List (Q Int)}{us:List (Q (Int×Int))}(h:St μ a b N L N' L' qs us) :
  (Rl ns n ms ts (.fz (.int c)) (.fz (.adr a)) (.fz (.adr b)) (.fz (.int m))).map (derS 6 μ)=Rl ns n ms ts (.fz (.int c)) (.fz (.dk (zE .int (qs.map wl)))) (.fz (.dk (zE pI (us.map wl)))) (.fz (.int m)):=by
 have e1:=m9 μ ns;have e2:=bZ (e:=D.int) (μ:=μ) (λ _=>rfl) ms;have e3:=bZ (e:=pI) (μ:=μ) (λ _=>rfl) ts;have e4:=bc (e:=D.int) (λ _=>rfl) h.s.A;have e5:=bc (e:=pI) (λ _=>rfl) h.s.B;show [PV.Slot.fz (der 6 μ (.lst (ns.map .int))),.fz (.int n),.fz (der 6 μ (.dk (zE .int ms))),.fz (der 6 μ (.dk (zE pI ts))),.fz (.int c),.fz (der 6 μ (.adr a)),.fz (der 6 μ (.adr b)),.fz (.int m)]=_;rw[e1,e2,e3,e4,e5]
theorem XX {ns:List Int}{m:Int}{μ:Mu}{N:Nat}{qs:List (Q Int)}{us:List (Q (Int×Int))}(h:St μ a b N L N' L' qs us) (b1:N<=20) (b2:L<=900) (b3:N'<=20) (b4:L'<=900) (hm:Bn m) (K:KM) (hK:∀ z5 z6 z7,K (.nx (Rl ns n ms ts (.fz (.int c)) z5 z6 z7)) []) :
  frzM 6 (puM (ifS (blF (bF (eqD true) (Am (CT) (Aa (Am (Bf) (Aa (vF 7) (Aa (vF 5) (Aa (vF 6) (nilA))))) (nilA))) (Am (Ce) (Aa (vF 7) (Aa (vF 5) (Aa (vF 6) (nilA))))))) (retF (kF (.bl false))) (nxF))) (Rl ns n ms ts (.fz (.int c)) (.fz (.adr a)) (.fz (.adr b)) (.fz (.int m))) μ K:=by
 obtain⟨o,f,e1,e2,e3⟩:=same h b1 b2 b3 b4 m hm;have e4:=m_ f;show puM _ ((Rl ns n ms ts (.fz (.int c)) (.fz (.adr a)) (.fz (.adr b)) (.fz (.int m))).map (derS 6 μ)) [] K;rw[pQ h];refine⟨.nx (Rl ns n ms ts (.fz (.int c)) (.fz (.dk (zE .int (qs.map wl)))) (.fz (.dk (zE pI (us.map wl)))) (.fz (.int m))),?_,hK _ _ _⟩;simp only[cK,e1,e2,e3,e4]
theorem nC (h:Wo n ms ts) {a b:Addr}{qs:List (Q Int)}{us:List (Q (Int×Int))}{μ1 μ2:Mu}(eq:qs.map wl=ms) (A:Dc .int μ1 a qs) (aq:∀ q∈qs,q.a≠a) (eu:us.map wl=ts) (B:Dc pI μ2 b us) (bu:∀ u∈us,u.a≠b) (nb:b∉ksM μ1) (nu:∀ u∈us,u.a∉ksM μ1) (fr:∀ x∈ksM μ1,μ2.lookup x=μ1.lookup x):St μ2 a b 3 100 3 100 qs us:=by
 have ha:=Cj A.at_;have hq:=λ q (hq:q∈qs)=>Cj (A.row q hq);refine⟨⟨A.frame (fr a ha) λ q h=>fr _ (hq q h),B,λ z=>nb (z▸ha),aq,λ u hu z=>nu u hu (z▸ha),λ q h z=>nb (z▸hq q h),bu,λ q h u hu z=>nu u hu (z▸hq q h)⟩,iv_M h eq,iv_T h eu⟩
theorem gR (h:Wo n ms ts) (ns:List Int) (c:Int) (z5 z6 z7:PV.Slot) (K:KM) (hK:∀ z5 z6 z7,K (.nx (Rl ns n ms ts (.fz (.int c)) z5 z6 z7)) []):Rm (Rl ns n ms ts (.fz (.int c)) z5 z6 z7) [] K:=by
 have lm:=h.lm;have lt:=h.lt;refine⟨[.dk (zE .int ms)],rfl,?_⟩;refine W9 .int ms h.nm (by omega) [] _ λ a qs μ1 eq A aq _ _ _=>?_;refine⟨[.dk (zE pI ts)],rfl,?_⟩;refine W9 pI ts h.nt (by omega) μ1 _ λ b us μ2 eu B bu nb nu fr=>?_;have s0:=nC h eq A aq eu B bu nb nu fr;have a1:(Aa (bF addD (kF (.int 1)) (bF modD (vF 4) (kF (.int 9)))) (Aa (bF Bp (vF 4) (kF (.int 9))) (Aa (vF 1) (Aa (vF 5) (Aa (vF 6) (nilA)))))) (Rl ns n ms ts (.fz (.int c)) (.fz (.adr a)) (.fz (.adr b)) z7)=some [.int (1+c%9),.int (c/9),.int n,.adr a,.adr b]:=by simp only[ciK,GD]
 refine⟨_,a1,?_⟩;refine UG _ _ n h.bn s0 (by omega) (by omega) (by omega) (by omega) (by omega) (by omega) _ λ n' μ3 qs' us' hn' s1=>?_;have v:vwM [] (blF (bF (eqD false) (bF modD (bF Bp (vF 4) (kF (.int 9))) (kF (.int 3))) (kF (.int 1)))) (Rl ns n ms ts (.fz (.int c)) (.fz (.adr a)) (.fz (.adr b)) (.fz (.int n'))) μ3=some (decide (c/9%3=1)):=by
  rw[vw0];simp only[ciK,GD]
 refine if_w v (λ _=>?_) λ _=>XX s1 (by omega) (by omega) (by omega) (by omega) hn' K hK;have a2:(Aa (bF addD (kF (.int 1)) (bF modD (bF Bp (vF 4) (kF (.int 27))) (kF (.int 9)))) (Aa (bF Bp (vF 4) (kF (.int 243))) (Aa (vF 7) (Aa (vF 5) (Aa (vF 6) (nilA)))))) (Rl ns n ms ts (.fz (.int c)) (.fz (.adr a)) (.fz (.adr b)) (.fz (.int n')))=some [.int (1+c/27%9),.int (c/243),.int n',.adr a,.adr b]:=by simp only[ciK,GD]
 refine⟨_,a2,?_⟩;refine UG _ _ n' hn' s1 (by omega) (by omega) (by omega) (by omega) (by omega) (by omega) _ λ n2 μ4 q2 u2 hn2 s2=>?_;exact XX s2 (by omega) (by omega) (by omega) (by omega) hn2 K hK
theorem Xa {n:Int}{ms:List (Str×List Int)}{ts:List (Str×List (Int×Int))}(h:Wo n ms ts) (ns:List Int) (K:KM) (hK:∀ z4 z5 z6 z7,K (.nx (Rl ns n ms ts z4 z5 z6 z7)) []):∀ (cl:List Int) (z4 z5 z6 z7:PV.Slot),QC (BW 4) Rm (cl.map .int) (Rl ns n ms ts z4 z5 z6 z7) [] K
 | [],z4,z5,z6,z7=>hK z4 z5 z6 z7
 | c::r,z4,z5,z6,z7=>by
  refine⟨Rl ns n ms ts (.fz (.int c)) z5 z6 z7,rfl,?_⟩;exact gR h ns c z5 z6 z7 _ λ y5 y6 y7=>Xa h ns K hK r (.fz (.int c)) y5 y6 y7
def cM (ms:List (Str×List Nat)):List (Str×List Int):=ms.map λ p=>(p.1,p.2.map λ (t:Nat)=>(t:Int))
def cT (ts:List (Str×List (Nat×Nat))):List (Str×List (Int×Int)):=ts.map λ p=>(p.1,p.2.map λ q=>((q.1:Int),(q.2:Int)))
theorem eM_z (ms:List (Str×List Nat)):eM ms=zE .int (cM ms):=by
 unfold eM zE cM;rw[z0i];refine List.map_congr_left λ p _=>?_;show ((.inr p.1:Key),D.lst (p.2.map iN))=(.inr p.1,D.lst ((p.2.map λ (t:Nat)=>(t:Int)).map D.int));rw[z0i];rfl
theorem eT_z (ts:List (Str×List (Nat×Nat))):eT ts=zE pI (cT ts):=by
 unfold eT zE cT;rw[z0i];refine List.map_congr_left λ p _=>?_;show ((.inr p.1:Key),D.lst (p.2.map pN))=(.inr p.1,D.lst ((p.2.map λ q=>((q.1:Int),(q.2:Int))).map pI));rw[z0i];rfl
theorem cM_w (ms:List (Str×List Nat)):(cM ms).map (·.1)=ms.map (·.1):=by unfold cM;rw[z0i];rfl
theorem cT_w (ts:List (Str×List (Nat×Nat))):(cT ts).map (·.1)=ts.map (·.1):=by unfold cT;rw[z0i];rfl
theorem pR {W:Wl}(h:WOk W):Wo (W.n:Int) (cM W.ms) (cT W.ts):=by
 have n5:=h.n5;have nd:=List.nodup_append.mp h.nd;refine⟨by omega,by omega,by have:=h.m3;simpa [cM] using this,by have:=h.t3;simpa [cT] using this,by rw[cM_w];exact nd.1,by rw[cT_w];exact nd.2.1,λ p hp=>?_,λ p hp=>?_,λ p hp t ht=>?_,λ p hp t ht=>?_,λ p hp hm=>?_⟩
 ·obtain⟨q,hq,rfl⟩:=z0b.mp hp;exact⟨h.mw q hq,by rw[z01];exact (h.ml q hq).2.1⟩
 ·obtain⟨q,hq,rfl⟩:=z0b.mp hp;exact⟨h.tw q hq,by rw[z01];exact (h.tl q hq).2.1⟩
 ·obtain⟨q,hq,rfl⟩:=z0b.mp hp;obtain⟨x,hx,rfl⟩:=z0b.mp ht;have:=(h.ml q hq).2.2 x hx;omega
 ·obtain⟨q,hq,rfl⟩:=z0b.mp hp;obtain⟨x,hx,rfl⟩:=z0b.mp ht;have:=(h.tl q hq).2.2 x hx;show 0<=(x.1:Int)/\(x.1:Int)<W.n/\0<=(x.2:Int)/\(x.2:Int)<W.n;omega
 ·rw[cM_w] at hm;refine nd.2.2 p.1 hm p.1 ?_ rfl;rw[<-cT_w];exact z0b.mpr ⟨p,hp,rfl⟩
theorem R9 {t:Int}(h:0<=t/\t<n):thF n t=none:=if_neg (by omega)
theorem bf (h:Wo n ms ts):flt isw n ms ts=none:=by
 have n5:=h.n5;have lm:=h.lm;have lt:=h.lt;have fM:ms.findSome? (roM isw n)=none:=by
  rw[List.findSome?_eq_none_iff];intro p hp;unfold roM;rw[if_pos (R8 (h.wm p hp).1),List.findSome?_eq_none_iff];exact λ t ht=>R9 (h.mt p hp t ht)
 have fT:ts.findSome? (roT isw (ms.map (·.1)) n)=none:=by
  rw[List.findSome?_eq_none_iff];intro p hp;unfold roT;rw[if_pos ⟨R8 (h.wt p hp).1,h.ds p hp⟩,List.findSome?_eq_none_iff];intro t ht;obtain⟨a,b,c,d⟩:=h.tt p hp t ht;unfold prF;rw[R9 ⟨a,b⟩];exact R9 ⟨c,d⟩
 unfold flt;rw[if_neg (by omega),if_neg (by omega),if_neg (by omega),fM];exact fT
theorem Wo.rM (h:Wo n ms ts):∀ p∈ms,RowM isw p:=λ p hp=>by
 have g:gw p.1:=Or.inl (h.wm p hp).1;have n5:=h.n5;exact⟨gw_w g,XR g,λ t ht=>by have:=h.mt p hp t ht;exact Gv this.1 (by omega),by have:=(h.wm p hp).2;omega⟩
theorem Wo.rT (h:Wo n ms ts):∀ p∈ts,RowT isw p:=λ p hp=>by
 have g:gw p.1:=Or.inl (h.wt p hp).1;have n5:=h.n5;exact⟨gw_w g,XR g,λ t ht=>by have:=h.tt p hp t ht;exact⟨Gv this.1 (by omega),Gv this.2.2.1 (by omega)⟩,by have:=(h.wt p hp).2;omega⟩
theorem gU {α β:Type}(f:α->β) (l:List α) (lo hi:Option Int):cutD (l.map f) lo hi=(cutD l lo hi).map f:=by
 unfold cutD;simp
theorem gW (ns:List Int) (lo hi:Option Int):slD (.lst (ns.map .int)) lo hi=some (.lst ((cutD ns lo hi).map .int)):=by
 show some (D.lst (cutD (ns.map D.int) lo hi))=_;rw[gU]
theorem bh:∀ ns:List Int,ns.length<=63->(∀ i∈ns,Builtin.Int.intBits i<=1048576)->Tp [.lst (ns.map .int)]=some (.bl true):=by
 intro ns hn _;obtain⟨W,hW,e⟩:=bH ns;have h:=pR hW;rw[eM_z,eT_z] at e;have sl:=gW ns (some 8) (some 40);have fi:=bY isw (W.n:Int) (sm_n h.bn) _ _ h.nm h.nt h.rM h.rT (by have:=h.lm;omega) (by have:=h.lt;omega) (bf h);rw[zE_M,zE_T] at fi;have cl:(cutD ns (some 8) (some 40)).length<=ns.length:=by
  show ((ns.drop _).take _).length<=_;rw[z0T,z0W];omega
 have cat:addD (.lst [.int 21]) (.lst ((cutD ns (some 8) (some 40)).map .int))=some (.lst ((21::cutD ns (some 8) (some 40)).map .int)):=by
  rw[jr (by simp;omega)];rfl
 have wp:runM 8 1 ao [.lst (ns.map .int)] [] λ d' _=>d'=.bl true:=by
  refine⟨rfl,?_⟩;have as:asgF (Am DW (Aa (vF 0) (Aa (kF (.int 0)) nilA))) (tupG 3 (Bq 1 (Bq 2 (Bq 3 nilG)))) [.fz (.lst (ns.map .int)),.un,.un,.un,.un,.un,.un,.un]=some (.nx (Rl ns (W.n:Int) (cM W.ms) (cT W.ts) .un .un .un .un)):=by
   have c:Am DW (Aa (vF 0) (Aa (kF (.int 0)) nilA)) [.fz (.lst (ns.map .int)),.un,.un,.un,.un,.un,.un,.un]=some (.lst [.int (W.n:Int),.dk (zE .int (cM W.ms)),.dk (zE pI (cT W.ts))]):=by simp only[cK,e]
   unfold asgF;rw[c];rfl
  refine⟨_,as,?_⟩;refine⟨(21::cutD ns (some 8) (some 40)).map .int,?_,?_⟩
  ·have:(bF addD (lstF (Aa (kF (.int 21)) (nilA))) (slF (vF 0) (someO (kF (.int 8))) (someO (kF (.int 40))))) (Rl ns (W.n:Int) (cM W.ms) (cT W.ts) .un .un .un .un)=some (.lst ((21::cutD ns (some 8) (some 40)).map .int)):=by simp only[cK,sl,cat]
   rw[Dh,this,Er]
  ·refine Xa h ns _ (λ z4 z5 z6 z7=>?_) _ .un .un .un .un;refine⟨.rt (.bl true) (Rl ns (W.n:Int) (cM W.ms) (cT W.ts) z4 z5 z6 z7),?_,rfl⟩;simp only[cK,fi]
 obtain⟨d,h1,h2⟩:=fO (P:=iw) wp rfl;rw[show Tp [.lst (ns.map .int)]=some d from h1,show d=.bl true from h2]
end K03
end
open PySem PySem.W PyProof.Rows
theorem L2.head_at {r:OpenRow}{q:Program}{d:DefRec}{kwd:List (Str×Expr)}{N:Nat}(H:Hook)
  (l1:LeftO r.prog q loose (λ s=>xlAt q [] s&&recOk r.records s) H.obs H.val N)
  (e1:defOf q r.name=some (d,kwd)) (e2:r.prog.theDef r.name=some (d.params,d.body,d.scope)) (e3:kwWritten? d.params.kwonlyargs d.params.kw_defaults=some kwd)
  (e4:(!r.writes||r.records.isEmpty)=true) (e5:r.wellSaid=true) (e6:(chainsOk q&&opensWell r.prog&&(frees r.toRowW&&r.within.isEmpty))=true) (e7:r.prog.bare) (e8:r.toRowW.promised)
  (e9:WalkO q loose (XL q []) H.says r.toRowW d kwd λ f vs=>PySem.call f vs):r.Holds:=
 holds_open (XP:=XL q []) l1 H.of H.keeps (λ s e=>xl_of s (Bool.and_eq_true_iff.mp e).1) XL.keeps e1 e2 e3 (λ _ e=>recFacts_of (Bool.and_eq_true_iff.mp e).2) e4 e5 e6 e7 e8 e9
set_option maxHeartbeats 0 in
theorem PySem.Challenge.cw_twinrounds_k03_no_world_holds : PySem.Challenge.rw_twinrounds_k03_no_world.Holds := by
 w_on;o_law;refine L2.head_at (q:=K03.vw) (loose:=[]) (N:=6000) K03.hook K03.look (by rfl) (by rfl) (by rfl) (by rfl) (by assumption) (by decide +kernel) ⟨rfl,rfl,rfl,rfl,rfl,by decide +kernel⟩ ?_ ?_
 ·w_witness2
 unfold K03.hook
 k_fill
 refine PV.Zx (l:=PySem.Challenge.rw_twinrounds_k03_no_world) (n:=63) (k:=9) (x:="_law_script") (CX:=λ _=>L2.CX0) (sp:=λ w=>K03.i_ _) rfl (by decide) rfl ⟨rfl,by decide,by decide⟩ (λ w h Y=>PySem.W.kIn_of Y) ?F (λ _ _ a ns hl hbt _ hS=>⟨a,ns,rfl,hS,hl,hbt,λ _=>rfl⟩) λ _ _ _ _ _ z=>z
 case F=>
  intro w mg fa h KX G hmg;have TT:∃ C_World:Addr,∃ l:List (Str×Addr),∃ T:K03.Tx (K03.gx (L2.KOf KX) C_World l) mg,∀ (s:Shared) (u:Value),BindsTo s T.x_law.fd ⟨[u],[]⟩ [("_law_script",u)]:=by
   dsimp only [L2.KOf];refine' ⟨_,[("NoWord",_),("NoThing",_),("TooGreat",_)],{ C_World:=_,gc_World:=PV.lN,cl_World:=(PV.cls KX ?pg_World ?hd_World ?po_World ?sa_World :),mC_World:=z12 KX G ?aC_World,x__law_cell:=(PV.dx KX G ?a0 ?l0 ?c0 ?k0 ?b0 :),x__law_words:=(PV.dx KX G ?a1 ?l1 ?c1 ?k1 ?b1 :),x__law_bits:=(PV.dx KX G ?a2 ?l2 ?c2 ?k2 ?b2 :),x__law_world:=(PV.dx KX G ?a3 ?l3 ?c3 ?k3 ?b3 :),x_refuse_above:=(PV.dx KX G ?a4 ?l4 ?c4 ?k4 ?b4 :),x_refuse_no_thing:=(PV.dx KX G ?a5 ?l5 ?c5 ?k5 ?b5 :),x_kept_things:=(PV.dx KX G ?a6 ?l6 ?c6 ?k6 ?b6 :),x_kept_pairs:=(PV.dx KX G ?a7 ?l7 ?c7 ?k7 ?b7 :),x_is_word:=(PV.dx KX G ?a8 ?l8 ?c8 ?k8 ?b8 :),x_World___init__:=(PV.ix KX ?mk_World ?kc_World ?a9 ?i9 ?l9 ?c9 ?k9 ?b9 :),x__law_made:=(PV.dx KX G ?a10 ?l10 ?c10 ?k10 ?b10 :),x_World_has:=(PV.mx KX ?a11 ?i11 ?l11 ?c11 ?k11 ?b11 :),x_World_leads:=(PV.mx KX ?a12 ?i12 ?l12 ?c12 ?k12 ?b12 :),x__law_first:=(PV.dx KX G ?a13 ?l13 ?c13 ?k13 ?b13 :),x__law_copy:=(PV.dx KX G ?a14 ?l14 ?c14 ?k14 ?b14 :),x__law_put:=(PV.dx KX G ?a15 ?l15 ?c15 ?k15 ?b15 :),x__law_fault:=(PV.dx KX G ?a16 ?l16 ?c16 ?k16 ?b16 :),x__law_kind:=(PV.dx KX G ?a17 ?l17 ?c17 ?k17 ?b17 :),x__law_is_word:=(PV.dx KX G ?a18 ?l18 ?c18 ?k18 ?b18 :),x__law_due:=(PV.dx KX G ?a19 ?l19 ?c19 ?k19 ?b19 :),x_law:=(PV.dx KX G ?a20 ?l20 ?c20 ?k20 ?b20 :),fl_size:=(PV.U5 KX (PV.cls KX ?pg_World ?hd_World ?po_World ?sa_World) ?n_World_size :),fl_marked:=(PV.U5 KX (PV.cls KX ?pg_World ?hd_World ?po_World ?sa_World) ?n_World_marked :),fl_tied:=(PV.U5 KX (PV.cls KX ?pg_World ?hd_World ?po_World ?sa_World) ?n_World_tied :),z_ValueError:=z14 KX G ?z_ValueError,z_all:=z14 KX G ?z_all,z_int:=z14 KX G ?z_int,z_isinstance:=z14 KX G ?z_isinstance,z_len:=z14 KX G ?z_len,z_list:=z14 KX G ?z_list,z_max:=z14 KX G ?z_max,z_range:=z14 KX G ?z_range,s_MOST_LETTERS:=(PV.sx (f:=(.int 8)) KX G ?a_MOST_LETTERS :),s_LETTERS:=(PV.sx (f:=(.str "abcdefghijklmnopqrstuvwxyz")) KX G ?a_LETTERS :),s_MOST_THINGS:=(PV.sx (f:=(.int 5)) KX G ?a_MOST_THINGS :),s_MOST_WORDS:=(PV.sx (f:=(.int 3)) KX G ?a_MOST_WORDS :),c_KEPT_TEXTS:=(PV.kx2 (xs:=["not","and","or","some","all"]) KX G ?a_KEPT_TEXTS ?l_KEPT_TEXTS ?h_KEPT_TEXTS ?v_KEPT_TEXTS :),r:=(PV.rx KX G ?rA ?rE ?r1 ?r2 ?r3 :),xt:=(PV.fC KX ?xt :),e_NoWord:=(PV.xx KX G ?eA_NoWord ?eg_NoWord (PV.aN ?xt ?eg_NoWord) ?hi_NoWord ?ii_NoWord ?kp_NoWord ?na_NoWord ?el_NoWord ?ec_NoWord ?ek_NoWord ?eb_NoWord :),e_NoThing:=(PV.xx KX G ?eA_NoThing ?eg_NoThing (PV.aN ?xt ?eg_NoThing) ?hi_NoThing ?ii_NoThing ?kp_NoThing ?na_NoThing ?el_NoThing ?ec_NoThing ?ek_NoThing ?eb_NoThing :),e_TooGreat:=(PV.xx2 KX G ?eA_TooGreat ?eg_TooGreat (PV.aN ?xt ?eg_TooGreat) ?hi_TooGreat ?ii_TooGreat ?kp_TooGreat ?na_TooGreat ?nb_TooGreat ?el_TooGreat ?ec_TooGreat ?ek_TooGreat ?eb_TooGreat :),a_World:=(PV.ax KX G ?sA_World :),a_NoName:=(PV.ax KX G ?sA_NoName :),a_NoPointing:=(PV.ax KX G ?sA_NoPointing :),a_NoSaying:=(PV.ax KX G ?sA_NoSaying :),a_Unlike:=(PV.ax KX G ?sA_Unlike :),k_0:=(PV.Dz KX ?k0a :),k_1:=(PV.Dz KX ?k1a :),k_2:=(PV.Dz KX ?k2a :),k_3:=(PV.Dz KX ?k3a :),k_4:=(PV.Dz KX ?k4a :),k_5:=(PV.Dz KX ?k5a :),k_6:=(PV.Dz KX ?k6a :),k_7:=(PV.Dz KX ?k7a :),k_8:=(PV.Dz KX ?k8a :),nf_most:=(PV.M3 KX ?nf_most :),nf_number:=(PV.M3 KX ?nf_number :),nf_word:=(PV.M3 KX ?nf_word :),nf_thing:=(PV.M3 KX ?nf_thing :),k2_World:=(PV.lV KX ?w1_World ?w2_World ?w3_World :),mo_World:=(PV.lW KX ?w4_World :),kw_World:=(PV.lX KX ?w5_World :) },?bt⟩
   case aC_World | pg_World | hd_World | po_World | sa_World | mk_World | kc_World | n_World_size | n_World_marked | n_World_tied | a0 | l0 | c0 | k0 | a1 | l1 | c1 | k1 | a2 | l2 | c2 | k2 | a3 | l3 | c3 | k3 | a4 | l4 | c4 | k4 | a5 | l5 | c5 | k5 | a6 | l6 | c6 | k6 | a7 | l7 | c7 | k7 | a8 | l8 | c8 | k8 | a9 | i9 | l9 | c9 | k9 | a10 | l10 | c10 | k10 | a11 | i11 | l11 | c11 | k11 | a12 | i12 | l12 | c12 | k12 | a13 | l13 | c13 | k13 | a14 | l14 | c14 | k14 | a15 | l15 | c15 | k15 | a16 | l16 | c16 | k16 | a17 | l17 | c17 | k17 | a18 | l18 | c18 | k18 | a19 | l19 | c19 | k19 | a20 | l20 | c20 | k20 | z_ValueError | z_all | z_int | z_isinstance | z_len | z_list | z_max | z_range | a_MOST_LETTERS | a_LETTERS | a_MOST_THINGS | a_MOST_WORDS | a_KEPT_TEXTS | l_KEPT_TEXTS | rA | eA_NoWord | hi_NoWord | ii_NoWord | kp_NoWord | el_NoWord | ec_NoWord | ek_NoWord | eA_NoThing | hi_NoThing | ii_NoThing | kp_NoThing | el_NoThing | ec_NoThing | ek_NoThing | eA_TooGreat | hi_TooGreat | ii_TooGreat | kp_TooGreat | el_TooGreat | ec_TooGreat | ek_TooGreat | sA_World | sA_NoName | sA_NoPointing | sA_NoSaying | sA_Unlike=>k_is
   case b8 | b14 | b17 | b18 | b20=>exact λ _ _ _ _ _ _ us hl=>by (obtain⟨_,rfl⟩:=PV.iZ hl;rfl)
   case b0 | b1 | b2 | b3 | b4 | b5 | b6 | b7 | eb_NoWord | eb_NoThing=>exact λ _ _ _ _ _ _ us hl=>by (obtain⟨_,_,rfl⟩:=PV.ie hl;rfl)
   case b10 | b11 | b13 | b15 | b19 | eb_TooGreat=>exact λ _ _ _ _ _ _ us hl=>by (obtain⟨_,_,_,rfl⟩:=PV.ig hl;rfl)
   case b9 | b12=>exact λ _ _ _ _ _ _ us hl=>by (obtain⟨_,_,_,_,rfl⟩:=PV.ik hl;rfl)
   case b16=>exact λ _ _ _ _ _ _ us hl=>by (obtain⟨_,_,_,_,_,rfl⟩:=PV.ou hl;rfl)
   case h_KEPT_TEXTS=>decide
   case v_KEPT_TEXTS=>exact .cons ⟨_,rfl⟩ (.cons ⟨_,rfl⟩ (.cons ⟨_,rfl⟩ (.cons ⟨_,rfl⟩ (.cons ⟨_,rfl⟩ (.nil)))))
   case eg_NoWord=>rfl
   case eg_NoThing=>rfl
   case eg_TooGreat=>rfl
   case rE | r1 | r2 | r3 | xt | na_NoWord | na_NoThing | na_TooGreat | nb_TooGreat | k0a | k1a | k2a | k3a | k4a | k5a | k6a | k7a | k8a | nf_most | nf_number | nf_word | nf_thing | w1_World | w2_World | w3_World | w4_World | w5_World=>kernel_rfl
   case bt=>exact λ s u=>.of_eq rfl
  obtain⟨C_World,l,T,e1⟩:=TT;have e0:fa=T.x_law.f:=by
   have q:=hmg.symm.trans T.x_law.m;cases q;rfl
  subst e0;exact⟨T.x_law.fd,e1,λ base kb nb=>(K03.l_ (w:=w) (base:=base) T).imp (K03.mC K03.bh)⟩
