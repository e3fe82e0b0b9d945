import PyProof.Rows.All
import Wide.All
import OpenK.AllK
import Wide.FinOn
import Lean
import PyProof.EqAt
import PyProof.EqKinds
import PyProof.TupleCall
import PyProof.StationsW
import PyProof.DictWalks
import PyProof.DictItemsLoops
import KE.KPairComp
import KE.KDictList
import PyProof.StrWalks
import PyProof.ConsumeWalk
import PyProof.DictUpdate
import PyProof.ExcClass2
import PyProof.ExcClass3
import PyProof.ExcArgsOwn
import PyProof.ExcAttrAll.ValueError
import PyProof.InstStoreFacts
import PyProof.StrLawsRepr
import PyProof.ReprStr
import PyProof.NsDelKeeps
import PyProof.RulesAs
import KE.KIsAll
import KE.KRevIter
import PyProof.EnumMake
import PyProof.MeetsSeq
import Wide.Txt2
import PySem.Challenge.RW_twinrounds_k32_matchings_walk
set_option compiler.extract_closed false
set_option genSizeOf false
set_option Elab.async false
set_option linter.all false
set_option maxRecDepth 100000
set_option maxHeartbeats 4000000
abbrev zFr:=PySem.W.Frag
abbrev zQ:=PySem.Value->PySem.Shared->Prop
abbrev zP:=List (PySem.Addr×PySem.Obj)
variable {us its:List PySem.Value}{u doc pm cdv ct oc:PySem.Value}{a b it p C f q:PySem.Addr}{P prog:PySem.Program}{w:PySem.World}{h h':PySem.Heap}{t' i n j ep x1 k':Nat}{ch A fp B A0:List PySem.Addr}{e tg:PySem.Expr}{N l ps loose ks:List PySem.Str}{M:PySem.Model}{E:PySem.Value->PySem.Shared->Prop}{s:PySem.Shared}{pos pos' tp xpos apos spos cpos:PySem.Pos}{π:List (PySem.Addr×PySem.Obj)}{es elts:List PySem.Expr}{body s1 s2:List PySem.Stmt}{kw:List (PySem.Str×PySem.Value)}{m qual c cn:PySem.Str}{env:PySem.Env}{mg:PySem.Str->Option PySem.Value}{fd:PySem.FuncData}{outer:List PySem.Env}{sc scope:PySem.Scope}{an od tb:Option PySem.Addr}{osl:Array (Option PySem.Value)}{st:PySem.Stmt}{gs js os:List Nat}
theorem z00:type_of%@List.length_map.{0,0}:=@List.length_map
theorem z01:type_of%@Nat.le_refl:=@Nat.le_refl
theorem z02:type_of%@PySem.wpAny_bind:=@PySem.wpAny_bind
theorem z03:type_of%@List.map_cons.{0,0}:=@List.map_cons
theorem z04:type_of%@List.getElem?_map.{0,0}:=@List.getElem?_map
theorem z05:type_of%@List.mem_map.{0,0}:=@List.mem_map
theorem z06:type_of%@List.getElem?_eq_getElem.{0}:=@List.getElem?_eq_getElem
theorem z07:type_of%@PySem.Heap.lt_size:=@PySem.Heap.lt_size
theorem z08:type_of%@List.mem_cons.{0}:=@List.mem_cons
theorem z09:type_of%@PySem.wpAny_pure:=@PySem.wpAny_pure
theorem z0a:type_of%@decide_eq_false:=@decide_eq_false
theorem z0b:type_of%@List.mem_cons_of_mem.{0}:=@List.mem_cons_of_mem
theorem z0c:type_of%@PySem.Heap.get?_push_of_some:=@PySem.Heap.get?_push_of_some
theorem z0d:type_of%@List.lookup_cons.{0,0}:=@List.lookup_cons
theorem z0e:type_of%@Option.some.inj.{0}:=@Option.some.inj
theorem z0f:type_of%@List.size_toArray.{0}:=@List.size_toArray
theorem z0g:type_of%@decide_eq_true:=@decide_eq_true
theorem z0h:type_of%@List.mem_cons_self.{0}:=@List.mem_cons_self
theorem z0i:type_of%@PySem.Heap.get?_push_size:=@PySem.Heap.get?_push_size
theorem z0j:type_of%@List.length_append.{0}:=@List.length_append
theorem z0k:type_of%@List.map_map.{0,0,0}:=@List.map_map
theorem z0l:type_of%@Nat.ne_of_lt:=@Nat.ne_of_lt
theorem z0m:type_of%@List.getElem?_eq_some_iff.{0}:=@List.getElem?_eq_some_iff
theorem z0n:type_of%@PySem.PassesOwn.never:=@PySem.PassesOwn.never
theorem z0o:type_of%@List.mem_range:=@List.mem_range
theorem z0p:type_of%@Option.bind_some.{0,0}:=@Option.bind_some
theorem z0q:type_of%@List.mem_filter.{0}:=@List.mem_filter
theorem z0r:type_of%@Bool.false_ne_true:=@Bool.false_ne_true
theorem z0s:type_of%@Nat.zero_le:=@Nat.zero_le
theorem z0t:type_of%@Nat.le_trans:=@Nat.le_trans
theorem z0u:type_of%@List.nodup_append.{0}:=@List.nodup_append
theorem z0v:type_of%@List.getD_eq_getElem?_getD.{0}:=@List.getD_eq_getElem?_getD
theorem z0w:type_of%@List.append_nil.{0}:=@List.append_nil
theorem z0x:type_of%@List.all_eq_true.{0}:=@List.all_eq_true
theorem z0y:type_of%@List.map_append.{0,0}:=@List.map_append
theorem z0z:type_of%@beq_eq_false_iff_ne.{0}:=@beq_eq_false_iff_ne
theorem z0A:type_of%@List.mem_append_right.{0}:=@List.mem_append_right
theorem z0B:type_of%@List.length_cons.{0}:=@List.length_cons
theorem z0C:type_of%@Bool.and_eq_true:=@Bool.and_eq_true
theorem z0D:type_of%@List.getElem?_set_ne.{0}:=@List.getElem?_set_ne
theorem z0E:type_of%@Option.map_some.{0,0}:=@Option.map_some
theorem z0F:type_of%@Nat.lt_of_lt_of_le:=@Nat.lt_of_lt_of_le
theorem z0G:type_of%@List.nodup_cons.{0}:=@List.nodup_cons
theorem z0H:type_of%@List.mem_of_getElem?.{0}:=@List.mem_of_getElem?
theorem z0I:type_of%@Int.emod_nonneg:=@Int.emod_nonneg
theorem z0J:type_of%@beq_iff_eq.{0}:=@beq_iff_eq
theorem z0K:type_of%@Int.toNat_natCast:=@Int.toNat_natCast
theorem z0L:type_of%@List.mem_append.{0}:=@List.mem_append
theorem z0M:type_of%@List.mem_append_left.{0}:=@List.mem_append_left
theorem z0N:type_of%@Bool.eq_iff_iff:=@Bool.eq_iff_iff
theorem z0O:type_of%@List.set_cons_zero.{0}:=@List.set_cons_zero
theorem z0P:type_of%@List.set_cons_succ.{0}:=@List.set_cons_succ
theorem z0Q:type_of%@List.nil_append.{0}:=@List.nil_append
theorem z0R:type_of%@PySem.wpAny_mono:=@PySem.wpAny_mono
theorem z0S:type_of%@PySem.W.kia_one:=@PySem.W.kia_one
theorem z0T:type_of%@Nat.zero_add:=@Nat.zero_add
theorem z0U:type_of%@Int.emod_lt_of_pos:=@Int.emod_lt_of_pos
theorem z0V:type_of%@Nat.le_succ:=@Nat.le_succ
theorem z0W:type_of%@List.length_take.{0}:=@List.length_take
theorem z0X:type_of%@List.getElem?_append_right.{0}:=@List.getElem?_append_right
theorem z0Y:type_of%@List.getElem?_append_left.{0}:=@List.getElem?_append_left
theorem z0Z:type_of%@Nat.not_lt:=@Nat.not_lt
theorem z10:type_of%@List.getElem?_set_self.{0}:=@List.getElem?_set_self
theorem z11:type_of%@List.map_nil.{0,0}:=@List.map_nil
theorem z12:type_of%@of_decide_eq_true:=@of_decide_eq_true
theorem z13:type_of%@List.length_set.{0}:=@List.length_set
theorem z14:type_of%@List.append_assoc.{0}:=@List.append_assoc
theorem z15:type_of%@List.getElem_mem.{0}:=@List.getElem_mem
theorem z16:type_of%@List.pairwise_map.{0,0}:=@List.pairwise_map
theorem z17:type_of%@PySem.W.mg_none_of:=@PySem.W.mg_none_of
theorem z18:type_of%@List.length_drop.{0}:=@List.length_drop
theorem z19:type_of%@List.getElem?_eq_none.{0}:=@List.getElem?_eq_none
theorem z1a:type_of%@Nat.lt_irrefl:=@Nat.lt_irrefl
theorem z1b:type_of%@Array.length_toList.{0}:=@Array.length_toList
theorem z1c:type_of%@PySem.wpAny_passesOwn:=@PySem.wpAny_passesOwn
theorem z1d:type_of%@List.all_cons.{0}:=@List.all_cons
theorem z1e:type_of%@List.any_cons.{0}:=@List.any_cons
theorem z1f:type_of%@List.find?_cons.{0}:=@List.find?_cons
theorem z1g:type_of%@List.pairwise_cons.{0}:=@List.pairwise_cons
theorem z1h:type_of%@List.mem_singleton.{0}:=@List.mem_singleton
theorem z1i:type_of%@List.cons_append.{0}:=@List.cons_append
theorem z1j:type_of%@PySem.wpAny_newObj_type:=@PySem.wpAny_newObj_type
theorem z1k:type_of%@beq_self_eq_true.{0}:=@beq_self_eq_true
theorem z1l:type_of%@List.drop_eq_getElem_cons.{0}:=@List.drop_eq_getElem_cons
theorem z1m:type_of%@PySem.F.plainAttrs_list:=@PySem.F.plainAttrs_list
theorem z1n:type_of%@PySem.mem_of_lookup:=@PySem.mem_of_lookup
theorem z1o:type_of%@Nat.lt_of_le_of_lt:=@Nat.lt_of_le_of_lt
theorem z1p:type_of%@Nat.lt_succ_of_lt:=@Nat.lt_succ_of_lt
theorem z1q:type_of%@decide_eq_true_eq:=@decide_eq_true_eq
theorem z1r:type_of%@List.getElem_of_mem.{0}:=@List.getElem_of_mem
theorem z1s:type_of%@PySem.F.slot_dict_keyiterator_next:=@PySem.F.slot_dict_keyiterator_next
theorem z1t:type_of%@List.getElem?_cons_zero.{0}:=@List.getElem?_cons_zero
theorem z1u:type_of%@List.getElem?_cons_succ.{0}:=@List.getElem?_cons_succ
section
open PySem PySem.W PyProof.Rows
def L2.viewAt (p:Program) (ks:List Nat):Program:={ p with main:={ p.main with body:=ks.filterMap λ i=>p.main.body[i]? } }
abbrev K32.R:=PySem.Challenge.rw_twinrounds_k32_matchings_walk.row
def K32.vw:Program:=L2.viewAt PySem.Challenge.pw_twinrounds_k32_matchings_walk [0,2,3,4,5,6,8,9,10,11,12,13,14,15,16,17,18,20,21,22,23,24,25,26,27,29,30,31,32,33,34,35,36,37,38,39,40,41,42,43]
theorem zE_ {α:Sort _}(a:α):a=a:=of_eq_true (eq_self a)
namespace L2T
def runG (st:SharedT->Thread->Option (SharedT×Thread)) (ok:Thread->Bool):Nat->SharedT->Thread->Option SharedT
 | 0,_,_=>none
 | n+1,s,t=>match through t with
  | true=>some s
  | false=>match ok t with
   | false=>none
   | true=>match st s t with
    | some (s',t')=>runG st ok n s' t'
    | none=>none
theorem Xf {tb:String->Option Builtin}{p:Program}{w:World}{n₀:Nat}{ann:Option Value}:∀ {n:Nat}{s s':SharedT}{t:Thread},runG (stepT (denote tb) p w) (stepOk n₀ ann) n s t=some s'->topRun tb p w n₀ ann n s.abs t=some s'.abs
 | 0,_,_,_,h=>by cases h
 | n+1,s,s',t,h=>by
  unfold runG at h;unfold topRun;cases he:through t with
  | true=>rw[he] at h;cases h;rfl
  | false=>
   rw[he] at h;cases hk:stepOk n₀ ann t with
   | false=>rw[hk] at h;cases h
   | true=>
    rw[hk] at h;cases hs:stepT (denote tb) p w s t with
    | none=>rw[hs] at h;cases h
    | some r=>obtain⟨s₂,t₂⟩:=r;rw[hs] at h;rw[stepT_spec hs];exact Xf h
def treeOf (l:List Obj):BT:=(l.foldl (λ (a:BT×Nat) o=>(a.1.ins a.2 o,a.2+1)) (BT.nil,0)).1
noncomputable abbrev boot (w:World) (os:OsState):SharedT:=⟨treeOf (boot_heap w.params).objs.toList,11,(boot_heap w.params).life,Array.mk [],boot_drawn,boot_toks,os⟩
set_option maxHeartbeats 0 in
theorem boot_abs (w:World) (os:OsState):(boot w os).abs=⟨boot_heap w.params,Array.mk [],boot_drawn,boot_toks,os⟩:=by kernel_rfl
set_option maxHeartbeats 0 in
theorem Zg (w:World):((boot_heap w.params).isNs mainGlobals,(boot_heap w.params).objs.size)=(true,11):=by kernel_rfl
noncomputable abbrev ann (w:World):Option Value:=(boot_heap w.params).nsMap mainGlobals "__annotations__"
noncomputable def fits (p:Program) (w:World) (s:Shared):Bool:=staticsOk (importedModules p.main.body) (boot_heap w.params) s.heap&&namesBound p s.heap&&gensDone s&&laidKept (boot_heap w.params) s.heap
theorem left {p:Program}{N:Nat}{α:Type}{f:Shared->α}{good:World->α}(hb:opening p=plainProg p.main.scope.names) (hf:∀ s,fenceModules? p s=some s) (hN:Nat.ble 600 N=true)
  (h:∀ (w:World) (os:OsState),(runG (Fast.tw10156331382660048174 (Fast.tw11892475500146522536 Fast.tw14364793385576792824) p w) (Fast.tw6613529449190102663 11 (ann w)) N (boot w os) (topStub p)).map (λ s=>(fits p w s.abs,f s.abs))=some (true,good w)) (w:World):(openEnds treeTable p w N).map f=some (good w):=by
 obtain⟨⟨h0,gs,d,k,os⟩,e,e'⟩:=Option.map_eq_some_iff.mp (boot_open hb hN hf w);obtain⟨rfl,rfl,rfl,rfl⟩:h0=boot_heap w.params/\gs=Array.mk []/\d=boot_drawn/\k=boot_toks:=by simpa using e'
 have h:=h w os;rw[<-Fast.te10156331382660048174,<-Fast.te11892475500146522536,<-Fast.te14364793385576792824,<-Fast.te6613529449190102663] at h;obtain⟨s1,r,q⟩:=Option.map_eq_some_iff.mp h;obtain⟨q1,q2⟩:=Prod.mk.inj q;have t:=Xf r;rw[boot_abs] at t;obtain⟨b1,b2⟩:=Prod.mk.inj (Zg w);have g:topFrom treeTable p w N ⟨boot_heap w.params,Array.mk [],boot_drawn,boot_toks,os⟩=some s1.abs:=by
  unfold topFrom;dsimp only;rw[b1,b2];show (topRun treeTable p w 11 (ann w) N _ (topStub p)).bind _=_;rw[t];show (match fits p w s1.abs with | true=>some s1.abs | false=>none)=_;rw[q1]
 unfold openEnds;rw[e];show (topFrom treeTable p w N _).map f=_;rw[g];exact congrArg some q2
end L2T
section
local macro_rules | `(tactic| o_head $H) => `(tactic| exact ‹∀ P : Prop, P› _)
set_option maxHeartbeats 0 in
theorem K32.side (hole:∀ P:Prop,P):K32.R.Holds:=by
 k_head
end
open Lean.Parser.Command in
local macro_rules | `(def $i:declId $s:optDeclSig $v:declVal)=>`(noncomputable def $i:declId $s:optDeclSig $v:declVal) | `(abbrev $i:declId $s:optDeclSig $v:declVal)=>`(noncomputable abbrev $i:declId $s:optDeclSig $v:declVal)
def K32.as:List Addr:=[2,3,15,17,18,20,21,22,29,30,31,32,35,42,44,45,47,48,49,50,51,54,61,63,64,66,67,68,69,70,73,80,82,83,85,86,87,88,89,92,99,100,101,104,105,108,109,110,112,113,115,116,117,119,120,122,123,124,126,127,129,130,131,133,134,136,137,145,147,148,150,151,152,154,155,157,158,159,161,162,164,165,166,168,169,171,172,173,175,176,178,179,180,181,182,183,184,187,189,190,192,193,194,196,197,199,200,201,203,204,206,207,208,210,211,213,214,215,217,218,220,221,222,225,226,227,229,230,232,233,234,236,237,239,240,241,243,244,246,247,248,250,251,253,254,255,257,258,260,261,262,265,266,267,269,270,272,273,274,277,278,279,282,283,284,287,288,289,291,292,294,295,296,298,299,301,302,303,305,306,308,309,310,312,313,315,316,317,319,320,322,323,324,327,328,329,332,333]
set_option maxHeartbeats 0 in
theorem K32.as_ok:∀ P,K32.as=(K32.side.heap_1 P).map (·.1):=λ _=>by kernel_rfl
def K32.hook:Hook:=kHook K32.side.heap_1 K32.as K32.as_ok
set_option maxHeartbeats 0 in
theorem K32.look:LeftO K32.R.prog K32.vw [] (λ s=>xlAt K32.vw [] s&&recOk K32.R.records s) K32.hook.obs K32.hook.val 6000:=by
 rw[show LeftO K32.R.prog K32.vw [] (λ s=>xlAt K32.vw [] s&&recOk K32.R.records s) K32.hook.obs K32.hook.val 6000=∀ w,(openEnds treeTable K32.R.prog w 6000).map (λ s=>(openSeen K32.vw [] (importedModules K32.R.prog.main.body) (λ s=>xlAt K32.vw [] s&&recOk K32.R.records s) true s,K32.hook.obs s))=some (openGood K32.vw [],K32.hook.val w) from rfl,Fast.te4187177175401517315];exact L2T.left (by kernel_rfl) (λ _=>by kernel_rfl) rfl (λ w os=>by kernel_rfl)
end
namespace L2
open PySem PySem.Spec PyProof.Rows
abbrev Key:=Sum Int Str
def Ro:Key->Value->Bool
 | .inl k,v=>Value.isInt k v
 | .inr x,v=>Value.isStrOf x v
def keyH (w:World):Key->Int
 | .inl k=>hashInt k
 | .inr x=>hashStr w x
theorem Br:∀ {k:Key}{v:Value},Ro k v=true->(∃ i t,k=Sum.inl i/\v=Value.int i t)∨(∃ x t,k=Sum.inr x/\v=Value.str x t)
 | .inl i,v,h=>by
  obtain⟨t,e⟩:=Value.isInt_shape (k:=i) (v:=v) h;exact .inl ⟨i,t,rfl,e⟩
 | .inr x,v,h=>by
  obtain⟨t,e⟩:=Value.isStrOf_shape (x:=x) (v:=v) h;exact .inr ⟨x,t,rfl,e⟩
theorem Zh (i:Int) (t:Tok):Ro (.inl i) (.int i t)=true:=by simp[Ro,Value.isInt]
theorem Zi (x:Str) (t:Tok):Ro (.inr x) (.str x t)=true:=by simp[Ro,Value.isStrOf]
theorem mW (a b:Int):decide ((Sum.inl a:Key)=Sum.inl b)=(a==b):=by
 by_cases e:a=b
 ·subst e;simp
 ·have h:¬ (Sum.inl a:Key)=Sum.inl b:=λ q=>e (Sum.inl.inj q);rw[z0a h];exact (z0z.mpr e).symm
theorem mX (a b:Str):decide ((Sum.inr a:Key)=Sum.inr b)=decide (a=b):=by
 by_cases e:a=b
 ·subst e;simp
 ·have h:¬ (Sum.inr a:Key)=Sum.inr b:=λ q=>e (Sum.inr.inj q);rw[z0a h,z0a e]
theorem mY (a:Int) (b:Str):decide ((Sum.inl a:Key)=Sum.inr b)=false:=z0a (λ q=>nomatch q)
theorem mZ (a:Str) (b:Int):decide ((Sum.inr a:Key)=Sum.inl b)=false:=z0a (λ q=>nomatch q)
def Aw (prog:Program) (w:World):PySem.KeyKind prog w Key where
 is:=Ro
 hash:=keyH w
 inj:=λ v a b ha hb=>by
  rcases Br ha with ⟨i,t,rfl,rfl⟩ | ⟨x,t,rfl,rfl⟩
  ·rcases Br hb with ⟨j,u,rfl,e⟩ | ⟨y,u,rfl,e⟩
   ·injection e with e1 _;rw[e1]
   ·exact nomatch e
  ·rcases Br hb with ⟨j,u,rfl,e⟩ | ⟨y,u,rfl,e⟩
   ·exact nomatch e
   ·injection e with e1 _;rw[e1]
 byValue:=λ k v h=>by
  rcases Br h with ⟨i,t,rfl,rfl⟩ | ⟨x,t,rfl,rfl⟩<;>rfl
 pyHash:=λ hv h=>by
  rcases Br hv with ⟨i,t,rfl,rfl⟩ | ⟨x,t,rfl,rfl⟩
  ·exact wpAny_pyHash_int h
  ·exact wpAny_pyHash_str h
 eqBool:=λ hu hv h=>by
  rcases Br hu with ⟨i,t,rfl,rfl⟩ | ⟨x,t,rfl,rfl⟩
  ·rcases Br hv with ⟨j,u,rfl,rfl⟩ | ⟨y,u,rfl,rfl⟩
   ·rw[mW] at h;exact wpAny_eqBool_int h
   ·rw[mY] at h;exact SeqAt.EqAt.int_str i t y u _ _ _ _ h
  ·rcases Br hv with ⟨j,u,rfl,rfl⟩ | ⟨y,u,rfl,rfl⟩
   ·rw[mZ] at h;exact SeqAt.EqAt.str_int x t j u _ _ _ _ h
   ·rw[mX] at h;exact wpAny_eqBool_str h
 «strs»:=λ k x t v h=>by
  rcases Br h with ⟨i,u,rfl,e⟩ | ⟨y,u,rfl,e⟩
  ·exact nomatch e
  ·injection e with e1 _
   subst e1;cases v<;>rfl
theorem VF (prog:Program) (w:World) (i:Int) (t:Tok):(Aw prog w).is (.inl i) (.int i t)=true:=Zh i t
theorem VG (prog:Program) (w:World) (x:Str) (t:Tok):(Aw prog w).is (.inr x) (.str x t)=true:=Zi x t
inductive V where
 | non | bl (b:Bool) | int (i:Int) | str (x:Str) | byt (b:Array UInt8) | flt (b:UInt64) | ref (a:Addr) | ty (n:String)
 deriving DecidableEq
def RelV:V->Value->Prop
 | .non,u=>u=Value.none
 | .bl b,u=>u=Value.bool b
 | .int i,u=>∃ t,u=Value.int i t
 | .str x,u=>∃ t,u=Value.str x t
 | .byt b,u=>∃ t,u=Value.bytes b t
 | .flt b,u=>∃ t,u=Value.float b t
 | .ref a,u=>u=Value.ref a
 | .ty n,u=>u=Value.type n
abbrev Vals:List V->List Value->Prop:=Paired RelV
theorem Vals.length {xs:List V}{us:List Value}(r:Vals xs us):xs.length=us.length:=Paired.length r
theorem Vals.get:∀ {xs:List V}{us:List Value}{i:Nat}{x:V},Vals xs us->xs[i]?=some x->∃ u,us[i]?=some u/\RelV x u
 | _,_,_,_,.nil,e=>by simp at e
 | _,_,0,_,.cons r _,e=>by simp at e;subst e;exact⟨_,rfl,r⟩
 | _,_,i+1,x,.cons _ t,e=>by
  obtain⟨u,h1,h2⟩:=Vals.get (i:=i) (x:=x) t (by simpa using e);exact⟨u,by simpa using h1,h2⟩
theorem Vals.set {x:V}{u:Value}(r:RelV x u):∀ {xs:List V}{us:List Value}(i:Nat),Vals xs us->Vals (xs.set i x) (us.set i u)
 | _,_,_,.nil=>.nil
 | _,_,0,.cons _ t=>.cons r t
 | _,_,i+1,.cons q t=>.cons q (Vals.set r i t)
theorem Vals.append:∀ {xs ys:List V}{us ws:List Value},Vals xs us->Vals ys ws->Vals (xs++ys) (us++ws)
 | _,_,_,_,.nil,s=>s
 | _,_,_,_,.cons r t,s=>.cons r (Vals.append t s)
theorem Vals.take:∀ {xs:List V}{us:List Value}(n:Nat),Vals xs us->Vals (xs.take n) (us.take n)
 | _,_,0,_=>.nil
 | _,_,_+1,.nil=>.nil
 | _,_,n+1,.cons r t=>.cons r (Vals.take n t)
theorem Vals.drop:∀ {xs:List V}{us:List Value}(n:Nat),Vals xs us->Vals (xs.drop n) (us.drop n)
 | _,_,0,r=>r
 | _,_,_+1,.nil=>.nil
 | _,_,n+1,.cons _ t=>Vals.drop n t
theorem Vals.none_of:∀ {xs:List V}{us:List Value}{i:Nat},Vals xs us->xs[i]?=none->us[i]?=none:=λ {xs us i} r e=>by
 have h1:=r.length;have h2:xs.length<=i:=List.getElem?_eq_none_iff.mp e;exact List.getElem?_eq_none_iff.mpr (by omega)
def RelO:Option V->Option Value->Prop
 | some v,some u=>RelV v u
 | none,none=>True
 | _,_=>False
def KV {κ:Type}:List (κ×V)->List (κ×Value)->Prop:=Paired λ (p:κ×V) (q:κ×Value)=>p.1=q.1/\RelV p.2 q.2
def kV:Key->V
 | .inl i=>.int i
 | .inr x=>.str x
inductive HO where
 | lst (xs:List V)
 | tup (xs:List V)
 | dK (kvs:List (Key×V)) | dT (kvs:List (List Key×V))
 | set (S:Int->Bool) (n:Nat)
 | ins (C dx:Addr) (fs:List (Str×V))
 | own (x:Addr)
 | xd (fs:List (Str×V))
 | met (f x:Addr)
 | rng (lo hi:Int)
 | frz (o:Obj) (u:HO)
 | tbl (ps:Array Value)
 | ext (φ:Heap->Prop)
abbrev Hp:=Addr->Option HO
def upd (H:Hp) (a:Addr) (o:HO):Hp:=λ b=>if b=a then some o else H b
theorem Ag {H:Hp}{o:HO}:upd H a o a=some o:=by unfold upd;rw[if_pos rfl]
theorem Al {H:Hp}{o:HO}(h:b≠a):upd H a o b=H b:=by unfold upd;rw[if_neg h]
theorem kJ {H:Hp}{o u:HO}(h:H a=some o) (h':H b=some u) (d:o≠u):a≠b:=by
 intro e;subst e;rw[h] at h';exact d (z0e h')
theorem Ck {H:Hp}{o:HO}(h:H a=some o) (h':H b=none):a≠b:=by
 intro e;subst e;rw[h] at h';cases h'
section
variable (P:Program) (w:World)
def BK (H:Hp) (h:Heap) (a:Addr):HO->Prop
  | .lst xs=>xs.length<=sizeLine/\∃ (its:List Value) (n:Nat),Vals xs its/\h.get? a=some { cls:=.type "list",data:=.seq its.toArray n }
  | .tup xs=>xs.length<=sizeLine/\∃ its:List Value,Vals xs its/\IsTup h a its.toArray
  | .dK kvs=>kvs.length<=sizeLine/\(a==sysModules)=false/\∃ vs,KV kvs vs/\h.DictOf (Aw P w) a vs
  | .dT kvs=>kvs.length<=sizeLine/\(a==sysModules)=false/\∃ xs:List (List Key×Addr×Value),
      Paired (λ (p:List Key×V) (q:List Key×Addr×Value)=>p.1=q.1/\H q.2.1=some (.tup (p.1.map kV))/\RelV p.2 q.2.2) kvs xs ∧
      ∃ o es ep,h.get? a=some o/\o.ExactDict/\o.data=.dict es ep/\es.toList=xs.map (entryOfKey (tupleKind (Aw P w)))/\(xs.map (·.1)).Nodup
  | .set S n=>h.SetOf (intKind P w) a S n
  | .ins C dx fs=>H dx=some (.own a)/\fs.length<=1000/\dx≠a/\h.get? a=some (PySem.W.instObj C dx) ∧
      ∃ mA,h.Ns1 dx mA/\(∀ f,RelO (fs.lookup f) (mA f))/\PySem.Within mA (fs.map (·.1))
  | .own _=>∃ o,h.get? a=some o
  | .xd fs=>∃ mA,h.Ns1 a mA/\∀ f,RelO (fs.lookup f) (mA f)
  | .rng lo hi=>∃ t u v,h.get? a=some { cls:=.type "range",data:=.fields #[.int lo t,.int hi u,.int 1 v] }
  | .frz o u=>h.get? a=some o/\BK H h a u
  | .tbl ps=>h.get? a=some { cls:=.none,data:=.fields ps }
  | .met f x=>h.get? a=some (PySem.W.methodObj (.ref f) (.ref x))
  | .ext φ=>φ h/\(∃ o,h.get? a=some o)/\∀ h1 h2:Heap,φ h1->(∀ o,h1.get? a=some o->h2.get? a=some o)->φ h2
def HOk (H:Hp) (h:Heap):Prop:=∀ a o,H a=some o->BK P w H h a o
end
section
variable {H H':Hp}{o:HO}
theorem BK.lt (x:BK P w H h a o):a<h.objs.size:=by
 cases o with
 | lst xs=>obtain⟨_,_,_,_,e⟩:=x;exact z07 e
 | tup xs=>obtain⟨_,_,_,p⟩:=x;exact p.lt
 | dK kvs=>obtain⟨_,_,_,_,o,_,_,e,_⟩:=x;exact z07 e
 | dT kvs=>obtain⟨_,_,_,_,o,_,_,e,_⟩:=x;exact z07 e
 | set S n=>obtain⟨o,_,_,_,e,_⟩:=x;exact z07 e
 | ins C dx fs=>obtain⟨_,_,_,e,_⟩:=x;exact z07 e
 | own y=>obtain⟨_,e⟩:=x;exact z07 e
 | xd fs=>obtain⟨_,⟨_,_,_,e,_⟩,_⟩:=x;exact z07 e
 | rng lo hi=>obtain⟨_,_,_,e⟩:=x;exact z07 e
 | frz ob u=>obtain⟨e,_⟩:=x;exact z07 e
 | tbl ps=>exact z07 (show h.get? a=some _ from x)
 | met f y=>exact z07 (show h.get? a=some _ from x)
 | ext φ=>obtain⟨_,⟨_,e⟩,_⟩:=x;exact z07 e
theorem Paired.mapP {α β:Type}{F G:α->β->Prop}:∀ {l₁:List α}{l₂:List β},Paired F l₁ l₂->(∀ a b,F a b->G a b)->Paired G l₁ l₂
 | _,_,.nil,_=>.nil
 | _,_,.cons r t,f=>.cons (f _ _ r) (Paired.mapP t f)
theorem BK.stay (x:BK P w H h a o) (k:∀ b u,(b=a∨H b=some (.own a))->h.get? b=some u->h'.get? b=some u)
  (ho:∀ b,H b=some (.own a)->H' b=some (.own a)) (ht:∀ b xs,H b=some (.tup xs)->H' b=some (.tup xs)):BK P w H' h' a o:=by
 induction o with
 | lst xs=>obtain⟨z,its,n,r,e⟩:=x;exact⟨z,its,n,r,k _ _ (.inl rfl) e⟩
 | tup xs=>obtain⟨z,its,r,ob,e,c⟩:=x;exact⟨z,its,r,ob,k _ _ (.inl rfl) e,c⟩
 | dK kvs=>obtain⟨z,y,vs,r,ob,es,ep,e,c⟩:=x;exact⟨z,y,vs,r,ob,es,ep,k _ _ (.inl rfl) e,c⟩
 | dT kvs=>
  obtain⟨z,y,xs,r,ob,es,ep,e,c⟩:=x;exact⟨z,y,xs,Paired.mapP r λ p q z=>⟨z.1,ht _ _ z.2.1,z.2.2⟩,ob,es,ep,k _ _ (.inl rfl) e,c⟩
 | set S n=>obtain⟨ob,es,ep,t,e,c⟩:=x;exact⟨ob,es,ep,t,k _ _ (.inl rfl) e,c⟩
 | ins C dx fs=>
  obtain⟨d,z,ne,e,mA,⟨od,es,ep,e2,c⟩,r⟩:=x;exact⟨ho _ d,z,ne,k _ _ (.inl rfl) e,mA,⟨od,es,ep,k _ _ (.inr d) e2,c⟩,r⟩
 | own y=>obtain⟨ob,e⟩:=x;exact⟨ob,k _ _ (.inl rfl) e⟩
 | xd fs=>obtain⟨mA,⟨od,es,ep,e,c⟩,r⟩:=x;exact⟨mA,⟨od,es,ep,k _ _ (.inl rfl) e,c⟩,r⟩
 | rng lo hi=>obtain⟨t,u,v,e⟩:=x;exact⟨t,u,v,k _ _ (.inl rfl) e⟩
 | frz ob u ih=>obtain⟨e,q⟩:=x;exact⟨k _ _ (.inl rfl) e,ih q⟩
 | tbl ps=>
  have e:h.get? a=some { cls:=.none,data:=.fields ps }:=x;show h'.get? a=some { cls:=.none,data:=.fields ps };exact k a _ (.inl rfl) e
 | met f y=>
  have e:h.get? a=some (PySem.W.methodObj (.ref f) (.ref y)):=x;show h'.get? a=some (PySem.W.methodObj (.ref f) (.ref y));exact k a _ (.inl rfl) e
 | ext φ=>obtain⟨p,⟨o,e⟩,st⟩:=x;exact⟨st _ _ p λ o q=>k _ _ (.inl rfl) q,⟨o,k _ _ (.inl rfl) e⟩,st⟩
theorem HOk.lt (x:HOk P w H h) (e:H a=some o):a<h.objs.size:=(x a o e).lt
theorem HOk.fresh (x:HOk P w H h) (e:h.objs.size<=a):H a=none:=by
 cases q:H a with
 | none=>rfl
 | some u=>exact absurd (z0F (x.lt q) e) (z1a _)
theorem HOk.kept (x:HOk P w H h) (k:∀ b u,h.get? b=some u->h'.get? b=some u):HOk P w H h':=λ a o e=>
 (x a o e).stay (λ b u _ q=>k b u q) (λ _ q=>q) λ _ _ q=>q
theorem HOk.laid (x:HOk P w H h) (k:∀ b u,h.get? b=some u->h'.get? b=some u) (hp:h.objs.size<=a) (new:BK P w (upd H a o) h' a o):HOk P w (upd H a o) h':=λ b u e=>by
 have hn:=x.fresh hp
 by_cases hb:b=a
 ·subst hb;rw[Ag] at e;cases e;exact new
 ·rw[Al hb] at e;exact (x b u e).stay (λ c v _ q=>k c v q) (λ c q=>by rw[Al (Ck q hn)];exact q) λ c xs q=>by rw[Al (Ck q hn)];exact q
end
def Rd (H:Hp) (a:Addr) (u:HO):Prop:=H a=some u∨∃ o,H a=some (.frz o u)
theorem Rd.of {H:Hp}{u:HO}(h:H a=some u):Rd H a u:=.inl h
theorem Rd.ok {H:Hp}{u:HO}(r:Rd H a u) (x:HOk P w H h):BK P w H h a u:=by
 rcases r with r | ⟨o,r⟩
 ·exact x a u r
 ·obtain⟨_,q⟩:=x a _ r;exact q
def Mut:Option HO->Prop
 | some (.lst _)=>True
 | some (.dK _)=>True
 | some (.dT _)=>True
 | some (.set _ _)=>True
 | some (.ins _ _ _)=>True
 | some (.ext _)=>True
 | _=>False
section
variable {H:Hp}{x e:Addr}{o':HO}
theorem HOk.write (ok:HOk P w H h) (mu:Mut (H x)) (he:e=x∨H e=some (.own x)) (k:∀ b u,b≠e->h.get? b=some u->h'.get? b=some u) (heo:∃ u,h'.get? e=some u)
  (new:BK P w (upd H x o') h' x o'):HOk P w (upd H x o') h':=λ b u q=>by
 have nown:∀ c y,H c=some (.own y)->c≠x:=λ c y r z=>by subst z;rw[r] at mu;exact mu
 have ntup:∀ c xs,H c=some (.tup xs)->c≠x:=λ c xs r z=>by subst z;rw[r] at mu;exact mu
 by_cases hb:b=x
 ·subst hb;rw[Ag] at q;cases q;exact new
 ·rw[Al hb] at q
  by_cases hbe:b=e
  ·have q':H b=some (.own x):=by
    rcases he with z | z
    ·exact absurd (hbe.trans z) hb
    ·rw[hbe];exact z
   rw[q] at q';cases q';obtain⟨v,hv⟩:=heo;exact⟨v,by rw[hbe];exact hv⟩
  ·refine (ok b u q).stay (λ c v hc r=>k c v ?_ r) (λ c r=>by rw[Al (nown c b r)];exact r) λ c xs r=>by rw[Al (ntup c xs r)];exact r
   rcases hc with rfl | hc
   ·exact hbe
   ·rintro rfl
    rcases he with z | z
    ·exact nown c b hc z
    ·rw[hc] at z;cases z;exact hb rfl
end
structure Un (fs ex:List Addr) (H H':Hp) (h h':Heap):Prop where
 keep:∀ b o,h.get? b=some o->H b=none->b∉fs->b∉ex->h'.get? b=some o
 slot:∀ b o,h.get? b=some o->H b=none->b∈fs->b∉ex->∃ sl,h'.get? b=some { o with slots:=sl }
 free:∀ b o,h.get? b=some o->H b=none->b∉ex->H' b=none
 there:∀ b o,h.get? b=some o->b∉ex->∃ o',h'.get? b=some o'
 tups:∀ b xs,H b=some (.tup xs)->H' b=some (.tup xs)
 frzs:∀ b o u,H b=some (.frz o u)->H' b=some (.frz o u)
 tbls:∀ b ps,H b=some (.tbl ps)->∃ more,H' b=some (.tbl (ps++more))
section
variable {fs fs' ex ex':List Addr}{H H1 H2:Hp}{h1 h2:Heap}{x e:Addr}{o:HO}
theorem Un.any (u:Un fs ex H H1 h h1) {b:Addr}{ob:Obj}(q:h.get? b=some ob) (n:H b=none) (hx:b∉ex):∃ sl,h1.get? b=some { ob with slots:=sl }:=by
 by_cases hb:b∈fs
 ·exact u.slot b ob q n hb hx
 ·exact⟨ob.slots,u.keep b ob q n hb hx⟩
theorem Un.trans (a:Un fs ex H H1 h h1) (b:Un fs ex H1 H2 h1 h2):Un fs ex H H2 h h2 where
 keep:=λ c ob q n hc hx=>b.keep c ob (a.keep c ob q n hc hx) (a.free c ob q n hx) hc hx
 slot:=λ c ob q n hc hx=>by
  obtain⟨sl,e1⟩:=a.slot c ob q n hc hx;obtain⟨sl',e2⟩:=b.slot c _ e1 (a.free c ob q n hx) hc hx;exact⟨sl',e2⟩
 free:=λ c ob q n hx=>by
  obtain⟨o',e1⟩:=a.there c ob q hx;exact b.free c o' e1 (a.free c ob q n hx) hx
 there:=λ c ob q hx=>by
  obtain⟨o',e1⟩:=a.there c ob q hx;exact b.there c o' e1 hx
 tups:=λ c xs q=>b.tups c xs (a.tups c xs q)
 frzs:=λ c ob xs q=>b.frzs c ob xs (a.frzs c ob xs q)
 tbls:=λ c ps q=>by
  obtain⟨m1,e1⟩:=a.tbls c ps q;obtain⟨m2,e2⟩:=b.tbls c _ e1;exact⟨m1++m2,by rw[e2,Array.append_assoc]⟩
theorem Un.kept (k:∀ b u,h.get? b=some u->h'.get? b=some u):Un fs ex H H h h':=
 ⟨λ b ob q _ _ _=>k b ob q,λ b ob q _ _ _=>⟨ob.slots,k b ob q⟩,λ _ _ _ n _=>n,λ b ob q _=>⟨ob,k b ob q⟩,λ _ _ q=>q,λ _ _ _ q=>q,λ _ ps q=>⟨#[],by rw[q];simp⟩⟩
theorem Un.refl:Un fs ex H H h h:=Un.kept λ _ _ q=>q
theorem Un.laid (k:∀ b u,h.get? b=some u->h'.get? b=some u) (hp:h.objs.size<=a) (hn:H a=none):Un fs ex H (upd H a o) h h' where
 keep:=λ b u q _ _ _=>k b u q
 slot:=λ b u q _ _ _=>⟨u.slots,k b u q⟩
 free:=λ b u q n _=>by rw[Al (z0l (z0F (z07 q) hp))];exact n
 there:=λ b u q _=>⟨u,k b u q⟩
 tups:=λ b xs q=>by rw[Al (Ck q hn)];exact q
 frzs:=λ b u xs q=>by rw[Al (Ck q hn)];exact q
 tbls:=λ b ps q=>⟨#[],by rw[Al (Ck q hn),q];simp⟩
theorem Un.write (mu:Mut (H x)) (he:e=x∨H e=some (.own x)) (k:∀ b u,b≠e->h.get? b=some u->h'.get? b=some u) (heo:∃ u,h'.get? e=some u):Un fs ex H (upd H x o) h h':=by
 have hx:∀ b,H b=none->b≠x:=λ b n z=>by subst z;rw[n] at mu;exact mu
 have hb:∀ b,H b=none->b≠e:=λ b n z=>by
  subst z
  rcases he with r | r
  ·exact hx b n r
  ·rw[n] at r;cases r
 have hm:∀ b u,H b=some u->¬ Mut (some u)->b≠x:=λ b u q nm z=>by subst z;rw[q] at mu;exact nm mu
 refine⟨λ b u q n _ _=>k b u (hb b n) q,λ b u q n _ _=>⟨u.slots,k b u (hb b n) q⟩,λ b u q n _=>by rw[Al (hx b n)];exact n,λ b u q _=>?_,
  λ b xs q=>by rw[Al (hm b _ q λ z=>z)];exact q,λ b u xs q=>by rw[Al (hm b _ q λ z=>z)];exact q,λ b ps q=>⟨#[],by rw[Al (hm b _ q λ z=>z),q];simp⟩⟩
 by_cases hbe:b=e
 ·subst hbe;exact heo
 ·exact⟨u,k b u hbe q⟩
theorem Un.mono (u:Un fs ex H H1 h h1) (hs:∀ b∈fs,b∈fs') (hx:∀ b∈ex,b∈ex'):Un fs' ex' H H1 h h1:=
 ⟨λ b ob q n hb he=>u.keep b ob q n (λ z=>hb (hs b z)) λ z=>he (hx b z),λ _ _ q n _ he=>u.any q n λ z=>he (hx _ z),λ b ob q n he=>u.free b ob q n λ z=>he (hx b z),λ b ob q he=>u.there b ob q λ z=>he (hx b z),u.tups,u.frzs,u.tbls⟩
end
def trk (h:Heap) (H:Hp):List Addr:=(List.range h.objs.size).filter λ a=>(H a).isSome
def hidT (h:Heap) (H:Hp):Heap:=PySem.W.hideAll h (trk h H)
theorem Zj (h:Heap) (H:Hp):(hidT h H).objs.size=h.objs.size:=PySem.W.hideAll_size _ _
theorem aV {H:Hp}{o:Obj}(e:h.get? b=some o) (n:H b=none):(hidT h H).get? b=some o:=
 PySem.W.hideAll_get _ e λ hm=>by
  have q:(H b).isSome=true:=(z0q.mp hm).2;rw[n] at q;simp at q
theorem gf {H:Hp}{o:Obj}(e:(hidT h H).get? b=some o):h.get? b=some o/\H b=none:=by
 have e':h.get? b=some o:=PySem.W.of_hideAll (trk h H) e;refine⟨e',?_⟩;cases q:H b with
 | none=>rfl
 | some x=>
  have hm:b∈trk h H:=z0q.mpr ⟨z0o.mpr (z07 e'),by simp[q]⟩;have z:(hidT h H).get? b=none:=PySem.W.hideAll_none (trk h H) hm;rw[z] at e;cases e
def gj (g h:Heap) (L:Addr):List (Addr×Obj):=(List.range h.objs.size).filterMap λ a=>if a=L∨(g.get? a).isSome=true then none else (h.get? a).map λ o=>(a,o)
def rest (g h:Heap) (L d:Addr):List (Addr×Obj):=(gj g h L).filter λ p=>decide (p.1≠d)
structure Mod (K:zFr) (mg:Str->Option Value) (base:Heap):Prop where
 kin:K.In base
 glob:base.Ns mainGlobals mg
 blt:∃ mb,base.Ns builtinsNs mb/\∀ x:Str,x≠"__name__"->mb x=bootBuiltins x
 nolimit:base.NoLimit
structure Cx where
 prog:Program
 w:World
 K:PySem.W.Frag
 mg:Str->Option Value
 base:Heap
 A:Around
 N:List Str
 s₀:Shared
 H₀:Hp
 env:Env
 outer:List Env
 stack:List Env
 ex:List Addr
 fn:Str->Bool
 calm:Bool
 pn:List (Addr×Obj)
 xe:Value->Shared->Prop
def frs (l:List Env):List Addr:=l.filterMap (·.frame)
abbrev Cx.fs (X:Cx):List Addr:=frs X.outer
def Vis (sc:Scope) (x:Str):Prop:=sc.names.lookup x=some .local ∨sc.names.lookup x=some .cell ∨sc.names.lookup x=some .free
def Loc (sc:Scope) (x:Str):Prop:=sc.names.lookup x=some .local ∨sc.names.lookup x=some .cell
def Look (env:Env) (h:Heap) (m:Str->Option Value) (x:Str) (u:Value):Prop:=
 (env.kindOf x=some .local /\m x=some u)∨((env.kindOf x=some .cell ∨env.kindOf x=some .free)/\∃ c,env.cells.lookup x=some c/\h.IsCell c (some u))
structure Cx.Ok (X:Cx):Prop where
 mod:Mod X.K X.mg X.base
 kind:X.env.scope.kind=.function
 glob:X.env.globals=mainGlobals
 blt:X.env.builtins=builtinsNs
 above:X.s₀.heap.objs.size<=X.env.locals
 inj:∀ x y c,X.env.cells.lookup x=some c->X.env.cells.lookup y=some c->x=y
 has:∀ x,(X.env.kindOf x=some .cell ∨X.env.kindOf x=some .free)->∃ c,X.env.cells.lookup x=some c
 cab:∀ x c,X.fn x=true->X.env.cells.lookup x=some c->X.s₀.heap.objs.size<=c
 hd:X.calm=true->X.A.handled=none
 frames:X.A.frames=some X.stack
 stk:X.stack=X.outer∨(X.stack=X.env::X.outer/\X.env.frame=some X.env.locals)
 exf:∀ b∈X.ex,b≠X.env.locals/\∀ x c,X.env.cells.lookup x=some c->c≠b
 bs:∀ b o,X.base.get? b=some o->X.s₀.heap.get? b=some o/\X.H₀ b=none
 bsz:X.base.objs.size<=X.s₀.heap.objs.size
 noex:∀ b o,X.base.get? b=some o->b∉X.ex
 exfs:∀ b∈X.ex,b∉X.fs
 funs:X.s₀.heap.FunFrames X.base X.outer
 frf:∀ b∈X.fs,X.H₀ b=none
structure Inv (X:Cx) (π:zP) (σ:List (Option V)) (H:Hp) (s:Shared):Prop where
 ok:X.Ok
 os:s.os=X.s₀.os
 bare:AllBare s.gens
 base:Un X.fs X.ex X.H₀ H X.s₀.heap s.heap
 loc:∃ m,s.heap.Ns X.env.locals m/\∀ (i:Nat) (x:Str) (v:V),X.N[i]?=some x->σ[i]?=some (some v)->Vis X.env.scope x->∃ u,RelV v u/\Look X.env s.heap m x u
 cell:∀ x c,X.env.cells.lookup x=some c->∃ v,s.heap.IsCell c v
 free:H X.env.locals=none
 freeC:∀ x c,X.env.cells.lookup x=some c->H c=none
 pin:∀ p∈X.pn++π,s.heap.get? p.1=some p.2/\H p.1=none/\p.1≠X.env.locals/\p.1∉X.fs/\∀ v,p.2.data≠.cell v
 hok:HOk X.prog X.w H s.heap
 len:σ.length=X.N.length
section
variable {X:Cx}{σ:List (Option V)}{H H':Hp}
theorem Cx.Ok.nofr (ok:X.Ok) {b:Addr}{o:Obj}(e:X.base.get? b=some o):b∉X.fs:=λ hb=>by
 have:=(ok.funs.mem hb).1;rw[e] at this;cases this
theorem Inv.bs (I:Inv X π σ H s):∀ b o,X.base.get? b=some o->s.heap.get? b=some o/\H b=none:=λ b o e=>
 ⟨I.base.keep b o (I.ok.bs b o e).1 (I.ok.bs b o e).2 (I.ok.nofr e) (I.ok.noex b o e),I.base.free b o (I.ok.bs b o e).1 (I.ok.bs b o e).2 (I.ok.noex b o e)⟩
theorem Inv.bk (I:Inv X π σ H s):∀ b o,X.base.get? b=some o->s.heap.get? b=some o:=λ b o e=>(I.bs b o e).1
theorem Inv.mod (I:Inv X π σ H s):Mod X.K X.mg X.base:=I.ok.mod
theorem Inv.kIn (I:Inv X π σ H s):X.K.In s.heap:=I.ok.mod.kin.keeps I.bk
theorem Inv.nolimit (I:Inv X π σ H s):s.heap.NoLimit:=I.ok.mod.nolimit.keeps I.bk
theorem Inv.fr (I:Inv X π σ H s):∃ m,Fr X.base X.env.locals s.heap m:=
 let ⟨m,hn,_⟩:=I.loc
 ⟨m,hn,I.bk,z0t I.ok.bsz I.ok.above⟩
theorem Inv.lt (I:Inv X π σ H s):X.env.locals<s.heap.objs.size:=let ⟨_,hn,_⟩:=I.loc;hn.lt
theorem Inv.sz (I:Inv X π σ H s):X.s₀.heap.objs.size<=s.heap.objs.size:=z0t I.ok.above (Nat.le_of_lt I.lt)
theorem Inv.nofs (I:Inv X π σ H s) {a:Addr}(h:s.heap.objs.size<=a):a∉X.fs:=λ hb=>by
 obtain⟨_,o,ho,_⟩:=I.ok.funs.mem hb;exact absurd (z0F (z07 ho) (z0t I.sz h)) (z1a _)
theorem Inv.cne (I:Inv X π σ H s):∀ x c,X.env.cells.lookup x=some c->c≠X.env.locals:=λ x c e z=>by
 obtain⟨v,o,ho,hd⟩:=I.cell x c e;obtain⟨m,⟨o',es,ep,ho',hd',_⟩,_⟩:=I.loc;rw[z,ho'] at ho;cases ho;rw[hd'] at hd;cases hd
theorem Inv.funs (I:Inv X π σ H s):s.heap.FunFrames X.base X.outer:=by
 have all:∀ (l:List Env),(∀ b∈frs l,b∈X.fs)->X.s₀.heap.FunFrames X.base l->s.heap.FunFrames X.base l:=by
  intro l
  induction l with
  | nil=>intro _ _;trivial
  | cons env r ih=>
   intro hs hl;obtain⟨hk,⟨L,o,hf,hn,ho,hd⟩,hr⟩:=hl;have hL:L∈X.fs:=hs L (by unfold frs;rw[List.filterMap_cons,hf];exact z0h);obtain⟨sl,e⟩:=I.base.slot L o ho (I.ok.frf L hL) hL λ z=>I.ok.exfs L z hL;exact⟨hk,⟨L,_,hf,hn,e,hd⟩,ih (λ b hb=>hs b (by unfold frs;rw[List.filterMap_cons,hf];exact z0b _ hb)) hr⟩
 exact all X.outer (λ _ hb=>hb) I.ok.funs
theorem Inv.stack (I:Inv X π σ H s):s.heap.FunFrames X.base X.stack:=by
 rcases I.ok.stk with e | ⟨e,hf⟩
 ·rw[e];exact I.funs
 ·rw[e];obtain⟨m,hn,_⟩:=I.loc;refine .cons (by rw[I.ok.kind];decide) hf hn ?_ I.funs;exact Heap.get?_none_of_le (z0t I.ok.bsz I.ok.above)
theorem Inv.stkSub (I:Inv X π σ H s):∀ b∈frs X.stack,b∈X.env.locals::X.fs:=λ b hb=>by
 rcases I.ok.stk with e | ⟨e,hf⟩
 ·rw[e] at hb;exact z0b _ hb
 ·rw[e] at hb;unfold frs at hb;rw[List.filterMap_cons,hf] at hb;exact hb
theorem Inv.stkFree (I:Inv X π σ H s):∀ b∈frs X.stack,H b=none:=λ b hb=>by
 rcases z08.mp (I.stkSub b hb) with e | hb
 ·rw[e];exact I.free
 ·obtain⟨_,o,ho,_⟩:=I.ok.funs.mem hb;exact I.base.free b o ho (I.ok.frf b hb) λ z=>I.ok.exfs b z hb
theorem Inv.step {g':Array GenState}{d':Drawn}(I:Inv X π σ H s)
  (hch:∀ b∈ch,(b∈X.ex∨X.s₀.heap.objs.size<=b)/\b≠X.env.locals/\(∀ x c,X.env.cells.lookup x=some c->c≠b)/\∀ p∈X.pn++π,p.1≠b)
  (keep:∀ b o,b≠X.env.locals->b∉X.fs->b∉ch->s.heap.get? b=some o->H b=none->h'.get? b=some o)
  (slot:∀ b o,b≠X.env.locals->b∈X.fs->b∉ch->s.heap.get? b=some o->H b=none->∃ sl,h'.get? b=some { o with slots:=sl }) (free:∀ b o,b∉ch->s.heap.get? b=some o->H b=none->H' b=none)
  (there:∀ b o,b∉ch->s.heap.get? b=some o->∃ o',h'.get? b=some o')
  (tups:∀ b xs,H b=some (.tup xs)->H' b=some (.tup xs)) (frzs:∀ b o u,H b=some (.frz o u)->H' b=some (.frz o u)) (tbls:∀ b ps,H b=some (.tbl ps)->∃ more,H' b=some (.tbl (ps++more)))
  (ns:∀ m,s.heap.Ns X.env.locals m->h'.Ns X.env.locals m) (hok:HOk X.prog X.w H' h') (hg:AllBare g') :
  Inv X π σ H' { s with heap:=h',gens:=g',drawn:=d',toks:=t' }:=by
 have neL:∀ b o,X.s₀.heap.get? b=some o->b≠X.env.locals:=λ b o e=>z0l (z0F (z07 e) I.ok.above);have neC:∀ b o,X.s₀.heap.get? b=some o->b∉X.ex->b∉ch:=λ b o e hx hb=>by
  rcases (hch b hb).1 with z | z
  ·exact hx z
  ·exact absurd (z0F (z07 e) z) (z1a _)
 have cellK:∀ x c,X.env.cells.lookup x=some c->∀ v,s.heap.IsCell c v->h'.IsCell c v:=λ x c e v ⟨o,ho,hd⟩=>by
  have nch:c∉ch:=λ z=>(hch c z).2.2.1 x c e rfl
  by_cases hc:c∈X.fs
  ·obtain⟨sl,q⟩:=slot c o (I.cne x c e) hc nch ho (I.freeC x c e);exact⟨_,q,hd⟩
  ·exact⟨o,keep c o (I.cne x c e) hc nch ho (I.freeC x c e),hd⟩
 refine⟨I.ok,I.os,hg,⟨λ b o e n hb hx=>?_,λ b o e n hb hx=>?_,λ b o e n hx=>?_,λ b o e hx=>?_,λ b xs e=>tups b xs (I.base.tups b xs e),λ b o xs e=>frzs b o xs (I.base.frzs b o xs e),λ b ps e=>?_⟩,?_,λ x c e=>?_,?_,λ x c e=>?_,λ p hp=>?_,hok,I.len⟩
 ·exact keep b o (neL b o e) hb (neC b o e hx) (I.base.keep b o e n hb hx) (I.base.free b o e n hx)
 ·obtain⟨sl,e1⟩:=I.base.slot b o e n hb hx;obtain⟨sl',e2⟩:=slot b _ (neL b o e) hb (neC b o e hx) e1 (I.base.free b o e n hx);exact⟨sl',e2⟩
 ·obtain⟨o',e1⟩:=I.base.there b o e hx;exact free b o' (neC b o e hx) e1 (I.base.free b o e n hx)
 ·obtain⟨o',e1⟩:=I.base.there b o e hx;exact there b o' (neC b o e hx) e1
 ·obtain⟨m1,e1⟩:=I.base.tbls b ps e;obtain⟨m2,e2⟩:=tbls b _ e1;exact⟨m1++m2,by rw[e2,Array.append_assoc]⟩
 ·obtain⟨m,hn,hl⟩:=I.loc;refine⟨m,ns m hn,λ i x v e1 e2 e3=>?_⟩;obtain⟨u,r,l⟩:=hl i x v e1 e2 e3;refine⟨u,r,?_⟩
  rcases l with l | ⟨k,c,e,z⟩
  ·exact .inl l
  ·exact .inr ⟨k,c,e,cellK x c e _ z⟩
 ·obtain⟨v,z⟩:=I.cell x c e;exact⟨v,cellK x c e v z⟩
 ·obtain⟨m,⟨o,_,_,ho,_⟩,_⟩:=I.loc;exact free _ o (λ z=>(hch _ z).2.1 rfl) ho I.free
 ·obtain⟨v,o,ho,hd⟩:=I.cell x c e;exact free c o (λ z=>(hch c z).2.2.1 x c e rfl) ho (I.freeC x c e)
 ·obtain⟨e,n,ne,nf,d⟩:=I.pin p hp;have nch:p.1∉ch:=λ z=>(hch p.1 z).2.2.2 p hp rfl;exact⟨keep p.1 p.2 ne nf nch e n,free p.1 p.2 nch e n,ne,nf,d⟩
theorem Inv.un (I:Inv X π σ H s) (u:Un X.fs [] H H' s.heap h') (hok:HOk X.prog X.w H' h'):Inv X π σ H' { s with heap:=h',toks:=t' }:=by
 obtain⟨m,⟨o,es,ep,ho,r⟩,_⟩:=id I.loc;obtain⟨sl,hL⟩:=u.any ho I.free (by simp);exact I.step (g':=s.gens) (d':=s.drawn) (ch:=[]) (λ _ z=>nomatch z) (λ b o _ hb _ e n=>u.keep b o e n hb (by simp)) (λ b o _ hb _ e n=>u.slot b o e n hb (by simp)) (λ b o _ e n=>u.free b o e n (by simp)) (λ b o _ e=>u.there b o e (by simp)) u.tups u.frzs u.tbls (λ m' hm=>by
  obtain⟨o',es',ep',ho',r'⟩:=hm;rw[ho] at ho';cases ho';exact⟨_,es',ep',hL,r'⟩) hok I.bare
theorem Inv.call {g':Array GenState}{d':Drawn}(I:Inv X π σ H s) (u:Un (frs X.stack) ch H H' s.heap h') (hok:HOk X.prog X.w H' h') (hg:AllBare g')
  (hch:∀ b∈ch,(b∈X.ex∨X.s₀.heap.objs.size<=b)/\b≠X.env.locals/\(∀ x c,X.env.cells.lookup x=some c->c≠b)/\∀ p∈X.pn++π,p.1≠b) :
  Inv X π σ H' { s with heap:=h',gens:=g',drawn:=d',toks:=t' }:=by
 obtain⟨m,⟨o,es,ep,ho,r⟩,_⟩:=id I.loc;obtain⟨sl,hL⟩:=u.any ho I.free λ z=>(hch _ z).2.1 rfl;exact I.step (ch:=ch) hch (λ b o hL hb hc e n=>u.keep b o e n (λ z=>(z08.mp (I.stkSub b z)).elim hL hb) hc) (λ b o _ _ hc e n=>u.any e n hc) (λ b o hc e n=>u.free b o e n hc) (λ b o hc e=>u.there b o e hc) u.tups u.frzs u.tbls (λ m' hm=>by
  obtain⟨o',es',ep',ho',r'⟩:=hm;rw[ho] at ho';cases ho';exact⟨_,es',ep',hL,r'⟩) hok hg
theorem Inv.turned (I:Inv X π σ H s) (k:∀ b o,b≠it->s.heap.get? b=some o->h'.get? b=some o) (hn:H it=none) (hL:it≠X.env.locals)
  (h1:it∈X.ex∨X.s₀.heap.objs.size<=it) (h2:∀ x c,X.env.cells.lookup x=some c->c≠it) (h3:∀ p∈X.pn++π,p.1≠it):Inv X π σ H { s with heap:=h',toks:=t' }:=by
 have nit:∀ b u,H b=some u->b≠it:=λ b u e z=>by rw[z,hn] at e;cases e
 refine I.step (g':=s.gens) (d':=s.drawn) (ch:=[it]) (λ b hb=>?_) (λ b o _ _ hc e _=>k b o (λ z=>hc (by simp[z])) e) (λ b o _ _ hc e _=>⟨o.slots,k b o (λ z=>hc (by simp[z])) e⟩) (λ _ _ _ _ n=>n)
  (λ b o hc e=>⟨o,k b o (λ z=>hc (by simp[z])) e⟩) (λ _ _ e=>e) (λ _ _ _ e=>e) (λ b ps e=>⟨#[],by rw[e];simp⟩) (λ m hm=>?_) (λ b u e=>?_) I.bare
 ·have e:b=it:=by simpa using hb
  subst e;exact⟨h1,hL,h2,h3⟩
 ·obtain⟨o,es,ep,ho,r⟩:=hm;exact⟨o,es,ep,k _ o (Ne.symm hL) ho,r⟩
 ·refine (I.hok b u e).stay (λ c v hc q=>k c v ?_ q) (λ _ q=>q) λ _ _ q=>q
  rcases hc with z | z
  ·rw[z];exact nit b u e
  ·exact nit c _ z
theorem Inv.tok (I:Inv X π σ H s) (t:Nat):Inv X π σ H { s with toks:=t }:=I.un (h':=s.heap) (t':=t) Un.refl I.hok
theorem Inv.kept {t':Nat}(I:Inv X π σ H s) (k:∀ b u,s.heap.get? b=some u->h'.get? b=some u):Inv X π σ H { s with heap:=h',toks:=t' }:=I.un (Un.kept k) (I.hok.kept k)
theorem Inv.laid {a:Addr}{o:HO}{t':Nat}(I:Inv X π σ H s) (k:∀ b u,s.heap.get? b=some u->h'.get? b=some u) (hp:s.heap.objs.size<=a) (new:BK X.prog X.w (upd H a o) h' a o) :
  Inv X π σ (upd H a o) { s with heap:=h',toks:=t' }:=I.un (Un.laid k hp (I.hok.fresh hp)) (I.hok.laid k hp new)
theorem Inv.write {x e:Addr}{o:HO}{t':Nat}(I:Inv X π σ H s) (mu:Mut (H x)) (he:e=x∨H e=some (.own x)) (k:∀ b u,b≠e->s.heap.get? b=some u->h'.get? b=some u) (heo:∃ u,h'.get? e=some u)
  (new:BK X.prog X.w (upd H x o) h' x o):Inv X π σ (upd H x o) { s with heap:=h',toks:=t' }:=I.un (Un.write mu he k heo) (I.hok.write mu he k heo new)
theorem Inv.pins_of {pins':zP}(I:Inv X π σ H s) (h:∀ p∈pins',s.heap.get? p.1=some p.2/\H p.1=none/\p.1≠X.env.locals/\p.1∉X.fs/\∀ v,p.2.data≠.cell v):Inv X pins' σ H s:=
 ⟨I.ok,I.os,I.bare,I.base,I.loc,I.cell,I.free,I.freeC,λ p hp=>(z0L.mp hp).elim (λ z=>I.pin p (z0M _ z)) (h p),I.hok,I.len⟩
theorem Jy (hN:N.Nodup) {i j:Nat}{x:Str}(a:N[i]?=some x) (b:N[j]?=some x):i=j:=by
 obtain⟨h1,e1⟩:=z0m.mp a;obtain⟨h2,e2⟩:=z0m.mp b;exact (List.getElem_inj hN).mp (e1.trans e2.symm)
theorem Zk {A:Around}{x:Str}{v:V}{Q:Unit->Shared->Prop}(I:Inv X π σ H s) (hN:X.N.Nodup) (hi:X.N[i]?=some x) (hx:Loc X.env.scope x) (r:RelV v u)
  (h:∀ s',Inv X π (σ.set i (some v)) H s'->(∃ a,Heap.SameBut a s.heap s'.heap/\(a=X.env.locals∨X.env.cells.lookup x=some a))->Q () s') (hf:X.fn x=true∨X.env.scope.names.lookup x=some .local :=by first | exact .inl rfl | exact .inr rfl | assumption):wpAny M A (storeName X.env x u) Q E s:=by
 obtain⟨m,hn,hl⟩:=id I.loc;have hcls:(X.env.scope.kind==.class||(X.env.scope.kind==.module&&X.env.locals != X.env.globals))=false:=by rw[I.ok.kind];rfl
 have hiσ:i<σ.length:=by rw[I.len];exact (z0m.mp hi).1
 have cne:=I.cne;have tracked:∀ {a:Addr}{h':Heap},(∃ o,s.heap.get? a=some o/\H a=none)->Heap.SameBut a s.heap h'->HOk X.prog X.w H h':=λ {a h'} ha hs b ob e=>by
  obtain⟨_,_,hfree⟩:=ha;refine (I.hok b ob e).stay (λ c w' hc q=>(hs.2 c ?_).trans q) (λ _ q=>q) λ _ _ q=>q;rintro rfl
  rcases hc with rfl | hc
  ·rw[hfree] at e;cases e
  ·rw[hfree] at hc;cases hc
 rcases hx with hk | hk
 ·refine wpAny_storeName_local hk hn (λ h' hn' hs=>?_) hcls;obtain⟨oL,_,_,hoL,_⟩:=id hn;refine h _ ⟨I.ok,I.os,I.bare,⟨λ b o e n hb hx=>?_,λ b o e n hb hx=>?_,I.base.free,λ b o e hx=>?_,I.base.tups,I.base.frzs,I.base.tbls⟩,⟨_,hn',λ j y v' e1 e2 e3=>?_⟩,λ y c e=>?_,I.free,I.freeC,λ p hp=>?_,tracked ⟨oL,hoL,I.free⟩ hs,by simpa using I.len⟩ ⟨_,hs,.inl rfl⟩
  ·exact (hs.2 b (z0l (z0F (z07 e) I.ok.above))).trans (I.base.keep b o e n hb hx)
  ·obtain⟨sl,e1⟩:=I.base.slot b o e n hb hx;exact⟨sl,(hs.2 b (z0l (z0F (z07 e) I.ok.above))).trans e1⟩
  ·obtain⟨o',e1⟩:=I.base.there b o e hx;exact⟨o',(hs.2 b (z0l (z0F (z07 e) I.ok.above))).trans e1⟩
  ·by_cases hj:j=i
   ·subst hj;rw[hi] at e1;cases e1;rw[z10 hiσ] at e2;cases e2;exact⟨u,r,.inl ⟨hk,by simp⟩⟩
   ·rw[z0D (Ne.symm hj)] at e2;obtain⟨u',r',q⟩:=hl j y v' e1 e2 e3;refine⟨u',r',?_⟩
    rcases q with ⟨k,e⟩ | ⟨k,c,e,z⟩
    ·refine .inl ⟨k,?_⟩;have:y≠x:=λ e=>hj (Jy hN e1 (e▸hi));simp[this,e]
    ·exact .inr ⟨k,c,e,z.sameBut hs (cne y c e)⟩
  ·obtain⟨w',z⟩:=I.cell y c e;exact⟨w',z.sameBut hs (cne y c e)⟩
  ·obtain⟨e,n,ne,nf,d⟩:=I.pin p hp;exact⟨(hs.2 p.1 ne).trans e,n,ne,nf,d⟩
 ·have hfn:X.fn x=true:=by
   rcases hf with z | z
   ·exact z
   ·rw[z] at hk;cases hk
  obtain⟨c,hc⟩:=I.ok.has x (.inl hk);obtain⟨w',z⟩:=I.cell x c hc;refine wpAny_storeName_cell I.ok.kind hk hc z (λ h' hc' hs=>?_);obtain⟨oc,hoc,hocd⟩:=id z;refine h { s with heap:=h' } ⟨I.ok,I.os,I.bare,⟨λ b o e n hb hx=>?_,λ b o e n hb hx=>?_,I.base.free,λ b o e hx=>?_,I.base.tups,I.base.frzs,I.base.tbls⟩,⟨m,hn.sameBut hs (Ne.symm (cne x c hc)),λ j y v' e1 e2 e3=>?_⟩,λ y c' e=>?_,I.free,I.freeC,λ p hp=>?_,tracked ⟨oc,hoc,I.freeC x c hc⟩ hs,by simpa using I.len⟩ ⟨c,hs,.inr hc⟩
  ·exact (hs.2 b (z0l (z0F (z07 e) (I.ok.cab x c hfn hc)))).trans (I.base.keep b o e n hb hx)
  ·obtain⟨sl,e1⟩:=I.base.slot b o e n hb hx;exact⟨sl,(hs.2 b (z0l (z0F (z07 e) (I.ok.cab x c hfn hc)))).trans e1⟩
  ·obtain⟨o',e1⟩:=I.base.there b o e hx;exact⟨o',(hs.2 b (z0l (z0F (z07 e) (I.ok.cab x c hfn hc)))).trans e1⟩
  ·by_cases hj:j=i
   ·subst hj;rw[hi] at e1;cases e1;rw[z10 hiσ] at e2;cases e2;exact⟨u,r,.inr ⟨.inl hk,c,hc,hc'⟩⟩
   ·rw[z0D (Ne.symm hj)] at e2;obtain⟨u',r',q⟩:=hl j y v' e1 e2 e3;refine⟨u',r',?_⟩
    rcases q with q | ⟨k,c',e,z'⟩
    ·exact .inl q
    ·refine .inr ⟨k,c',e,z'.sameBut hs ?_⟩;rintro rfl;exact hj (Jy hN e1 (I.ok.inj _ _ _ e hc▸hi))
  ·by_cases hcc:c'=c
   ·subst hcc;exact⟨_,hc'⟩
   ·obtain⟨w2,z2⟩:=I.cell y c' e;exact⟨w2,z2.sameBut hs hcc⟩
  ·obtain⟨e,n,ne,nf,d⟩:=I.pin p hp;refine⟨(hs.2 p.1 ?_).trans e,n,ne,nf,d⟩;intro q;rw[q,hoc] at e;have q':oc=p.2:=z0e e;exact d w' (by rw[<-q'];exact hocd)
theorem VH {A:Around}{x:Str}{v:V}{Q:Unit->Shared->Prop}(I:Inv X π σ H s) (hN:X.N.Nodup) (hi:X.N[i]?=some x) (hx:Loc X.env.scope x) (r:RelV v u)
  (h:∀ s',Inv X π (σ.set i (some v)) H s'->Q () s') (hf:X.fn x=true∨X.env.scope.names.lookup x=some .local :=by first | exact .inl rfl | exact .inr rfl | assumption):wpAny M A (storeName X.env x u) Q E s:=
 Zk I hN hi hx r (λ s' I' _=>h s' I') hf
theorem Inv.call' {s':Shared}(I:Inv X π σ H s) (ho:s'.os=s.os) (u:Un (frs X.stack) ch H H' s.heap s'.heap) (hok:HOk X.prog X.w H' s'.heap) (hg:AllBare s'.gens)
  (hch:∀ b∈ch,(b∈X.ex∨X.s₀.heap.objs.size<=b)/\b≠X.env.locals/\(∀ x c,X.env.cells.lookup x=some c->c≠b)/\∀ p∈X.pn++π,p.1≠b):Inv X π σ H' s':=by
 obtain⟨h',g',d',t',o'⟩:=s';have e:o'=s.os:=ho;subst e;exact I.call (g':=g') (t':=t') (d':=d') u hok hg hch
end
abbrev XK:=Value->Option Addr->Hp->Prop
abbrev St:=List (Option V)
abbrev VK:=V->Hp->Prop
abbrev TE:=St->Hp->VK->Prop
abbrev TT:=St->Hp->(Bool->Hp->Prop)->Prop
abbrev TA:=St->Hp->(List V->Hp->Prop)->Prop
structure Ends where
 nx:St->Hp->Prop
 rt:VK
 bk:St->Hp->Prop:=λ _ _=>False
 ct:St->Hp->Prop:=λ _ _=>False
abbrev TS:=Ends->St->Hp->Prop
def EP (X:Cx) (π:zP) (σ:St) (Q:VK) (u:Value) (s':Shared):Prop:=∃ v H',Inv X π σ H' s'/\RelV v u/\Q v H'
def TP (X:Cx) (π:zP) (σ:St) (Q:Bool->Hp->Prop) (b:Bool) (s':Shared):Prop:=∃ H',Inv X π σ H' s'/\Q b H'
def AP (X:Cx) (π:zP) (σ:St) (Q:List V->Hp->Prop) (us:List Value) (s':Shared):Prop:=∃ vs H',Inv X π σ H' s'/\Vals vs us/\Q vs H'
def SP (X:Cx) (π:zP) (D:Ends) (f:Flow) (s':Shared):Prop:=
 match f with
 | .next=>∃ σ' H',Inv X π σ' H' s'/\D.nx σ' H'
 | .brk=>∃ σ' H',Inv X π σ' H' s'/\D.bk σ' H'
 | .cont=>∃ σ' H',Inv X π σ' H' s'/\D.ct σ' H'
 | .ret u=>∃ v σ' H',Inv X π σ' H' s'/\RelV v u/\D.rt v H'
def PE (X:Cx) (e:Expr) (t:TE):Prop:=
 ∀ (π:zP) (s:Shared) (σ:St) (H:Hp) (Q:VK),Inv X π σ H s->t σ H Q->wpAny (model X.prog X.w) X.A (eval e X.env) (EP X π σ Q) X.xe s
def PT (X:Cx) (e:Expr) (t:TT):Prop:=
 ∀ (π:zP) (s:Shared) (σ:St) (H:Hp) (Q:Bool->Hp->Prop),Inv X π σ H s->t σ H Q->wpAny (model X.prog X.w) X.A (isTrue e X.env (eval e X.env)) (TP X π σ Q) X.xe s
def PW (X:Cx) (e:Expr) (t:TT):Prop:=
 ∀ (whole:Sem Value) (π:zP) (s:Shared) (σ:St) (H:Hp) (Q:Bool->Hp->Prop),Inv X π σ H s->t σ H Q->wpAny (model X.prog X.w) X.A (isTrue e X.env whole) (TP X π σ Q) X.xe s
theorem PW.pt {X:Cx}{t:TT}(h:PW X e t):PT X e t:=h _
def PA (X:Cx) (es:List Expr) (t:TA):Prop:=
 ∀ (pos:Pos) (π:zP) (s:Shared) (σ:St) (H:Hp) (Q:List V->Hp->Prop),Inv X π σ H s->t σ H Q->wpAny (model X.prog X.w) X.A (spliced (backTo pos (starEach es X.env))) (AP X π σ Q) X.xe s
def PS (X:Cx) (st:Stmt) (t:TS):Prop:=
 ∀ (π:zP) (s:Shared) (σ:St) (H:Hp) (D:Ends),Inv X π σ H s->t D σ H->wpAny (model X.prog X.w) X.A (exec st X.env) (SP X π D) X.xe s
def PSs (X:Cx) (st:List Stmt) (t:TS):Prop:=
 ∀ (π:zP) (s:Shared) (σ:St) (H:Hp) (D:Ends),Inv X π σ H s->t D σ H->wpAny (model X.prog X.w) X.A (execs st X.env) (SP X π D) X.xe s
theorem thn {α:Type}{t:Sem α}{Q Q':α->Shared->Prop}{A:Around}(h:wpAny M A t Q E s) (hQ:∀ a s,Q a s->Q' a s):wpAny M A t Q' E s:=z0R h hQ λ _ _ x=>x
section
variable {X:Cx}
def tVar (i:Nat):TE:=λ σ H Q=>∃ v,σ[i]?=some (some v)/\Q v H
def tC (v:V):TE:=λ _ H Q=>Q v H
theorem mj {x:Str}(hN:X.N[i]?=some x) (hv:Vis X.env.scope x) (hd:(x==("__debug__":Str))=false:=by decide) (hcd:(x==("__classdict__":Str))=false:=by decide):PE X (.Name x pos) (tVar i):=by
 intro π s σ H Q I h;obtain⟨v,e,h⟩:=h;obtain⟨m,hn,hl⟩:=I.loc;obtain⟨u,r,l⟩:=hl i x v hN e hv;have fin:EP X π σ Q u s:=⟨v,H,I,r,h⟩
 rcases l with ⟨hk,hm⟩ | ⟨hk,c,hc,hcell⟩
 ·exact wpAny_Name (wpAny_loadName_local I.ok.kind hk hn hm fin) hd
 ·rcases hk with hk | hk
  ·exact wpAny_Name (wpAny_loadName_cell I.ok.kind hk hc hcell fin) hd
  ·exact wpAny_Name (wpAny_loadName_free I.ok.kind hk hc hcell fin hcd) hd
theorem mq {i j pos}:PE X (.Constant (.int i) j pos) (tC (.int i)):=λ _ _ _ H _ I h=>wpAny_Constant_int ⟨.int i,H,I.tok _,⟨_,rfl⟩,h⟩
theorem qH {b j pos}:PE X (.Constant (.bool b) j pos) (tC (.bl b)):=λ _ _ _ H _ I h=>Constant_bool ⟨.bl b,H,I,rfl,h⟩
theorem my {j pos}:PE X (.Constant .none j pos) (tC .non):=λ _ _ _ H _ I h=>Constant_none ⟨.non,H,I,rfl,h⟩
theorem mz {x j pos}:PE X (.Constant (.str x) j pos) (tC (.str x)):=λ _ _ _ H _ I h=>Calls.Constant_str ⟨.str x,H,I.tok _,⟨_,rfl⟩,h⟩
def Gl (X:Cx) (x:Str):Prop:=X.env.kindOf x=some .globalImplicit
theorem S5 {σ:St}{H:Hp}{x:Str}{Q:zQ}(I:Inv X π σ H s) (hg:Gl X x) (hm:X.mg x=some u) (h:Q u s)
  (hd:(x==("__debug__":Str))=false:=by decide):wpAny (model X.prog X.w) X.A (eval (.Name x pos) X.env) Q E s:=
 Calls.Name_function_global I.ok.kind hg (Calls.loadGlobal_global (by rw[I.ok.glob];exact I.mod.glob.keeps I.bk) hm h) hd
theorem QM {σ:St}{H:Hp}{x:Str}{Q:zQ}(I:Inv X π σ H s) (hg:Gl X x) (hm:X.mg x=none) (hv:bootBuiltins x=some u) (h:Q u s)
  (hn:x≠"__name__":=by decide) (hd:(x==("__debug__":Str))=false:=by decide):wpAny (model X.prog X.w) X.A (eval (.Name x pos) X.env) Q E s:=by
 obtain⟨mb,h1,h2⟩:=I.mod.blt;exact Calls.Name_function_global I.ok.kind hg (Calls.loadGlobal_builtin (by rw[I.ok.glob];exact I.mod.glob.keeps I.bk) hm (by rw[I.ok.blt];exact h1.keeps I.bk) ((h2 x hn).trans hv) h) hd
theorem Ka {x:Str}{v:V}(hg:Gl X x) (hm:X.mg x=some u) (r:RelV v u) (hd:(x==("__debug__":Str))=false:=by decide):PE X (.Name x pos) (tC v):=
 λ _ _ _ H _ I h=>S5 I hg hm ⟨v,H,I,r,h⟩ hd
theorem gk {x:Str}{v:V}(hg:Gl X x) (hm:X.mg x=none) (hv:bootBuiltins x=some u) (r:RelV v u) (hn:x≠"__name__":=by decide) (hd:(x==("__debug__":Str))=false:=by decide):PE X (.Name x pos) (tC v):=
 λ _ _ _ H _ I h=>QM I hg hm hv ⟨v,H,I,r,h⟩ hn hd
def t2I (ta tb:TE) (k:Int->Int->Hp->Prop):St->Hp->Prop:=λ σ H=>ta σ H λ x H1=>tb σ H1 λ y H2=>∃ i j,x=.int i/\y=.int j/\k i j H2
variable {a b:Expr}{ta tb:TE}
def PC (X:Cx) (op:CmpOp) (a b:Expr) (t:TE):Prop:=
 ∀ (π:zP) (s:Shared) (σ:St) (H:Hp) (Q:VK),Inv X π σ H s->t σ H Q ->
  wpAny (model X.prog X.w) X.A (eval a X.env) (λ v s₁=>wpAny (model X.prog X.w) X.A (eval b X.env) (λ u s₂=>wpAny (model X.prog X.w) X.A (compareOp op v u) (EP X π σ Q) X.xe s₂) X.xe s₁) X.xe s
theorem aW (b:Expr) {op:CmpOp}(h:op≠.In) (h2:op≠.NotIn):behindInMarks op b=false:=by
 have e1:(op==CmpOp.In)=false:=by cases op<;>first | rfl | exact absurd rfl h
 have e2:(op==CmpOp.NotIn)=false:=by cases op<;>first | rfl | exact absurd rfl h2
 cases b<;>simp[behindInMarks,e1,e2]
def tCmp (p:Int->Int->Bool) (ta tb:TE):TE:=λ σ H Q=>t2I ta tb (λ i j H2=>Q (.bl (p i j)) H2) σ H
abbrev tLt:TE->TE->TE:=tCmp λ i j=>decide (i<j)
abbrev tLe:TE->TE->TE:=tCmp λ i j=>decide (i<=j)
abbrev tGt:TE->TE->TE:=tCmp λ i j=>decide (j<i)
abbrev tGe:TE->TE->TE:=tCmp λ i j=>decide (j<=i)
def tIsN (ta:TE):TE:=λ σ H Q=>ta σ H λ x H1=>Q (.bl (decide (x=.non))) H1
def qI (ta:TE):TE:=λ σ H Q=>ta σ H λ x H1=>Q (.bl (!decide (x=.non))) H1
theorem RelV.none_iff {x:V}{v:Value}(r:RelV x v):(v==Value.none)=decide (x=.non):=by
 cases x with
 | non=>cases r;rfl
 | bl _=>cases r;rfl
 | int _=>obtain⟨t,rfl⟩:=r;rfl
 | str _=>obtain⟨t,rfl⟩:=r;rfl
 | byt _=>obtain⟨t,rfl⟩:=r;rfl
 | flt _=>obtain⟨t,rfl⟩:=r;rfl
 | ref _=>cases r;rfl
 | ty _=>cases r;rfl
theorem m5 {j pos'} (ha:PE X a ta):PC X .Is a (.Constant .none j pos') (tIsN ta):=by
 intro π s σ H Q I h;refine thn (ha π s σ H _ I h) λ v s1 ⟨x,H1,I1,r1,q1⟩=>?_;exact Constant_none (is_none_gen ⟨.bl _,H1,I1,by rw[r1.none_iff];rfl,q1⟩)
theorem gq {j pos'} (ha:PE X a ta):PC X .IsNot a (.Constant .none j pos') (qI ta):=by
 intro π s σ H Q I h;refine thn (ha π s σ H _ I h) λ v s1 ⟨x,H1,I1,r1,q1⟩=>?_;exact Constant_none (isnot_none_gen ⟨.bl _,H1,I1,by rw[r1.none_iff];rfl,q1⟩)
def tB (t:TE):TT:=λ σ H Q=>t σ H λ x H1=>∃ c,x=.bl c/\Q c H1
theorem aX {op:CmpOp}{t:TE}(h:PC X op a b t) (h1:behindInMarks op b=false:=by first | exact aW _ (by decide) (by decide) | rfl):PT X (.Compare a [op] [b] pos) (tB t):=by
 intro π s σ H Q I hw;refine wpAny_isTrue_Compare1 (thn (h π s σ H _ I hw) λ v s1 h1=>thn h1 λ u s2 h2=>thn h2 λ c s3 ⟨x,H1,I1,r1,q1⟩=>?_) h1;obtain⟨d,rfl,q⟩:=q1;cases r1;exact wpAny_truthy_bool ⟨H1,I1,q⟩
variable {tA tB':TT}{rest:List Expr}
def tAnd (t u:TT):TT:=λ σ H Q=>t σ H λ c H1=>if c=true then u σ H1 Q else Q false H1
def tOr (t u:TT):TT:=λ σ H Q=>t σ H λ c H1=>if c=true then Q true H1 else u σ H1 Q
def tNot (t:TT):TT:=λ σ H Q=>t σ H λ c H1=>Q (!c) H1
theorem gr (ha:PT X a tA):PW X (.BoolOp .And [a] pos) tA:=by
 intro wh π s σ H Q I h;refine isTrue_and (thn (ha π s σ H Q I h) λ c s1 e=>?_);cases c with
 | true=>exact isTrue_and_nil e
 | false=>exact e
theorem aZ (ha:PT X a tA):PW X (.BoolOp .Or [a] pos) tA:=by
 intro wh π s σ H Q I h;refine isTrue_or (thn (ha π s σ H Q I h) λ c s1 e=>?_);cases c with
 | false=>exact isTrue_or_nil e
 | true=>exact e
theorem m6 (ha:PT X a tA) (hb:PW X (.BoolOp .And (b::rest) pos) tB'):PW X (.BoolOp .And (a::b::rest) pos) (tAnd tA tB'):=by
 intro wh π s σ H Q I h;refine isTrue_and (thn (ha π s σ H _ I h) λ c s1 ⟨H1,I1,q1⟩=>?_);cases c with
 | true=>exact hb wh π s1 σ H1 Q I1 q1
 | false=>exact⟨H1,I1,q1⟩
theorem kO (ha:PT X a tA) (hb:PW X (.BoolOp .Or (b::rest) pos) tB'):PW X (.BoolOp .Or (a::b::rest) pos) (tOr tA tB'):=by
 intro wh π s σ H Q I h;refine isTrue_or (thn (ha π s σ H _ I h) λ c s1 ⟨H1,I1,q1⟩=>?_);cases c with
 | true=>exact⟨H1,I1,q1⟩
 | false=>exact hb wh π s1 σ H1 Q I1 q1
theorem m7 (ha:PT X a tA):PT X (.UnaryOp .Not a pos) (tNot tA):=by
 intro π s σ H Q I h;exact isTrue_not (ha π s σ H (λ c H1=>Q (!c) H1) I h)
def qJ (ta tb:TE):TE:=λ σ H Q=>ta σ H λ x H1=>∃ c,x=.bl c/\if c=true then tb σ H1 Q else Q (.bl false) H1
theorem m8 {op} {t:TE}(h:PE X a t):PE X (.BoolOp op [a] pos) t:=λ π s σ H Q I hw=>BoolOp_one (h π s σ H Q I hw)
theorem m9 (ha:PE X a ta) (hb:PE X (.BoolOp .And (b::rest) pos) tb):PE X (.BoolOp .And (a::b::rest) pos) (qJ ta tb):=by
 intro π s σ H Q I h;refine BoolOp_and (thn (ha π s σ H _ I h) λ v s1 ⟨x,H1,I1,r1,q1⟩=>?_);obtain⟨c,rfl,q1⟩:=q1;cases r1;refine wpAny_truthy_bool ?_;cases c with
 | true=>exact hb π s1 σ H1 Q I1 q1
 | false=>exact⟨.bl false,H1,I1,rfl,q1⟩
end
def SqL (K:zFr) (H:Hp) (a:Addr) (xs:List V):Prop:=
 Rd H a (.lst xs) ∨
  ∃ (o:Obj) (its:Array Value) (n:Nat),K.lookup a=some o/\o.cls=.type "list"/\o.dict=none/\o.data=.seq its n/\its.size<=sizeLine/\Vals xs its.toList
def SqT (K:zFr) (H:Hp) (a:Addr) (xs:List V):Prop:=
 Rd H a (.tup xs) ∨
  ∃ (o:Obj) (its:Array Value) (n:Nat),K.lookup a=some o/\o.cls=.type "tuple"/\o.data=.seq its n/\its.size<=sizeLine/\Vals xs its.toList
def absV:Value->Option V
 | .none=>some .non
 | .bool b=>some (.bl b)
 | .int i _=>some (.int i)
 | .str x _=>some (.str x)
 | .bytes b _=>some (.byt b)
 | .float b _=>some (.flt b)
 | .ref a=>some (.ref a)
 | .type n=>some (.ty n)
 | _=>none
theorem RelV.abs {x:V}(r:RelV x u):absV u=some x:=by
 cases x with
 | non=>cases r;rfl
 | bl _=>cases r;rfl
 | int _=>obtain⟨t,rfl⟩:=r;rfl
 | str _=>obtain⟨t,rfl⟩:=r;rfl
 | byt _=>obtain⟨t,rfl⟩:=r;rfl
 | flt _=>obtain⟨t,rfl⟩:=r;rfl
 | ref _=>cases r;rfl
 | ty _=>cases r;rfl
theorem RelV.inj {x y:V}{u:Value}(r:RelV x u) (q:RelV y u):x=y:=z0e (r.abs.symm.trans q.abs)
theorem Vals.inj:∀ {xs ys:List V}{us:List Value},Vals xs us->Vals ys us->xs=ys
 | _,_,_,.nil,.nil=>rfl
 | _,_,_,.cons r t,.cons r' t'=>by rw[r.inj r',Vals.inj t t']
section
variable {X:Cx}{σ:St}{H:Hp}{xs ys:List V}
theorem SqL.of {K:zFr}(h:H a=some (.lst xs)):SqL K H a xs:=.inl (.inl h)
theorem SqT.of {K:zFr}(h:H a=some (.tup xs)):SqT K H a xs:=.inl (.inl h)
theorem Inv.list (I:Inv X π σ H s) (h:SqL X.K H a xs):∃ its:List Value,Vals xs its/\PlainL s.heap a its.toArray/\xs.length<=sizeLine:=by
 rcases h with h | ⟨o,its,n,hk,hc,hd,hs,hz,r⟩
 ·obtain⟨z,its,n,r,e⟩:=h.ok I.hok;exact⟨its,r,⟨_,n,e,rfl,rfl,rfl⟩,z⟩
 ·refine⟨its.toList,r,⟨o,n,I.kIn a o hk,hc,hd,by simpa using hs⟩,?_⟩;have e:=r.length;simp only[z1b] at e;omega
theorem Inv.tuple (I:Inv X π σ H s) (h:SqT X.K H a xs):∃ its:List Value,Vals xs its/\IsTup s.heap a its.toArray/\xs.length<=sizeLine:=by
 rcases h with h | ⟨o,its,n,hk,hc,hs,hz,r⟩
 ·obtain⟨z,its,r,p⟩:=h.ok I.hok;exact⟨its,r,p,z⟩
 ·refine⟨its.toList,r,⟨o,I.kIn a o hk,hc,n,by simpa using hs⟩,?_⟩;have e:=r.length;simp only[z1b] at e;omega
theorem Inv.list_inj (I:Inv X π σ H s) (h:SqL X.K H a xs) (h':SqL X.K H a ys):xs=ys:=by
 obtain⟨its,r,⟨o,n,e,_,_,d⟩,_⟩:=I.list h;obtain⟨its',r',⟨o',n',e',_,_,d'⟩,_⟩:=I.list h';rw[e] at e';cases e';rw[d] at d';injection d' with d1 _
 have:its=its':=by simpa using congrArg Array.toList d1
 subst this;exact r.inj r'
theorem Inv.tuple_inj (I:Inv X π σ H s) (h:SqT X.K H a xs) (h':SqT X.K H a ys):xs=ys:=by
 obtain⟨its,r,⟨o,e,_,n,d⟩,_⟩:=I.tuple h;obtain⟨its',r',⟨o',e',_,n',d'⟩,_⟩:=I.tuple h';rw[e] at e';cases e';rw[d] at d';injection d' with d1 _
 have:its=its':=by simpa using congrArg Array.toList d1
 subst this;exact r.inj r'
end
abbrev Cx.wish (X:Cx) (E:zQ):Cx:={ X with xe:=E }
abbrev Cx.nox (X:Cx):Cx:=X.wish λ _ _=>False
theorem Cx.Ok.wish {X:Cx}(ok:X.Ok) (E:zQ):(X.wish E).Ok:=
 ⟨ok.mod,ok.kind,ok.glob,ok.blt,ok.above,ok.inj,ok.has,ok.cab,ok.hd,ok.frames,ok.stk,ok.exf,ok.bs,ok.bsz,ok.noex,ok.exfs,ok.funs,ok.frf⟩
theorem Cx.Ok.unwish {X:Cx}(ok:(X.wish E).Ok):X.Ok:=
 ⟨ok.mod,ok.kind,ok.glob,ok.blt,ok.above,ok.inj,ok.has,ok.cab,ok.hd,ok.frames,ok.stk,ok.exf,ok.bs,ok.bsz,ok.noex,ok.exfs,ok.funs,ok.frf⟩
section
variable {X:Cx}{σ:St}{H:Hp}
theorem Inv.wish (I:Inv X π σ H s) (E:zQ):Inv (X.wish E) π σ H s:=⟨I.ok.wish E,I.os,I.bare,I.base,I.loc,I.cell,I.free,I.freeC,I.pin,I.hok,I.len⟩
theorem Inv.unwish (I:Inv (X.wish E) π σ H s):Inv X π σ H s:=⟨I.ok.unwish,I.os,I.bare,I.base,I.loc,I.cell,I.free,I.freeC,I.pin,I.hok,I.len⟩
theorem SP.unwish {D:Ends}{f:Flow}{s':Shared}(h:SP (X.wish E) π D f s'):SP X π D f s':=by
 cases f with
 | next=>obtain⟨σ',H',I,q⟩:=h;exact⟨σ',H',I.unwish,q⟩
 | brk=>obtain⟨σ',H',I,q⟩:=h;exact⟨σ',H',I.unwish,q⟩
 | cont=>obtain⟨σ',H',I,q⟩:=h;exact⟨σ',H',I.unwish,q⟩
 | ret u=>obtain⟨v,σ',H',I,r,q⟩:=h;exact⟨v,σ',H',I.unwish,r,q⟩
theorem PE.nox {t:TE}(h:PE X.nox e t):PE X e t:=λ π s σ H Q I hw=>
 z0R (h π s σ H Q (I.wish _) hw) (λ _ _ ⟨v,H',I',r,q⟩=>⟨v,H',I'.unwish,r,q⟩) λ _ _ z=>False.elim z
theorem PT.nox {t:TT}(h:PT X.nox e t):PT X e t:=λ π s σ H Q I hw=>
 z0R (h π s σ H Q (I.wish _) hw) (λ _ _ ⟨H',I',q⟩=>⟨H',I'.unwish,q⟩) λ _ _ z=>False.elim z
theorem PSs.nox {st:List Stmt}{t:TS}(h:PSs X.nox st t):PSs X st t:=λ π s σ H D I hw=>
 z0R (h π s σ H D (I.wish _) hw) (λ _ _ q=>q.unwish) λ _ _ z=>False.elim z
end
section
variable {X:Cx}{rest:List Stmt}{t u:TS}{te:TE}
def qK:TS:=λ D σ H=>D.nx σ H
def tSeq (t u:TS):TS:=λ D σ H=>t { D with nx:=u D } σ H
theorem O2:PSs X [] qK:=λ _ _ σ H _ I h=>wpAny_execs_nil ⟨σ,H,I,h⟩
theorem Lf (h1:PS X st t) (h2:PSs X rest u):PSs X (st::rest) (tSeq t u):=by
 intro π s σ H D I h;refine wpAny_execs_cons (thn (h1 π s σ H { D with nx:=u D } I h) λ f s1 q=>?_);cases f with
 | next=>
  obtain⟨σ',H',I',q⟩:=q;exact h2 π s1 σ' H' D I' q
 | ret v=>exact q
 | brk=>exact q
 | cont=>exact q
theorem S6 (h1:PS X st t):PSs X [st] t:=by
 intro π s σ H D I h;refine wpAny_execs_cons (thn (h1 π s σ H D I h) λ f s1 q=>?_);cases f with
 | next=>exact wpAny_execs_nil q
 | ret v=>exact q
 | brk=>exact q
 | cont=>exact q
theorem Inv.quiet {σ:St}{H:Hp}(I:Inv X π σ H s):interactive X.env=false:=by simp[interactive,I.ok.kind]
def qL (te:TE):TS:=λ D σ H=>te σ H λ _ H1=>D.nx σ H1
theorem O3 (he:PE X e te) (hs:swapsWith e none pos.line X.env=pure false:=by rfl):PS X (.Expr e pos) (qL te):=by
 intro π s σ H D I h;exact wpAny_Expr_any (thn (he π s σ H _ I h) λ v s1 ⟨x,H1,I1,r1,q1⟩=>⟨σ,H1,I1,q1⟩) I.quiet hs
def tRet (te:TE):TS:=λ D σ H=>te σ H D.rt
theorem aa (he:PE X e te):PS X (.Return (some e) pos) (tRet te):=by
 intro π s σ H D I h;exact wpAny_Return_some (thn (he π s σ H _ I h) λ v s1 ⟨x,H1,I1,r1,q1⟩=>⟨x,σ,H1,I1,r1,q1⟩)
def qM:TS:=λ D _ H=>D.rt .non H
theorem gw:PS X (.Return none pos) qM:=λ _ _ σ H _ I h=>wpAny_Return_none ⟨.non,σ,H,I,rfl,h⟩
def tIfS (c:TT) (t u:TS):TS:=λ D σ H=>c σ H λ b H1=>if b=true then t D σ H1 else u D σ H1
theorem VJ {c:Expr}{a b:List Stmt}{tc:TT}(hc:PT X c tc) (ha:PSs X a t) (hb:PSs X b u):PS X (.If c a b pos) (tIfS tc t u):=by
 intro π s σ H D I h;refine wpAny_If (thn (hc π s σ H _ I h) λ d s1 ⟨H1,I1,q1⟩=>?_);cases d with
 | true=>exact ha π s1 σ H1 D I1 q1
 | false=>exact hb π s1 σ H1 D I1 q1
end
abbrev TG:=V->St->Hp->(St->Hp->Prop)->Prop
abbrev TGs:=List V->St->Hp->(St->Hp->Prop)->Prop
def PG (X:Cx) (target:Expr) (t:TG):Prop:=
 ∀ (π:zP) (s:Shared) (σ:St) (H:Hp) (v:V) (u:Value) (Q:St->Hp->Prop),Inv X π σ H s->RelV v u->t v σ H Q ->
  wpAny (model X.prog X.w) X.A (assign target X.env u) (λ _ s'=>∃ σ' H',Inv X π σ' H' s'/\Q σ' H') X.xe s
def PGs (X:Cx) (ts:List Expr) (t:TGs):Prop:=
 ∀ (π:zP) (s:Shared) (σ:St) (H:Hp) (vs:List V) (us:List Value) (Q:St->Hp->Prop),Inv X π σ H s->Vals vs us->t vs σ H Q ->
  wpAny (model X.prog X.w) X.A (assignInOrder ((assignEach ts X.env).map (·.2)) us) (λ _ s'=>∃ σ' H',Inv X π σ' H' s'/\Q σ' H') X.xe s
section
variable {X:Cx}
def GR (i:Nat):TG:=λ v σ H Q=>Q (σ.set i (some v)) H
theorem O4 {x:Str}(hN:X.N.Nodup) (hi:X.N[i]?=some x) (hx:Loc X.env.scope x) (hf:X.fn x=true∨X.env.scope.names.lookup x=some .local :=by first | exact .inl rfl | exact .inr rfl | assumption):PG X (.Name x pos) (GR i):=by
 intro π s σ H v u Q I r h;exact wpAny_assign_Name (VH I hN hi hx r (λ s' I'=>⟨_,H,I',h⟩) hf)
def gNil:TGs:=λ vs σ H Q=>vs=[]/\Q σ H
def VL (t:TG) (u:TGs):TGs:=λ vs σ H Q=>∃ v r,vs=v::r/\t v σ H λ σ' H'=>u r σ' H' Q
theorem Xg:PGs X [] gNil:=by
 intro π s σ H vs us Q I r h;obtain⟨e,h⟩:=h;subst e;cases r;exact assignInOrder_nil ⟨σ,H,I,h⟩
theorem QQ {t:TG}{u:TGs}(h1:PG X e t) (h2:PGs X es u)
  (hs:(assignEach (e::es) X.env).map (·.2)=assign e X.env::(assignEach es X.env).map (·.2):=by rfl):PGs X (e::es) (VL t u):=by
 intro π s σ H vs us Q I r h;obtain⟨v,vr,e1,h⟩:=h;subst e1;cases r with
 | cons r rr=>
  rw[hs];refine assignInOrder_cons (thn (h1 π s σ H _ _ _ I r h) λ _ s1 ⟨σ1,H1,I1,q1⟩=>?_);exact h2 π s1 σ1 H1 _ _ Q I1 rr q1
def gTup (K:zFr) (n:Nat) (t:TGs):TG:=λ v σ H Q=>∃ a xs,v=.ref a/\SqT K H a xs/\xs.length=n/\t xs σ H Q
theorem aj {k:Nat}{t:TGs}(hc:X.calm=true) (h:PGs X es t)
  (hn:(assignEach es X.env).length=n:=by rfl) (hst:(assignEach es X.env).findIdx? (·.1)=none:=by rfl):PG X (.Tuple es k pos) (gTup X.K n t):=by
 intro π s σ H v u Q I r hw;obtain⟨a,xs,e1,hq,hl,hw⟩:=hw;subst e1;cases r;obtain⟨its,rv,ht,hz⟩:=I.tuple hq;refine assign_Tuple_tuple (I.ok.hd hc) ht (by simp[hn,<-hl,rv.length]) hst λ h' hx=>?_;have I1:Inv X π σ H { s with heap:=h' }:=I.kept (t':=s.toks) λ b o e=>hx b o (z0l (z07 e)) e;exact h π _ σ H xs _ Q I1 (by simpa using rv) hw
def tAsg (te:TE) (g:TG):TS:=λ D σ H=>te σ H λ x H1=>g x σ H1 D.nx
theorem m_ {te:TE}{g:TG}(he:PE X e te) (hg:PG X tg g) (hs:swapsWithSole [tg] e pos.line X.env=pure false:=by rfl) (hw:swappedStores [tg] e X.env=pure none:=by rfl)
  (h1:(assignEach [tg] X.env).map (·.2)=[assign tg X.env]:=by rfl):PS X (.Assign [tg] e pos) (tAsg te g):=by
 intro π s σ H D I h;refine wpAny_Assign_stores (thn (he π s σ H _ I h) λ v s1 ⟨x,H1,I1,r1,q1⟩=>?_) hs hw;rw[h1];exact thn (hg π s1 σ H1 x v _ I1 r1 q1) λ _ s2 q=>q
theorem Wc {x:Str}{te:TE}(hN:X.N.Nodup) (hi:X.N[i]?=some x) (hx:Loc X.env.scope x) (he:PE X e te) (hs:swapsWith e (some (.Name x pos')) pos.line X.env=pure false:=by rfl) (hf:X.fn x=true∨X.env.scope.names.lookup x=some .local :=by first | exact .inl rfl | exact .inr rfl | assumption) :
  PS X (.Assign [.Name x pos'] e pos) (tAsg te (GR i)):=by
 intro π s σ H D I h;refine wpAny_Assign_Name (thn (he π s σ H _ I h) λ v s1 ⟨y,H1,I1,r1,q1⟩=>?_) hs;exact VH I1 hN hi hx r1 (λ s2 I2=>⟨_,H1,I2,q1⟩) hf
end
section
variable {X:Cx}
def nC (c:TT) (tb:TS):TS:=λ D σ H=>∃ W:Nat->St->Hp->Prop,(∃ m,W m σ H)/\∀ m σ H,W m σ H ->
 c σ H λ b H1=>if b=true then ∃ N:St->Hp->Prop,(∀ σ' H',N σ' H'->∃ m',m'<m/\W m' σ' H')/\tb { D with nx:=N,ct:=N,bk:=D.nx } σ H1 else D.nx σ H1
theorem VM {c:Expr}{tc:TT}{tb:TS}(hp:PassesOwn (model X.prog X.w) X.A X.env X.xe) (hc:PT X c tc) (hb:PSs X body tb):PS X (.While c body [] pos) (nC tc tb):=by
 intro π s σ H D I h;obtain⟨W,⟨m0,w0⟩,turn⟩:=h;refine wpAny_While (codeAny_whileLoop (λ n s'=>∃ σ' H',Inv X π σ' H' s'/\W n σ' H') ?_ m0 ⟨σ,H,I,w0⟩);rintro n s1 ⟨σ1,H1,I1,w1⟩;refine z1c hp (thn (hc π s1 σ1 H1 _ I1 (turn n σ1 H1 w1)) λ b s2 ⟨H2,I2,q2⟩=>?_);cases b with
 | true=>
  obtain⟨N,hN,q2⟩:=q2;rw[if_pos rfl];refine z1c hp (thn (hb π s2 σ1 H2 _ I2 q2) λ f s3 q3=>?_);cases f with
  | next=>
   obtain⟨σ3,H3,I3,n3⟩:=q3;obtain⟨m',hm,w3⟩:=hN σ3 H3 n3;exact⟨m',hm,σ3,H3,I3,w3⟩
  | cont=>
   obtain⟨σ3,H3,I3,n3⟩:=q3;obtain⟨m',hm,w3⟩:=hN σ3 H3 n3;exact⟨m',hm,σ3,H3,I3,w3⟩
  | brk=>exact q3
  | ret v=>exact q3
 | false=>
  rw[if_neg z0r];exact wpAny_execs_nil ⟨σ1,H2,I2,q2⟩
end
structure It where
 go:Nat->Hp->Prop
 yld:Nat->Hp->V->Hp->Prop
 stop:Nat->Hp->Prop
def FpOk (X:Cx) (π:zP) (H:Hp) (b:Addr):Prop:=
 H b=none/\b≠X.env.locals/\b∉X.fs/\(b∈X.ex∨X.s₀.heap.objs.size<=b)/\(∀ x c,X.env.cells.lookup x=some c->c≠b)/\∀ p∈X.pn++π,p.1≠b
theorem Inv.fpOk {X:Cx}{σ:St}{H H':Hp}(I:Inv X π σ H s) (hb:s.heap.objs.size<=b) (hn:H' b=none):FpOk X π H' b:=by
 refine⟨hn,Nat.ne_of_gt (z0F I.lt hb),I.nofs hb,.inr (z0t I.sz hb),λ x c e z=>?_,λ p hp z=>?_⟩
 ·obtain⟨v,q⟩:=I.cell x c e;exact absurd (z0F q.lt (by rw[z];exact hb)) (z1a _)
 ·exact absurd (z0F (z07 (I.pin p hp).1) (by rw[z];exact hb)) (z1a _)
structure Turn (P:Program) (w:World) (K:zFr) (tg:Expr) (J:It) (fp:List Addr) (it:Addr) (tn:Nat->Heap->Prop):Prop where
 mem:it∈fp
 obj:∀ i h,tn i h->∀ b∈fp,∃ o,h.get? b=some o/\∀ v,o.data≠.cell v
 keep:∀ i h h',tn i h->(∀ b∈fp,∀ o,h.get? b=some o->h'.get? b=some o)->tn i h'
 item:∀ (X:Cx),X.prog=P->X.w=w->X.K=K->X.calm=true->∀ (i:Nat) (π:zP) (s:Shared) (σ:St) (H:Hp) (E:zQ),Inv X π σ H s->(∀ b∈fp,FpOk X π H b)->tn i s.heap->J.go i H ->
  wpAny (model P w) X.A (pyNext (.ref it)) (λ r s1=>∃ u,r=some u ∧
   wpAny (model P w) X.A (letOwnedTupleGo tg (.ref it) u) (λ _ s2=>∃ x H',Inv X π σ H' s2/\RelV x u/\J.yld i H x H'/\tn (i+1) s2.heap/\∀ b∈fp,H' b=none) E s1) E s
 done:∀ (X:Cx),X.prog=P->X.w=w->X.K=K->X.calm=true->∀ (i:Nat) (π:zP) (s:Shared) (σ:St) (H:Hp) (E:zQ),Inv X π σ H s->(∀ b∈fp,FpOk X π H b)->tn i s.heap->J.stop i H ->
  wpAny (model P w) X.A (pyNext (.ref it)) (λ r s1=>r=none/\Inv X π σ H s1) E s
 self:∀ (A:Around) (i:Nat) (s:Shared) (Q:zQ) (E:zQ),tn i s.heap->Q (.ref it) s->wpAny (model P w) A (pyIter (.ref it)) Q E s
abbrev TI:=St->Hp->(It->Hp->Prop)->Prop
def PIE (X:Cx) (π:zP) (σ:St) (tg:Expr) (R:It->Hp->Prop) (itv:Value) (s2:Shared):Prop:=
 ∃ (it:Addr) (fp:List Addr) (tn:Nat->Heap->Prop) (J:It) (H':Hp),itv=.ref it/\Inv X π σ H' s2/\Turn X.prog X.w X.K tg J fp it tn/\tn 0 s2.heap/\(∀ b∈fp,FpOk X π H' b)/\R J H'
def PI (X:Cx) (tg iter:Expr) (wi:TI):Prop:=
 ∀ (π:zP) (s:Shared) (σ:St) (H:Hp) (R:It->Hp->Prop),Inv X π σ H s->wi σ H R ->
  wpAny (model X.prog X.w) X.A (eval iter X.env) (λ v s1=>wpAny (model X.prog X.w) X.A (pyIter v) (PIE X π σ tg R) X.xe s1) X.xe s
theorem Rp {A:Around}{o:Obj}{n:String}{vs:Array Value}{Q:Unit->Shared->Prop}(ho:s.heap.get? it=some o) (hc:o.cls=.type n) (hd:o.data=.fields vs)
    (hn:["enumerate","zip","dict_itemiterator","dict_reverseitemiterator","odict_iterator","itertools.zip_longest","itertools.pairwise"].contains n=false) (hQ:Q () s):wpAny M A (letOwnedTupleGo tg (.ref it) u) Q E s:=by
  unfold letOwnedTupleGo;cases tg<;>first
    | exact z09 hQ
    | (cases u<;>first
        | exact z09 hQ
        | (refine z02 (wpAny_load ho ?_)
           rw[hc,hd];show wpAny M A (if (["enumerate","zip","dict_itemiterator","dict_reverseitemiterator","odict_iterator","itertools.zip_longest","itertools.pairwise"].contains n&&vs[0]?==some (rawInt _))=true then _ else _) Q E s;rw[if_neg (by intro h;rw[hn,Bool.false_and] at h;cases h)];exact z09 hQ))
def Itl (K:zFr) (a:Addr):It:=
 ⟨λ i H=>∃ xs x,SqL K H a xs/\xs[i]?=some x,λ i H x H'=>H'=H/\∀ xs,SqL K H a xs->xs[i]?=some x,λ i H=>∃ xs,SqL K H a xs/\xs.length<=i⟩
def Itt (K:zFr) (a:Addr):It:=
 ⟨λ i H=>∃ xs x,SqT K H a xs/\xs[i]?=some x,λ i H x H'=>H'=H/\∀ xs,SqT K H a xs->xs[i]?=some x,λ i H=>∃ xs,SqT K H a xs/\xs.length<=i⟩
def Itr (lo:Int) (n:Nat):It:=⟨λ i _=>i<n,λ i H x H'=>H'=H/\x=.int (lo+i),λ i _=>n<=i⟩
theorem Zm {K:zFr}(a it:Addr):Turn P w K tg (Itl K a) [it] it (λ i h=>h.IsListIter it a i) where
 mem:=by simp
 obj:=λ i h st b hb=>by
  have e:b=it:=by simpa using hb
  subst e;obtain⟨o,e,c,d⟩:=st;exact⟨o,e,λ v z=>by rw[d] at z;cases z⟩
 keep:=λ i h h' st k=>st.at λ o e=>k it (by simp) o e
 item:=by
  intro X hP hw hK hc i π s σ H E I hf st hg;subst hP hw hK;obtain⟨xs,x,hq,hx⟩:=hg;obtain⟨its,rv,p,hz⟩:=I.list hq;obtain⟨u,hu,ru⟩:=rv.get hx;obtain⟨f0,f1,f2,f3,f4,f5⟩:=hf it (by simp);refine wpAny_pyNext_list_item st p.isList (x:=u) (by simpa using hu) λ h' st' sb=>?_;have I1:Inv X π σ H { s with heap:=h' }:=I.turned (t':=s.toks) (λ b o hb e=>(sb.2 b hb).trans e) f0 f1 f3 f4 f5;obtain⟨o,e,c,d⟩:=id st';exact⟨u,rfl,Rp (s:={ s with heap:=h' }) e c d (by decide) ⟨x,H,I1,ru,⟨rfl,λ ys hy=>by rw[I.list_inj hy hq];exact hx⟩,st',λ b hb=>(hf b hb).1⟩⟩
 done:=by
  intro X hP hw hK hc i π s σ H E I hf st hg;subst hP hw hK;obtain⟨xs,hq,hx⟩:=hg;obtain⟨its,rv,p,hz⟩:=I.list hq;obtain⟨f0,f1,f2,f3,f4,f5⟩:=hf it (by simp);have hl:=rv.length;exact wpAny_pyNext_list_end (I.ok.hd hc) st p.isList (by simp;omega) λ h' eb=>⟨rfl,I.turned (t':=s.toks) (λ b o hb e=>eb b o hb e) f0 f1 f3 f4 f5⟩
 self:=λ _ _ _ _ _ st h=>wpAny_pyIter_listiter st h
theorem We {K:zFr}(a it:Addr):Turn P w K tg (Itt K a) [it] it (λ i h=>h.IsTupleIter it a i) where
 mem:=by simp
 obj:=λ i h st b hb=>by
  have e:b=it:=by simpa using hb
  subst e;obtain⟨o,e,c,d⟩:=st;exact⟨o,e,λ v z=>by rw[d] at z;cases z⟩
 keep:=λ i h h' st k=>st.at λ o e=>k it (by simp) o e
 item:=by
  intro X hP hw hK hc i π s σ H E I hf st hg;subst hP hw hK;obtain⟨xs,x,hq,hx⟩:=hg;obtain⟨its,rv,p,hz⟩:=I.tuple hq;obtain⟨u,hu,ru⟩:=rv.get hx;obtain⟨f0,f1,f2,f3,f4,f5⟩:=hf it (by simp);refine wpAny_pyNext_tuple_item st (show s.heap.IsTuple a its.toArray from p) (x:=u) (by simpa using hu) λ h' st' sb=>?_;have I1:Inv X π σ H { s with heap:=h' }:=I.turned (t':=s.toks) (λ b o hb e=>(sb.2 b hb).trans e) f0 f1 f3 f4 f5;obtain⟨o,e,c,d⟩:=id st';exact⟨u,rfl,Rp (s:={ s with heap:=h' }) e c d (by decide) ⟨x,H,I1,ru,⟨rfl,λ ys hy=>by rw[I.tuple_inj hy hq];exact hx⟩,st',λ b hb=>(hf b hb).1⟩⟩
 done:=by
  intro X hP hw hK hc i π s σ H E I hf st hg;subst hP hw hK;obtain⟨xs,hq,hx⟩:=hg;obtain⟨its,rv,p,hz⟩:=I.tuple hq;obtain⟨f0,f1,f2,f3,f4,f5⟩:=hf it (by simp);have hl:=rv.length;exact wpAny_pyNext_tuple_end (I.ok.hd hc) st (show s.heap.IsTuple a its.toArray from p) (by simp;omega) λ h' eb=>⟨rfl,I.turned (t':=s.toks) (λ b o hb e=>eb b o hb e) f0 f1 f3 f4 f5⟩
 self:=λ _ _ _ _ _ st h=>wpAny_pyIter_tupleiter st h
theorem Wf {K:zFr}(it:Addr) (lo:Int) (n:Nat):Turn P w K tg (Itr lo n) [it] it (λ i h=>IsRangeIter h it (lo+(i:Nat)*1) ((n:Int)-(i:Nat)) 1) where
 mem:=by simp
 obj:=λ i h st b hb=>by
  have e:b=it:=by simpa using hb
  subst e;exact⟨_,st,λ v z=>by
   have z':Data.fields _=Data.cell v:=z;cases z'⟩
 keep:=λ i h h' st k=>k it (by simp) _ st
 item:=by
  intro X hP hw hK hc i π s σ H E I hf st hg;subst hP hw hK;obtain⟨f0,f1,f2,f3,f4,f5⟩:=hf it (by simp);have W:=Walks.range (prog:=X.prog) (w:=X.w) (I.ok.hd hc) it lo 1 n;refine W.item i s _ _ hg st λ v h' tk hv st' kk=>?_;obtain⟨t,rfl⟩:=hv;have I1:Inv X π σ H { s with heap:=h',toks:=tk }:=I.turned (λ b o hb e=>kk b o (by simpa using hb) e) f0 f1 f3 f4 f5;refine⟨_,rfl,Rp (s:={ s with heap:=h',toks:=tk }) (n:="range_iterator") st' rfl rfl (by decide) ⟨.int (lo+i),H,I1,⟨t,?_⟩,⟨rfl,rfl⟩,st',λ b hb=>(hf b hb).1⟩⟩;rw[Int.mul_one]
 done:=by
  intro X hP hw hK hc i π s σ H E I hf st hg;subst hP hw hK;obtain⟨f0,f1,f2,f3,f4,f5⟩:=hf it (by simp);exact wpAny_pyNext_range_end (I.ok.hd hc) st (by have:n<=i:=hg;omega) λ h' eb=>⟨rfl,I.turned (t':=s.toks) (λ b o hb e=>eb b o hb e) f0 f1 f3 f4 f5⟩
 self:=λ _ _ _ _ _ st h=>wpAny_pyIter_rangeiter st h
section
variable {X:Cx}
def qN (K:zFr) (tl:TE):TI:=λ σ H R=>tl σ H λ x H1=>∃ a,x=.ref a/\(∃ xs,SqL K H1 a xs)/\R (Itl K a) H1
def iTup (K:zFr) (tl:TE):TI:=λ σ H R=>tl σ H λ x H1=>∃ a,x=.ref a/\(∃ xs,SqT K H1 a xs)/\R (Itt K a) H1
theorem g8 {l:Expr}{tl:TE}(hl:PE X l tl):PI X tg l (qN X.K tl):=by
 intro π s σ H R I h;refine thn (hl π s σ H _ I h) λ v s1 ⟨x,H1,I1,r1,q1⟩=>?_;obtain⟨a,e,⟨xs,hq⟩,q⟩:=q1;subst e;cases r1;obtain⟨its,rv,p,hz⟩:=I1.list hq;refine wpAny_pyIter_list p.isList ?_;refine⟨s1.heap.objs.size,[s1.heap.objs.size],_,_,H1,rfl,I1.kept (t':=s1.toks) λ b o e=>z0c _ e,Zm a _,⟨_,z0i _ rfl,rfl,rfl⟩,λ b hb=>?_,q⟩;have e:b=s1.heap.objs.size:=by simpa using hb
 subst e;exact I1.fpOk (z01 _) (I1.hok.fresh (z01 _))
theorem nD {l:Expr}{tl:TE}(hl:PE X l tl):PI X tg l (iTup X.K tl):=by
 intro π s σ H R I h;refine thn (hl π s σ H _ I h) λ v s1 ⟨x,H1,I1,r1,q1⟩=>?_;obtain⟨a,e,⟨xs,hq⟩,q⟩:=q1;subst e;cases r1;obtain⟨its,rv,p,hz⟩:=I1.tuple hq;refine wpAny_pyIter_tuple (show s1.heap.IsTuple a its.toArray from p) ?_;refine⟨s1.heap.objs.size,[s1.heap.objs.size],_,_,H1,rfl,I1.kept (t':=s1.toks) λ b o e=>z0c _ e,We a _,⟨_,z0i _ rfl,rfl,rfl⟩,λ b hb=>?_,q⟩;have e:b=s1.heap.objs.size:=by simpa using hb
 subst e;exact I1.fpOk (z01 _) (I1.hok.fresh (z01 _))
theorem ak {σ:St}{H:Hp}{R:It->Hp->Prop}{lo hi:Int}{t u v:Tok}{tk:Nat}(I:Inv X π σ H s) (h1 : -(2^62)<=lo) (h2:lo<2^62) (h3 : -(2^62)<=hi) (h4:hi<2^62)
  (q:R (Itr lo (hi-lo).toNat) H):wpAny (model X.prog X.w) X.A (pyIter (.ref s.heap.objs.size)) (PIE X π σ tg R) E { s with heap:=s.heap.push { cls:=.type "range",data:=.fields #[.int lo t,.int hi u,.int 1 v] },toks:=tk }:=by
 refine wpAny_pyIter_range (IsRange.new ..) (small_one h1 h2 h3 h4) ?_;have I1:Inv X π σ H { s with heap:=s.heap.push { cls:=.type "range",data:=.fields #[.int lo t,.int hi u,.int 1 v] },toks:=tk }:=I.kept λ b o e=>z0c _ e;refine⟨(s.heap.push { cls:=.type "range",data:=.fields #[.int lo t,.int hi u,.int 1 v] }).objs.size,[(s.heap.push { cls:=.type "range",data:=.fields #[.int lo t,.int hi u,.int 1 v] }).objs.size],_,_,H,rfl,
  I1.kept (t':=tk) λ b o e=>z0c _ e,Wf _ lo (hi-lo).toNat,?_,λ b hb=>?_,q⟩
 ·have e1:lo+((0:Nat):Int)*1=lo:=by simp
  have e2:(((hi-lo).toNat:Nat):Int)-((0:Nat):Int)=Builtin.Range.rangeSize lo hi 1:=by rw[rangeSize_one];split<;>omega
  show IsRangeIter _ _ (lo+((0:Nat):Int)*1) ((((hi-lo).toNat:Nat):Int)-((0:Nat):Int)) 1;rw[e1,e2];exact z0i _ rfl
 ·have e:b=(s.heap.push { cls:=.type "range",data:=.fields #[.int lo t,.int hi u,.int 1 v] }).objs.size:=by simpa using hb
  subst e;exact I1.fpOk (z01 _) (I1.hok.fresh (z01 _))
def qO (ta:TA):TI:=λ σ H R=>ta σ H λ vs H1=>∃ j:Int,vs=[.int j]/\-(2^62)<=j/\j<2^62/\R (Itr 0 j.toNat) H1
theorem Zn {a:Expr}{ta:TA}{p:Pos}(hg:Gl X "range") (hm:X.mg "range"=none) (ha:PA X [a] ta) (hs:starEach [a] X.env=[(false,eval a X.env)]:=by rfl):PI X tg (.Call (.Name "range" p) [a] [] pos) (qO ta):=by
 intro π s σ H R I h;refine Call_ (QM I hg hm boot_range (PyProof.Rows.callWith_type1 (thn (ha pos π s σ H _ I h) λ us s1 ⟨vs,H1,I1,r1,q1⟩=>?_) hs rfl));obtain⟨j,e,q1,q2,q⟩:=q1;subst e;cases r1 with
 | cons r rr=>
  cases rr;obtain⟨t,rfl⟩:=r;exact call_range_1 (ak I1 (by omega) (by omega) q1 q2 (by simpa using q))
def tFor (wi:TI) (g:TG) (tb:TS):TS:=λ D σ H=>wi σ H λ J H1=>∃ W:Nat->Nat->St->Hp->Prop,(∃ m,W 0 m σ H1)/\∀ i m σ H,W i m σ H ->
 (J.stop i H/\D.nx σ H)∨(J.go i H/\∃ N:St->Hp->Prop,(∀ σ' H',N σ' H'->∃ m',m'<m/\W (i+1) m' σ' H')/\∀ x H',J.yld i H x H'->g x σ H' λ σ2 H2=>tb { D with nx:=N,ct:=N,bk:=D.nx } σ2 H2)
def QR (fp:List Addr) (h:Heap):List (Addr×Obj):=fp.filterMap λ b=>(h.get? b).map λ o=>(b,o)
theorem JP {o:Obj}(hb:b∈fp) (e:h.get? b=some o):(b,o)∈QR fp h:=List.mem_filterMap.mpr ⟨b,hb,by rw[e];rfl⟩
theorem Zo {p:Addr×Obj}(hp:p∈QR fp h):p.1∈fp/\h.get? p.1=some p.2:=by
 obtain⟨b,hb,e⟩:=List.mem_filterMap.mp hp;cases q:h.get? b with
 | none=>rw[q] at e;cases e
 | some o=>
  rw[q] at e;have e':(b,o)=p:=z0e e;subst e';exact⟨hb,q⟩
theorem Inv.pinned {σ:St}{H:Hp}(I:Inv X π σ H s) (hf:∀ b∈fp,FpOk X π H b) (ho:∀ b∈fp,∃ o,s.heap.get? b=some o/\∀ v,o.data≠.cell v):Inv X (π++QR fp s.heap) σ H s:=
 I.pins_of λ p hp=>(z0L.mp hp).elim (λ z=>I.pin p (z0A _ z)) λ z=>by
  obtain⟨hb,e⟩:=Zo z;obtain⟨f0,f1,f2,_⟩:=hf p.1 hb;obtain⟨o,e',d⟩:=ho p.1 hb;rw[e] at e';cases e';exact⟨e,f0,f1,f2,d⟩
theorem Inv.unpinned {pl:zP}{σ:St}{H:Hp}(I:Inv X (π++pl) σ H s):Inv X π σ H s:=I.pins_of λ p hp=>I.pin p (z0A _ (z0M _ hp))
theorem Wg {iter:Expr}{wi:TI}{g:TG}{tb:TS}(hp:PassesOwn (model X.prog X.w) X.A X.env X.xe) (hc:X.calm=true) (hi:PI X tg iter wi) (hg:PG X tg g) (hb:PSs X body tb)
  (hs:∀ x,foldedSetIterable iter X.env x=pure x:=by intro _;rfl):PS X (.For tg iter body [] pos) (tFor wi g tb):=by
 intro π s σ H D I h;refine wpAny_For (thn (hi π s σ H _ I h) λ v s1 h1=>thn h1 λ itv s2 h2=>?_) hs;obtain⟨it,fp,tn,J,H2,e,I2,T,st2,f2,W,⟨m0,w0⟩,turn⟩:=h2;subst e;have stat:∀ {H':Hp},(∀ b∈fp,H' b=none)->∀ b∈fp,FpOk X π H' b:=λ hn b hb=>⟨hn b hb,(f2 b hb).2⟩;refine codeAny_forLoop_any (λ n s'=>∃ i σ' H',Inv X π σ' H' s'/\tn i s'.heap/\(∀ b∈fp,H' b=none)/\W i n σ' H') ?_ m0 ⟨0,σ,H2,I2,st2,λ b hb=>(f2 b hb).1,w0⟩;rintro n s3 ⟨i,σ3,H3,I3,st3,fr3,w3⟩
 rcases turn i n σ3 H3 w3 with ⟨stop,qn⟩ | ⟨go,N,hN,step⟩
 ·refine z1c hp (thn (T.done X rfl rfl rfl hc i π s3 σ3 H3 X.xe I3 (stat fr3) st3 stop) λ r s4 ⟨hr,I4⟩=>?_);subst hr;exact wpAny_execs_nil ⟨σ3,H3,I4,qn⟩
 ·refine z1c hp (thn (T.item X rfl rfl rfl hc i π s3 σ3 H3 X.xe I3 (stat fr3) st3 go) λ r s4 ⟨u,hr,h4⟩=>?_);subst hr;refine z1c hp (thn h4 λ _ s5 ⟨x,H5,I5,r5,y5,st5,fr5⟩=>?_);have I5':=I5.pinned (stat fr5) (T.obj _ _ st5);refine z1c hp (thn (hg _ s5 σ3 H5 x u _ I5' r5 (step x H5 y5)) λ _ s6 ⟨σ6,H6,I6,q6⟩=>?_);refine z1c hp (thn (hb _ s6 σ6 H6 _ I6 q6) λ f s7 q7=>?_);have again:∀ {σ7:St}{H7:Hp},Inv X (π++QR fp s5.heap) σ7 H7 s7->N σ7 H7->∃ m,m<n/\∃ i σ' H',Inv X π σ' H' s7/\tn i s7.heap/\(∀ b∈fp,H' b=none)/\W i m σ' H':=λ {σ7 H7} I7 n7=>by
   obtain⟨m',hm,w7⟩:=hN σ7 H7 n7;refine⟨m',hm,i+1,σ7,H7,I7.unpinned,T.keep _ _ _ st5 λ b hb o e=>(I7.pin (b,o) (z0A _ (z0A _ (JP hb e)))).1,λ b hb=>?_,w7⟩;obtain⟨o,e,d⟩:=T.obj _ _ st5 b hb;exact (I7.pin (b,o) (z0A _ (z0A _ (JP hb e)))).2.1
  cases f with
  | next=>obtain⟨σ7,H7,I7,n7⟩:=q7;exact again I7 n7
  | cont=>obtain⟨σ7,H7,I7,n7⟩:=q7;exact again I7 n7
  | brk=>obtain⟨σ7,H7,I7,q7⟩:=q7;exact⟨σ7,H7,I7.unpinned,q7⟩
  | ret v=>obtain⟨x7,σ7,H7,I7,r7,q7⟩:=q7;exact⟨x7,σ7,H7,I7.unpinned,r7,q7⟩
end
abbrev R2:=V->V->Hp->VK->Prop
def OpR (X:Cx) (f:Value->Value->Sem Value) (r:R2):Prop:=
 ∀ (π:zP) (s:Shared) (σ:St) (H:Hp) (x y:V) (v u:Value) (Q:VK),Inv X π σ H s->RelV x v->RelV y u->r x y H Q ->
  wpAny (model X.prog X.w) X.A (f v u) (EP X π σ Q) X.xe s
def Do (X:Cx) (f:Value) (r:List V->Hp->VK->Prop):Prop:=
 ∀ (π:zP) (s:Shared) (σ:St) (H:Hp) (xs:List V) (us:List Value) (Q:VK),Inv X π σ H s->Vals xs us->r xs H Q ->
  wpAny (model X.prog X.w) X.A (call f us) (EP X π σ Q) X.xe s
def TruR (X:Cx) (r:V->Hp->(Bool->Hp->Prop)->Prop):Prop:=
 ∀ (π:zP) (s:Shared) (σ:St) (H:Hp) (x:V) (v:Value) (Q:Bool->Hp->Prop),Inv X π σ H s->RelV x v->r x H Q ->
  wpAny (model X.prog X.w) X.A (truthy v) (TP X π σ Q) X.xe s
def tOp (r:R2) (ta tb:TE):TE:=λ σ H Q=>ta σ H λ x H1=>tb σ H1 λ y H2=>r x y H2 Q
def rI (C:Int->Int->Prop) (g:Int->Int->V):R2:=λ x y H Q=>∃ i j,x=.int i/\y=.int j/\C i j/\Q (g i j) H
def rI0 (g:Int->Int->V):R2:=λ x y H Q=>∃ i j,x=.int i/\y=.int j/\Q (g i j) H
section
variable {X:Cx}{a b c:Expr}{ta tb tc:TE}
theorem binT (ha:PE X a ta) (hb:PE X b tb) {π:zP}{s:Shared}{σ:St}{H:Hp}{R:V->V->Hp->Prop}(I:Inv X π σ H s)
  (h:ta σ H λ x H1=>tb σ H1 λ y H2=>R x y H2) {Q:zQ}{f:Value->Value->Sem Value}
  (hf:∀ v u s2 x y H2,Inv X π σ H2 s2->RelV x v->RelV y u->R x y H2->wpAny (model X.prog X.w) X.A (f v u) Q X.xe s2) :
  wpAny (model X.prog X.w) X.A (eval a X.env) (λ v s₁=>wpAny (model X.prog X.w) X.A (eval b X.env) (λ u s₂=>wpAny (model X.prog X.w) X.A (f v u) Q X.xe s₂) X.xe s₁) X.xe s:=by
 refine thn (ha π s σ H _ I h) λ v s1 ⟨x,H1,I1,r1,q1⟩=>?_;refine thn (hb π s1 σ H1 _ I1 q1) λ u s2 ⟨y,H2,I2,r2,q2⟩=>?_;exact hf v u s2 x y H2 I2 r1 r2 q2
theorem kW {op:Operator}{r:R2}(ho:OpR X (binaryOp op) r) (ha:PE X a ta) (hb:PE X b tb):PE X (.BinOp a op b pos) (tOp r ta tb):=by
 intro π s σ H Q I h;exact wpAny_BinOp (binT ha hb I h λ v u s2 x y H2 I2 rx ry q=>ho π s2 σ H2 x y v u Q I2 rx ry q)
theorem opI {f:Value->Value->Sem Value}{C:Int->Int->Prop}{g:Int->Int->Int}(rule:∀ (i j:Int) (t u:Tok) (s:Shared) (Q:zQ) (E:zQ),C i j->Q (.int (g i j) s.toks) { s with toks:=s.toks+1 }->wpAny (model X.prog X.w) X.A (f (.int i t) (.int j u)) Q E s) :
  OpR X f (rI C λ i j=>.int (g i j)):=by
 intro π s σ H x y v u Q I rx ry h;obtain⟨i,j,rfl,rfl,hc,q⟩:=h;obtain⟨t,rfl⟩:=rx;obtain⟨t',rfl⟩:=ry;exact rule i j t t' s _ _ hc ⟨.int (g i j),H,I.tok _,⟨_,rfl⟩,q⟩
theorem opI0 {f:Value->Value->Sem Value}{g:Int->Int->Int}(rule:∀ (i j:Int) (t u:Tok) (s:Shared) (Q:zQ) (E:zQ),Q (.int (g i j) s.toks) { s with toks:=s.toks+1 }->wpAny (model X.prog X.w) X.A (f (.int i t) (.int j u)) Q E s) :
  OpR X f (rI0 λ i j=>.int (g i j)):=by
 intro π s σ H x y v u Q I rx ry h;obtain⟨i,j,rfl,rfl,q⟩:=h;obtain⟨t,rfl⟩:=rx;obtain⟨t',rfl⟩:=ry;exact rule i j t t' s _ _ ⟨.int (g i j),H,I.tok _,⟨_,rfl⟩,q⟩
theorem opB0 {f:Value->Value->Sem Value}{g:Int->Int->Bool}(rule:∀ (i j:Int) (t u:Tok) (s:Shared) (Q:zQ) (E:zQ),Q (.bool (g i j)) s->wpAny (model X.prog X.w) X.A (f (.int i t) (.int j u)) Q E s) :
  OpR X f (rI0 λ i j=>.bl (g i j)):=by
 intro π s σ H x y v u Q I rx ry h;obtain⟨i,j,rfl,rfl,q⟩:=h;obtain⟨t,rfl⟩:=rx;obtain⟨t',rfl⟩:=ry;exact rule i j t t' s _ _ ⟨.bl (g i j),H,I,rfl,q⟩
def CDiv (i j:Int):Prop:=0<j/\j<1073741824
def CPow (i j:Int):Prop:=0<=j/\j<=1000000/\i.natAbs<2^64
def CMul (i j:Int):Prop:=(-(2^64)<i/\i<2^64)∨(-(2^64)<j/\j<2^64)
theorem CMul.ok {i j:Int}(h:CMul i j):IntMulOk i j:=by
 rcases h with ⟨h1,h2⟩ | ⟨h1,h2⟩
 ·exact .of_left (intBits_le_64 h1 h2)
 ·exact .of_right (intBits_le_64 h1 h2)
theorem nF:OpR X (binaryOp .Add) (rI0 λ i j=>.int (i+j)):=opI0 λ _ _ _ _ _ _ _ q=>add_int q
theorem nG:OpR X (binaryOp .Sub) (rI0 λ i j=>.int (i-j)):=opI0 λ _ _ _ _ _ _ _ q=>sub_int q
theorem g_:OpR X (binaryOp .FloorDiv) (rI CDiv λ i j=>.int (i/j)):=opI λ i j _ _ _ _ _ hc q=>by
 have h1:(0:Int)<j:=hc.1;have h2:j<1073741824:=hc.2;exact floordiv_int (by omega) (by rw[Int.fdiv_eq_ediv_of_nonneg i (by omega)];exact q) (.inl (PyProof.noPylong_small (by omega)))
theorem nH:OpR X (binaryOp .Mod) (rI (λ _ j=>0<j) λ i j=>.int (i%j)):=opI λ i j _ _ _ _ _ hc q=>by
 have h1:(0:Int)<j:=hc;exact mod_int' (by omega) (by rw[Int.fmod_eq_emod_of_nonneg i (by omega)];exact q)
end
def scal:V->V->Bool
 | .non,.non=>true | .non,.int _=>true | .int _,.non=>true | .non,.bl _=>true | .bl _,.non=>true | .non,.str _=>true | .str _,.non=>true
 | .int _,.int _=>true | .bl _,.bl _=>true | .str _,.str _=>true | .byt _,.byt _=>true
 | .int _,.str _=>true | .str _,.int _=>true | .bl _,.str _=>true | .str _,.bl _=>true
 | _,_=>false
def rEq:R2:=λ x y H Q=>scal x y=true/\Q (.bl (decide (x=y))) H
def rNe:R2:=λ x y H Q=>scal x y=true/\Q (.bl (!decide (x=y))) H
theorem Xh {i j:Int}:decide (V.int i=V.int j)=(i==j):=by
 rw[z0N];simp
theorem ao {i j:Bool}:decide (V.bl i=V.bl j)=(i==j):=by
 rw[z0N];simp
theorem Xi {i j:Str}:decide (V.str i=V.str j)=(i==j):=by
 rw[z0N];simp
theorem Xj {i j:Array UInt8}:decide (V.byt i=V.byt j)=(i.toList==j.toList):=by
 rw[z0N];cases i;cases j;simp
section
variable {X:Cx}{a b c:Expr}{ta tb tc:TE}
theorem BV {σ:St}{H:Hp}{Q:VK}{k k':Bool}(I:Inv X π σ H s) (q:Q (.bl k) H) (e:k=k'):EP X π σ Q (.bool k') s:=by
 subst e;exact⟨.bl k,H,I,rfl,q⟩
theorem qP:OpR X (compareOp .Eq) rEq:=by
 intro π s σ H x y v u Q I rx ry h;obtain⟨hs,q⟩:=h;cases x with
 | non=>
  cases rx;cases y with
  | non=>cases ry;exact PySem.EqNone.eq_none_none (BV I q (by simp))
  | bl j=>cases ry;exact PySem.EqNone.eq_none_bool (BV I q (by simp))
  | int j=>obtain⟨t',rfl⟩:=ry;exact PySem.EqNone.eq_none_int (BV I q (by simp))
  | str j=>obtain⟨t',rfl⟩:=ry;exact PySem.EqNone.eq_none_str (BV I q (by simp))
  | _=>exact absurd (show false=true from hs) z0r
 | bl i=>
  cases rx;cases y with
  | non=>cases ry;exact PySem.EqNone.eq_bool_none (BV I q (by simp))
  | bl j=>cases ry;exact eq_bool (BV I q ao)
  | str j=>obtain⟨t',rfl⟩:=ry;exact PySem.EqMixed.eq_bool_str (BV I q (by simp))
  | _=>exact absurd (show false=true from hs) z0r
 | int i=>
  obtain⟨t,rfl⟩:=rx;cases y with
  | non=>cases ry;exact PySem.EqNone.eq_int_none (BV I q (by simp))
  | int j=>obtain⟨t',rfl⟩:=ry;exact eq_int (BV I q Xh)
  | str j=>obtain⟨t',rfl⟩:=ry;exact PySem.EqMixed.eq_int_str (BV I q (by simp))
  | _=>exact absurd (show false=true from hs) z0r
 | str i=>
  obtain⟨t,rfl⟩:=rx;cases y with
  | non=>cases ry;exact PySem.EqNone.eq_str_none (BV I q (by simp))
  | bl j=>cases ry;exact PySem.EqMixed.eq_str_bool (BV I q (by simp))
  | int j=>obtain⟨t',rfl⟩:=ry;exact PySem.EqMixed.eq_str_int (BV I q (by simp))
  | str j=>obtain⟨t',rfl⟩:=ry;exact eq_str (BV I q Xi)
  | _=>exact absurd (show false=true from hs) z0r
 | byt i=>
  obtain⟨t,rfl⟩:=rx;cases y with
  | byt j=>obtain⟨t',rfl⟩:=ry;exact PySem.W.eq_bytes (BV I q Xj)
  | _=>exact absurd (show false=true from hs) z0r
 | _=>cases y<;>exact absurd (show false=true from hs) z0r
theorem qQ:OpR X (compareOp .NotEq) rNe:=by
 intro π s σ H x y v u Q I rx ry h;obtain⟨hs,q⟩:=h;cases x with
 | non=>
  cases rx;cases y with
  | non=>cases ry;exact PySem.EqNone.ne_none_none (BV I q (by simp))
  | bl j=>cases ry;exact PySem.EqNone.ne_none_bool (BV I q (by simp))
  | int j=>obtain⟨t',rfl⟩:=ry;exact PySem.EqNone.ne_none_int (BV I q (by simp))
  | str j=>obtain⟨t',rfl⟩:=ry;exact PySem.EqNone.ne_none_str (BV I q (by simp))
  | _=>exact absurd (show false=true from hs) z0r
 | bl i=>
  cases rx;cases y with
  | non=>cases ry;exact PySem.EqNone.ne_bool_none (BV I q (by simp))
  | bl j=>cases ry;exact ne_bool (BV I q (congrArg not ao))
  | str j=>obtain⟨t',rfl⟩:=ry;exact PySem.EqMixed.ne_bool_str (BV I q (by simp))
  | _=>exact absurd (show false=true from hs) z0r
 | int i=>
  obtain⟨t,rfl⟩:=rx;cases y with
  | non=>cases ry;exact PySem.EqNone.ne_int_none (BV I q (by simp))
  | int j=>obtain⟨t',rfl⟩:=ry;exact ne_int (BV I q (congrArg not Xh))
  | str j=>obtain⟨t',rfl⟩:=ry;exact PySem.EqMixed.ne_int_str (BV I q (by simp))
  | _=>exact absurd (show false=true from hs) z0r
 | str i=>
  obtain⟨t,rfl⟩:=rx;cases y with
  | non=>cases ry;exact PySem.EqNone.ne_str_none (BV I q (by simp))
  | bl j=>cases ry;exact PySem.EqMixed.ne_str_bool (BV I q (by simp))
  | int j=>obtain⟨t',rfl⟩:=ry;exact PySem.EqMixed.ne_str_int (BV I q (by simp))
  | str j=>obtain⟨t',rfl⟩:=ry;exact ne_str (BV I q (congrArg not Xi))
  | _=>exact absurd (show false=true from hs) z0r
 | byt i=>
  obtain⟨t,rfl⟩:=rx;cases y with
  | byt j=>obtain⟨t',rfl⟩:=ry;exact PySem.W.ne_bytes (BV I q (congrArg not Xj))
  | _=>exact absurd (show false=true from hs) z0r
 | _=>cases y<;>exact absurd (show false=true from hs) z0r
theorem qR:OpR X (compareOp .Lt) (rI0 λ i j=>.bl (decide (i<j))):=opB0 λ _ _ _ _ _ _ _ q=>lt_int q
theorem qT:OpR X (compareOp .LtE) (rI0 λ i j=>.bl (decide (i<=j))):=opB0 λ _ _ _ _ _ _ _ q=>le_int q
theorem qU:OpR X (compareOp .Gt) (rI0 λ i j=>.bl (decide (j<i))):=opB0 λ _ _ _ _ _ _ _ q=>gt_int q
theorem qW:OpR X (compareOp .GtE) (rI0 λ i j=>.bl (decide (j<=i))):=opB0 λ _ _ _ _ _ _ _ q=>ge_int q
theorem Zq:OpR X (compareOp .In) (λ x y H Q=>∃ i j,x=.str i/\y=.str j/\Q (.bl (!(Builtin.Str.occurrences j i 0 j.length 1).isEmpty)) H):=by
 intro π s σ H x y v u Q I rx ry h;obtain⟨i,j,rfl,rfl,q⟩:=h;obtain⟨t,rfl⟩:=rx;obtain⟨t',rfl⟩:=ry;exact in_str (BV I q rfl)
theorem OpR.or {f:Value->Value->Sem Value}{r r':R2}(h:OpR X f r) (h':OpR X f r'):OpR X f (λ x y H Q=>r x y H Q∨r' x y H Q):=by
 intro π s σ H x y v u Q I rx ry q
 rcases q with q | q
 ·exact h π s σ H x y v u Q I rx ry q
 ·exact h' π s σ H x y v u Q I rx ry q
theorem Hy (b:Expr) {op:CmpOp}(h:op≠.In:=by decide) (h2:op≠.NotIn:=by decide):behindInMarks op b=false:=by
 have e1:(op==CmpOp.In)=false:=by cases op<;>first | rfl | exact absurd rfl h
 have e2:(op==CmpOp.NotIn)=false:=by cases op<;>first | rfl | exact absurd rfl h2
 cases b<;>simp[behindInMarks,e1,e2]
theorem Xk {op:CmpOp}{r:R2}(ho:OpR X (compareOp op) r) (ha:PE X a ta) (hb:PE X b tb) (hm:behindInMarks op b=false):PE X (.Compare a [op] [b] pos) (tOp r ta tb):=by
 intro π s σ H Q I h;exact wpAny_Compare1 (binT ha hb I h λ v u s2 x y H2 I2 rx ry q=>ho π s2 σ H2 x y v u Q I2 rx ry q) hm
def qX (t:TE):TT:=λ σ H Q=>t σ H λ x H'=>∃ k,x=.bl k/\Q k H'
theorem S7 {op:CmpOp}{r:R2}(ho:OpR X (compareOp op) r) (ha:PE X a ta) (hb:PE X b tb) (hm:behindInMarks op b=false):PT X (.Compare a [op] [b] pos) (qX (tOp r ta tb)):=by
 intro π s σ H Q I h;refine wpAny_isTrue_Compare1 (thn (ha π s σ H _ I h) λ v s1 ⟨x,H1,I1,r1,q1⟩=>thn (hb π s1 σ H1 _ I1 q1) λ u s2 ⟨y,H2,I2,r2,q2⟩=>
  thn (ho π s2 σ H2 x y v u _ I2 r1 r2 q2) λ c s3 ⟨z,H3,I3,r3,k,e,q3⟩=>?_) hm
 subst e;cases r3;exact wpAny_truthy_bool ⟨H3,I3,q3⟩
def TruV (K:zFr) (x:V) (H:Hp) (k:Bool):Prop:=
 match x with
 | .non=>k=false
 | .bl b=>k=b
 | .int i=>k=(i != 0)
 | .str y=>y.length<=sizeLine/\k=((y.length:Int) != 0)
 | .byt y=>y.size<=sizeLine/\k=((y.size:Int) != 0)
 | .ref p=>(∃ xs,SqL K H p xs/\k=!xs.isEmpty)∨(∃ xs,SqT K H p xs/\k=!xs.isEmpty)∨∃ kvs,H p=some (.dK kvs)/\k=!kvs.isEmpty
 | _=>False
theorem Wh {κ:Type}{kvs:List (κ×V)}{vs:List (κ×Value)}(r:KV kvs vs):(!vs.isEmpty)=!kvs.isEmpty:=by
 cases r<;>rfl
theorem QS {xs:List V}(r:Vals xs its):(!its.toArray.isEmpty)=!xs.isEmpty:=by
 cases r<;>simp
theorem QT:(sizeLine:Nat)<2^63:=by rw[sizeLine_eq];decide
theorem nJ:TruR X (λ x H Q=>∃ k,TruV X.K x H k/\Q k H):=by
 intro π s σ H x v Q I rx h;obtain⟨k,e,q⟩:=h;have hl:=QT;have hs:sizeLine=16777216:=sizeLine_eq;cases x with
 | non=>
  cases rx;have e':k=false:=e;subst e';exact truthy_none ⟨H,I,q⟩
 | bl b=>
  cases rx;have e':k=b:=e;subst e';exact wpAny_truthy_bool ⟨H,I,q⟩
 | int i=>
  obtain⟨t,rfl⟩:=rx;have e':k=(i != 0):=e;subst e';exact PySem.P.truthy_int ⟨H,I,q⟩
 | str y=>
  obtain⟨t,rfl⟩:=rx;obtain⟨hy,e'⟩:y.length<=sizeLine/\k=((y.length:Int) != 0):=e;subst e';exact PySem.P.truthy_str (by omega) ⟨H,I.tok _,q⟩
 | byt y=>
  obtain⟨t,rfl⟩:=rx;obtain⟨hy,e'⟩:y.size<=sizeLine/\k=((y.size:Int) != 0):=e;subst e';exact PySem.W.truthy_bytes (by omega) ⟨H,I.tok _,q⟩
 | ref p=>
  cases rx;have e':(∃ xs,SqL X.K H p xs/\k=!xs.isEmpty)∨(∃ xs,SqT X.K H p xs/\k=!xs.isEmpty)∨∃ kvs,H p=some (.dK kvs)/\k=!kvs.isEmpty:=e
  rcases e' with ⟨xs,hx,e'⟩ | ⟨xs,hx,e'⟩ | ⟨kvs,hx,e'⟩
  ·subst e';obtain⟨its,r,pl,hz⟩:=I.list hx;have hlen:=r.length;exact wpAny_truthy_list pl.isList (by simp only[z0f];omega) ⟨H,I.tok _,by rw[QS r];exact q⟩
  ·subst e';obtain⟨its,r,pl,hz⟩:=I.tuple hx;have hlen:=r.length;exact truthy_tuple pl (by simp only[z0f];omega) ⟨H,I.tok _,by rw[QS r];exact q⟩
  ·subst e';obtain⟨hz,hS,vs,r,m⟩:kvs.length<=sizeLine/\(p==sysModules)=false/\∃ vs,KV kvs vs/\s.heap.DictOf (Aw X.prog X.w) p vs:=I.hok p _ hx;have hlen:kvs.length=vs.length:=Paired.length r;exact wpAny_truthy_dict hS m (by omega) ⟨H,I.tok _,by rw[Wh r];exact q⟩
 | _=>exact (show False from e).elim
theorem aq (ha:PE X a ta) (he:∀ whole,isTrue a X.env whole=(do let v <-whole;standAt a.pos;holding [v] (truthy v))) :
  PT X a (λ σ H Q=>ta σ H λ x H'=>∃ k,TruV X.K x H' k/\Q k H'):=by
 intro π s σ H Q I h;exact isTrue_plain (thn (ha π s σ H _ I h) λ v s1 ⟨x,H1,I1,r1,q1⟩=>nJ π s1 σ H1 x v Q I1 r1 q1) (he _)
theorem Wi:OpR X (binaryOp .Add) (λ x y H Q=>∃ i j,x=.str i/\y=.str j/\i.length+j.length<=sizeLine/\Q (.str (i++j)) H):=by
 intro π s σ H x y v u Q I rx ry h;obtain⟨i,j,rfl,rfl,hz,q⟩:=h;obtain⟨t,rfl⟩:=rx;obtain⟨t',rfl⟩:=ry;exact add_str (λ t' tk=>⟨.str (i++j),H,I.tok _,⟨_,rfl⟩,q⟩) hz
theorem vals1 {x:V}(r:Vals [x] us):∃ u,us=[u]/\RelV x u:=by
 cases r with
 | cons r1 r2=>cases r2;exact⟨_,rfl,r1⟩
theorem vals2 {x y:V}(r:Vals [x,y] us):∃ u w',us=[u,w']/\RelV x u/\RelV y w':=by
 cases r with
 | cons r1 r2=>
  cases r2 with
  | cons r3 r4=>cases r4;exact⟨_,_,rfl,r1,r3⟩
theorem Rq:Do X (.type "int") (λ xs H Q=>(∃ i,xs=[.int i]/\Q (.int i) H)∨∃ k,xs=[.bl k]/\Q (.int (if k then 1 else 0)) H):=by
 intro π s σ H xs us Q I r h
 rcases h with ⟨i,rfl,q⟩ | ⟨k,rfl,q⟩
 ·obtain⟨u,rfl,t,rfl⟩:=vals1 r;exact call_int_int ⟨.int i,H,I,⟨_,rfl⟩,q⟩
 ·obtain⟨u,rfl,r1⟩:=vals1 r;cases r1;exact call_int_bool ⟨.int (if k then 1 else 0),H,I.tok _,⟨_,rfl⟩,q⟩
def LenV (K:zFr) (x:V) (H:Hp) (n:Nat):Prop:=
 match x with
 | .str y=>y.length<=sizeLine/\n=y.length
 | .byt y=>y.size<=sizeLine/\n=y.size
 | .ref p=>(∃ xs,SqL K H p xs/\n=xs.length)∨∃ xs,SqT K H p xs/\n=xs.length
 | _=>False
theorem au:Do X (.builtin "len") (λ xs H Q=>∃ x n,xs=[x]/\LenV X.K x H n/\Q (.int n) H):=by
 intro π s σ H xs us Q I r h;obtain⟨x,n,rfl,e,q⟩:=h;obtain⟨u,rfl,rx⟩:=vals1 r;have hl:=QT;have hs:sizeLine=16777216:=sizeLine_eq;cases x with
 | str y=>
  obtain⟨t,rfl⟩:=rx;obtain⟨hy,e'⟩:y.length<=sizeLine/\n=y.length:=e;subst e';exact len_str (by omega) ⟨.int _,H,I.tok _,⟨_,rfl⟩,q⟩
 | byt y=>
  obtain⟨t,rfl⟩:=rx;obtain⟨hy,e'⟩:y.size<=sizeLine/\n=y.size:=e;subst e';exact PySem.W.len_bytes (by omega) ⟨.int _,H,I.tok _,⟨_,rfl⟩,q⟩
 | ref p=>
  cases rx;have e':(∃ xs,SqL X.K H p xs/\n=xs.length)∨∃ xs,SqT X.K H p xs/\n=xs.length:=e
  rcases e' with ⟨xs,hx,e'⟩ | ⟨xs,hx,e'⟩
  ·subst e';obtain⟨its,r',pl,hz⟩:=I.list hx;have hlen:=r'.length;exact Calls.call_len_list pl.isList (by simp only[z0f];omega) ⟨.int xs.length,H,I.tok _,⟨_,by simp only[z0f];rw[hlen]⟩,q⟩
  ·subst e';obtain⟨its,r',pl,hz⟩:=I.tuple hx;have hlen:=r'.length;exact len_tuple pl (by simp only[z0f];omega) ⟨.int xs.length,H,I.tok _,⟨_,by simp only[z0f];rw[hlen]⟩,q⟩
 | _=>exact (show False from e).elim
end
structure ObjM (h:Heap) (x dx C:Addr) (mA:Str->Option Value):Prop where
 obj:h.get? x=some (PySem.W.instObj C dx)
 ns:h.Ns1 dx mA
 ne:dx≠x
theorem Zr {dx:Addr}{mA:Str->Option Value}(n:h.Ns1 dx mA):∃ od,h.get? dx=some od/\∀ name,PySem.W.lookIn name od=some (mA name):=by
 obtain⟨o,es,ep,ho,hd,hk,_,hm⟩:=n;refine⟨o,ho,λ name=>?_⟩;have e:=hm name;unfold nsFind findBy at e;rw[<-Array.find?_toList] at e;unfold PySem.W.lookIn;rw[hd];dsimp only;split
 ·rename_i y q;rw[q] at e;exact congrArg some e
 ·rename_i q;rw[q] at e;have a:es.toList.any (·.refKey)=false:=by
   rw[List.any_eq_false];intro y hy;obtain⟨z,t,hkey⟩:=hk y (Array.mem_toList_iff.mp hy);simp[DictEntry.refKey,hkey]
  have a':¬ es.toList.any (·.refKey)=true:=by rw[a];exact z0r
  rw[if_neg a'];exact congrArg some e
theorem ObjM.look {x dx:Addr}{mA:Str->Option Value}(I:ObjM h x dx C mA):∃ od,PySem.W.InstAt h x (PySem.W.instObj C dx) C (some od)/\∀ name,PySem.W.lookIn name od=some (mA name):=
 let ⟨od,ho,hl⟩:=Zr I.ns
 ⟨od,⟨I.obj,rfl,rfl,ho⟩,hl⟩
section
variable {A:Around}{K:zFr}{x dx:Addr}{mA:Str->Option Value}{name:Str}{v:Value}
theorem h_ {expr:Bool}{Q:zQ}(X:K.In s.heap) (I:ObjM s.heap x dx C mA) (hg:PySem.W.plainGet K C name=true) (hh:PySem.W.hasDictIn K C=true)
  (ha:PySem.W.findIn K (.ref C) name=some none) (hv:mA name=some v) (hv':PySem.W.handedIn v=true) (h:Q v { s with toks:=s.toks+1 }) :
  wpAny (model prog w) A (getAttr (.ref x) name expr) Q E s:=by
 obtain⟨od,J,hl⟩:=I.look;exact PySem.W.get_value X J (PySem.W.plainGet_of hg).1 (PySem.W.findObj_own hh ha rfl (by rw[hl,hv])) hv' h
theorem az {pl:Sem Bool}{Q:Value×List Value->Shared->Prop}(X:K.In s.heap) (I:ObjM s.heap x dx C mA) (hg:PySem.W.plainGet K C name=true)
  (hf:PySem.W.findIn K (.ref C) name=some (some (.ref f))) (ht:PySem.W.isFn K (.ref f)=true) (hv:mA name=none) (h:Q (.ref f,[.ref x]) s) :
  wpAny (model prog w) A (getMethod (.ref x) name pl) Q E s:=by
 obtain⟨od,J,hl⟩:=I.look;exact PySem.W.method_fn X J (PySem.W.plainGet_of hg).1 (PySem.W.plainGet_of hg).2 hf (z0J.mp ht) (by show (PySem.W.lookIn name od).map (·.isSome)=some false;rw[hl,hv];rfl) h
theorem iB {ns:List Str}{Q:Unit->Shared->Prop}(X:K.In s.heap) (I:ObjM s.heap x dx C mA)
  (hs:PySem.W.findIn K (.ref C) "__setattr__"=some (some (.builtin "object.__setattr__"))) (hp:PySem.W.plainOver K C=true) (ht:PySem.W.takerIn K C name=some none) (hh:PySem.W.hasDictIn K C=true)
  (hw:PySem.Within mA ns) (hsz:ns.length<=sizeLine)
  (h:∀ h',ObjM h' x dx C (λ y=>if y=name then some v else mA y)->Heap.SameBut dx s.heap h'->Q () { s with heap:=h',toks:=s.toks+2 }) :
  wpAny (model prog w) A (setAttr (.ref x) name v) Q E s:=by
 obtain⟨od,J,hl⟩:=I.look;refine PySem.W.set_plain X J hs (PySem.W.osa_open (s:={ s with toks:=s.toks+1 }) (r:=none) X J hp ht λ b=>?_);obtain⟨cd,hc,hd'⟩:=PySem.W.any_some hh;have hx:s.heap.get? x=some ⟨.ref C,some dx,.plain,#[]⟩:=I.obj;refine z02 (z09 (z02 (z02 (wpAny_loadPart hx (z02 (PySem.W.Looks.here (s:={ s with toks:=s.toks+1 }) (PySem.W.looks_clsIn X hc) ?_))))));rw[hd'];refine z09 (a:=some dx) (z02 (z09 (z02 ?_)));refine wpAny_nsSet1 (s:={ s with toks:=s.toks+1 }) I.ns λ h' hn2 hs2=>?_;obtain⟨oD,esD,epD,hoD,hdD,hcD⟩:=hn2.count (PySem.Within.cons name v hw);refine z02 (wpAny_lookBehind hoD (by rw[hdD];exact pastItsLine_dict (z0t hcD (by rw[z0B];omega))) ?_);exact z09 (h _ ⟨(hs2.2 _ (Ne.symm I.ne)).trans I.obj,hn2,I.ne⟩ hs2)
theorem a_ {R:Result->Shared->Prop}{vs:List Value}(X:K.In s.heap) (hm:PySem.W.makesIn K C=true)
  (hi:PySem.W.findIn K (.ref C) "__init__"=some (some (.ref f))) (hf:PySem.W.typeIn K (.ref f)=some (.type "function"))
  (h:codeAny (model prog w) (A.under (.builtin "type.__call__" ⟨.ref C::vs,kw⟩)) (.call (.ref f) ⟨.ref (s.heap.objs.size+1)::vs,kw⟩) (PySem.W.InitBack (s.heap.objs.size+1) R)
   { s with heap:=(s.heap.push PySem.W.emptyDict).push (PySem.W.instObj C s.heap.objs.size) }) :
  codeAny (model prog w) A (.call (.ref C) ⟨vs,kw⟩) R s:=by
 obtain⟨hh,g,d,t,os⟩:=s;exact PySem.W.make_core (PySem.W.makes_of X hm) (PySem.W.looks_findIn X hi) (λ self=>PySem.W.bind_fn X self hf) (.inl rfl) h
end
def putF (f:Str) (v:V):List (Str×V)->List (Str×V)
 | []=>[(f,v)]
 | (g,x)::r=>if g=f then (g,v)::r else (g,x)::putF f v r
theorem N8 (f g:Str) (v:V):∀ fs:List (Str×V),(putF f v fs).lookup g=if g=f then some v else fs.lookup g
 | []=>by
  show List.lookup g [(f,v)]=_
  by_cases h:g=f
  ·have hb:(g==f)=true:=z0J.mpr h;simp only[List.lookup,hb,if_pos h]
  ·have hb:(g==f)=false:=z0z.mpr h;simp only[List.lookup,hb,if_neg h]
 | (k,x)::r=>by
  have ih:=N8 f g v r;rw[show putF f v ((k,x)::r)=(if k=f then (k,v)::r else (k,x)::putF f v r) from rfl]
  by_cases hk:k=f
  ·rw[if_pos hk]
   by_cases h:g=k
   ·have hb:(g==k)=true:=z0J.mpr h;simp only[List.lookup,hb,if_pos (h.trans hk)]
   ·have hb:(g==k)=false:=z0z.mpr h;simp only[List.lookup,hb,if_neg (λ e:g=f=>h (e.trans hk.symm))]
  ·rw[if_neg hk]
   by_cases h:g=k
   ·have hb:(g==k)=true:=z0J.mpr h;simp only[List.lookup,hb,if_neg (λ e:g=f=>hk (h.symm.trans e))]
   ·have hb:(g==k)=false:=z0z.mpr h;simp only[List.lookup,hb];exact ih
theorem Mw (f:Str) (v:V):∀ fs:List (Str×V),f∈(putF f v fs).map (·.1)/\∀ g,g∈fs.map (·.1)->g∈(putF f v fs).map (·.1)
 | []=>⟨by simp[putF],λ g h=>by simp at h⟩
 | (k,x)::r=>by
  obtain⟨i1,i2⟩:=Mw f v r;rw[show putF f v ((k,x)::r)=(if k=f then (k,v)::r else (k,x)::putF f v r) from rfl]
  by_cases hk:k=f
  ·rw[if_pos hk];subst hk;exact⟨by simp,λ g h=>by simpa using h⟩
  ·rw[if_neg hk];refine⟨?_,λ g h=>?_⟩
   ·rw[z03];exact z0b _ i1
   ·rw[z03] at h ⊢
    rcases z08.mp h with e | e
    ·exact z08.mpr (.inl e)
    ·exact z0b _ (i2 g e)
theorem N_ (f:Str) (v:V):∀ fs:List (Str×V),(putF f v fs).length<=fs.length+1
 | []=>by simp[putF]
 | (k,x)::r=>by
  have ih:=N_ f v r;rw[show putF f v ((k,x)::r)=(if k=f then (k,v)::r else (k,x)::putF f v r) from rfl]
  by_cases hk:k=f
  ·rw[if_pos hk,z0B,z0B];omega
  ·rw[if_neg hk,z0B,z0B];omega
theorem RelO.some_of {v:V}{o:Option Value}(r:RelO (some v) o):∃ u,o=some u/\RelV v u:=by
 cases o with
 | none=>exact (show False from r).elim
 | some u=>exact⟨u,rfl,r⟩
theorem RelO.none_of {o:Option Value}(r:RelO none o):o=none:=by
 cases o with
 | none=>rfl
 | some u=>exact (show False from r).elim
theorem Zt {v:V}(r:RelV v u):PySem.W.handedIn u=true:=by
 cases v with
 | non=>cases (show u=Value.none from r);rfl
 | bl b=>cases (show u=Value.bool b from r);rfl
 | int i=>obtain⟨t,e⟩:=(show ∃ t,u=Value.int i t from r);cases e;rfl
 | str x=>obtain⟨t,e⟩:=(show ∃ t,u=Value.str x t from r);cases e;rfl
 | byt b=>obtain⟨t,e⟩:=(show ∃ t,u=Value.bytes b t from r);cases e;rfl
 | flt b=>obtain⟨t,e⟩:=(show ∃ t,u=Value.float b t from r);cases e;rfl
 | ref a=>cases (show u=Value.ref a from r);rfl
 | ty n=>cases (show u=Value.type n from r);rfl
section
variable {H H':Hp}{dx:Addr}{fs fs':List (Str×V)}
theorem O5 (hok:HOk P w H h) (e:H a=some (.ins C dx fs)):∃ mA,ObjM h a dx C mA/\(∀ f,RelO (fs.lookup f) (mA f))/\PySem.Within mA (fs.map (·.1))/\fs.length<=1000/\H dx=some (.own a):=by
 obtain⟨d,z,ne,ob,mA,n,r,q⟩:=(show BK P w H h a (.ins C dx fs) from hok a _ e);exact⟨mA,⟨ob,n,ne⟩,r,q,z,d⟩
end
structure Cls (K:zFr) (C:Addr):Prop where
 pg:PySem.W.plainGet K C Str.empty=true
 hd:PySem.W.hasDictIn K C=true
 po:PySem.W.plainOver K C=true
 sa:PySem.W.findIn K (.ref C) "__setattr__"=some (some (.builtin "object.__setattr__"))
theorem Cls.get {K:zFr}(c:Cls K C) (f:Str):PySem.W.plainGet K C f=true:=c.pg
def DQ (K:zFr) (C:Addr) (f:Str):Prop:=PySem.W.findIn K (.ref C) f=some none
theorem DQ.taker {K:zFr}{f:Str}(n:DQ K C f):PySem.W.takerIn K C f=some none:=by
 unfold PySem.W.takerIn;rw[show PySem.W.findIn K (.ref C) f=some none from n];rfl
structure Meth (K:zFr) (C:Addr) (m:Str) (f:Addr):Prop where
 at_:PySem.W.findIn K (.ref C) m=some (some (.ref f))
 fn:PySem.W.isFn K (.ref f)=true
 kp:PySem.W.keepIn K (.ref f)=true
section
variable {X:Cx}{σ:St}{H:Hp}{dx:Addr}{fs:List (Str×V)}{f:Str}{v:V}{A:Around}
theorem Wj {b:Bool}{Q:zQ}(I:Inv X π σ H s) (e:H a=some (.ins C dx fs)) (c:Cls X.K C) (n:DQ X.K C f) (l:fs.lookup f=some v)
  (h:∀ u s',Inv X π σ H s'->RelV v u->Q u s'):wpAny (model X.prog X.w) A (getAttr (.ref a) f b) Q E s:=by
 obtain⟨mA,O,r,_,_,_⟩:=O5 I.hok e;obtain⟨u,hu,ru⟩:=RelO.some_of (v:=v) (o:=mA f) (by rw[<-l];exact r f);exact h_ I.kIn O (c.get f) c.hd n hu (Zt ru) (h u _ (I.tok _) ru)
theorem QV {g:Addr}{pl:Sem Bool}{Q:Value×List Value->Shared->Prop}(I:Inv X π σ H s) (e:H a=some (.ins C dx fs)) (c:Cls X.K C) (k:Meth X.K C m g) (l:fs.lookup m=none)
  (h:Q (.ref g,[.ref a]) s):wpAny (model X.prog X.w) A (getMethod (.ref a) m pl) Q E s:=by
 obtain⟨mA,O,r,_,_,_⟩:=O5 I.hok e;have hn:mA m=none:=RelO.none_of (by rw[<-l];exact r m);exact az I.kIn O (c.get m) k.at_ k.fn hn h
theorem Wk {y:V}{Q:Unit->Shared->Prop}(I:Inv X π σ H s) (e:H a=some (.ins C dx fs)) (c:Cls X.K C) (n:DQ X.K C f) (hl:fs.length<1000) (ry:RelV y u)
  (h:∀ s',Inv X π σ (upd H a (.ins C dx (putF f y fs))) s'->Q () s'):wpAny (model X.prog X.w) A (setAttr (.ref a) f u) Q E s:=by
 obtain⟨mA,O,r,wi,_,ho⟩:=O5 I.hok e;have hz:(fs.map (·.1)).length<=sizeLine:=by rw[z00,sizeLine_eq];omega
 refine iB I.kIn O c.sa c.po n.taker c.hd wi hz λ h' O' sb=>h _ ?_;have hd:∃ o,h'.get? dx=some o:=let ⟨o,_,_,e',_⟩:=O'.ns;⟨o,e'⟩;refine I.write (x:=a) (e:=dx) (by rw[e];exact True.intro) (.inr ho) (λ b q hb z=>(sb.2 b hb).trans z) hd ?_;refine⟨by rw[Al O.ne];exact ho,?_,O.ne,O'.obj,_,O'.ns,λ g=>?_,λ g hg=>?_⟩
 ·have:=N_ f y fs;omega
 ·show RelO ((putF f y fs).lookup g) (if g=f then some u else mA g);rw[N8]
  by_cases q:g=f
  ·rw[if_pos q,if_pos q];exact ry
  ·rw[if_neg q,if_neg q];exact r g
 ·by_cases q:g=f
  ·rw[q];exact (Mw f y fs).1
  ·refine (Mw f y fs).2 g (wi g λ z=>hg ?_);show (if g=f then some u else mA g)=none;rw[if_neg q];exact z
theorem Inv.made (I:Inv X π σ H s):Inv X π σ (upd (upd H s.heap.objs.size (.own (s.heap.objs.size+1))) (s.heap.objs.size+1) (.ins C s.heap.objs.size []))
  { s with heap:=(s.heap.push PySem.W.emptyDict).push (PySem.W.instObj C s.heap.objs.size) }:=by
 have e1:(s.heap.push PySem.W.emptyDict).get? s.heap.objs.size=some PySem.W.emptyDict:=z0i s.heap rfl;have e2:((s.heap.push PySem.W.emptyDict).push (PySem.W.instObj C s.heap.objs.size)).get? (s.heap.objs.size+1)=some (PySem.W.instObj C s.heap.objs.size):=by
  have:=z0i (s.heap.push PySem.W.emptyDict) (o:=PySem.W.instObj C s.heap.objs.size) rfl
  rwa [Heap.size_push] at this
 have e3:(s.heap.push PySem.W.emptyDict).Ns s.heap.objs.size (λ _=>none):=⟨PySem.W.emptyDict,#[],_,e1,rfl,(λ e he=>absurd he (by simp)),λ _=>rfl⟩;have I1:=I.laid (a:=s.heap.objs.size) (o:=.own (s.heap.objs.size+1)) (h':=s.heap.push PySem.W.emptyDict) (t':=s.toks) (λ b u q=>z0c _ q) (z01 _) ⟨_,e1⟩;refine I1.laid (a:=s.heap.objs.size+1) (o:=.ins C s.heap.objs.size []) (t':=s.toks) (λ b u q=>z0c _ q) (Nat.le_of_eq (Heap.size_push _ _)) ?_;have ne:s.heap.objs.size≠s.heap.objs.size+1:=z0l (Nat.lt_succ_self _);refine⟨by rw[Al ne,Ag],z0s _,ne,e2,λ _=>none,(Heap.Ns1.of_empty e3).at λ o q=>z0c _ q,λ _=>True.intro,λ y hy=>absurd rfl hy⟩
theorem iC {f:Str}{Q:zQ}(hb:attributeBase e f env (eval e env)=eval e env)
  (h:wpAny (model prog w) A (eval e env) (λ o s₁=>wpAny (model prog w) A (getAttr o f true) Q E s₁) E s):wpAny (model prog w) A (eval (.Attribute e f pos) env) Q E s:=
 Attribute_any_ h (by rw[arm_eval_Attribute,hb])
end
def tFld (K:zFr) (ta:TE) (f:Str):TE:=λ σ H Q=>ta σ H λ x H1=>∃ a C dx fs v,x=.ref a/\H1 a=some (.ins C dx fs)/\Cls K C/\DQ K C f/\fs.lookup f=some v/\Q v H1
def sFld (K:zFr) (ta tv:TE) (f:Str):TS:=λ D σ H=>tv σ H λ y H1=>ta σ H1 λ x H2=>∃ a C dx fs,x=.ref a/\H2 a=some (.ins C dx fs)/\Cls K C/\DQ K C f/\fs.length<1000 ∧
 D.nx σ (upd H2 a (.ins C dx (putF f y fs)))
section
variable {X:Cx}{o value:Expr}{f:Str}{tpos:Pos}{ta tv:TE}
theorem Wm (he:PE X e ta) (hb:attributeBase e f X.env (eval e X.env)=eval e X.env):PE X (.Attribute e f pos) (tFld X.K ta f):=by
 intro π s σ H Q I h;refine iC hb (thn (he π s σ H _ I h) λ u s1 ⟨x,H1,I1,rx,a,C,dx,fs,v,ex,ea,c,n,l,q⟩=>?_);subst ex;obtain rfl:u=Value.ref a:=rx;exact Wj I1 ea c n l λ u' s2 I2 ru=>⟨v,H1,I2,ru,q⟩
theorem bA (ha:PE X o ta) (hv:PE X value tv) (hs:swapsWith value (some (.Attribute o f pos')) pos.line X.env=pure false):PS X (.Assign [.Attribute o f pos'] value pos) (sFld X.K ta tv f):=by
 intro π s σ H D I h;refine plainObj_wpAny_Assign_Attribute (thn (hv π s σ H _ I h) λ u s1 ⟨y,H1,I1,ry,q⟩=>thn (ha π s1 σ H1 _ I1 q) λ ov s2 ⟨x,H2,I2,rx,a,C,dx,fs,ex,ea,c,n,l,q2⟩=>?_) hs;subst ex;obtain rfl:ov=Value.ref a:=rx;exact Wk I2 ea c n l ry λ s3 I3=>⟨σ,_,I3,q2⟩
def rAdd:V->V->Hp->VK->Prop:=λ x y H Q=>∃ i j,x=.int i/\y=.int j/\Q (.int (i+j)) H
end
section
variable {X:Cx}{σ:St}{H:Hp}{A:Around}{Q:zQ}{c:Value}{b:Bool}
inductive TyOf (K:zFr) (H:Hp):V->Value->Prop where
  | non:TyOf K H .non (.type "NoneType")
  | bl (x:Bool):TyOf K H (.bl x) (.type "bool")
  | int (i:Int):TyOf K H (.int i) (.type "int")
  | str (x:Str):TyOf K H (.str x) (.type "str")
  | flt (x:UInt64):TyOf K H (.flt x) (.type "float")
  | lst {a:Addr}{xs:List V}(e:H a=some (.lst xs)):TyOf K H (.ref a) (.type "list")
  | frz {a:Addr}{o:Obj}{xs:List V}(e:H a=some (.frz o (.lst xs))):TyOf K H (.ref a) (.type "list")
  | tup {a:Addr}{xs:List V}(e:H a=some (.tup xs)):TyOf K H (.ref a) (.type "tuple")
  | dK {a:Addr}{kvs:List (Key×V)}(e:H a=some (.dK kvs)):TyOf K H (.ref a) (.type "dict")
  | dT {a:Addr}{kvs:List (List Key×V)}(e:H a=some (.dT kvs)):TyOf K H (.ref a) (.type "dict")
  | ins {a C dx:Addr}{fs:List (Str×V)}(e:H a=some (.ins C dx fs)) (cl:Cls K C) (ha:PySem.W.findIn K (.ref C) "__class__"=some (some (.builtin "object.__class__")))
      (hn:PySem.W.specialIn K (.builtin "object.__class__") "__get__"=some (some (.builtin "getset_descriptor.__get__"))) (htk:PySem.W.takesIn K (.builtin "object.__class__")=some true)
      (hm:PySem.W.mroIn K C (.type "object")=some true):TyOf K H (.ref a) (.ref C)
theorem Zu {x:V}{t:Value}(I:Inv X π σ H s) (rx:RelV x u) (ty:TyOf X.K H x t) (e:PySem.W.kitOne X.K t c=some b) (h:∀ tk,Q (.bool b) { s with toks:=tk }) :
  wpAny (model X.prog X.w) A (call (.builtin "isinstance") [u,c]) Q E s:=by
 cases ty with
 | non=>cases (show u=Value.none from rx);exact z0S PySem.W.kitx_none I.kIn True.intro e (λ z=>nomatch z) h
 | bl y=>cases (show u=Value.bool y from rx);exact z0S PySem.W.kitx_bool I.kIn True.intro e (λ z=>nomatch z) h
 | int i=>obtain⟨t,q⟩:=(show ∃ t,u=Value.int i t from rx);cases q;exact z0S PySem.W.kitx_int I.kIn True.intro e (λ z=>nomatch z) h
 | str y=>obtain⟨t,q⟩:=(show ∃ t,u=Value.str y t from rx);cases q;exact z0S PySem.W.kitx_str I.kIn True.intro e (λ z=>nomatch z) h
 | flt y=>obtain⟨t,q⟩:=(show ∃ t,u=Value.float y t from rx);cases q;exact z0S PySem.W.kitx_float I.kIn True.intro e (λ z=>nomatch z) h
 | @lst a xs ea=>
  cases (show u=Value.ref a from rx);obtain⟨_,_,n,_,h1⟩:=(show BK X.prog X.w H s.heap a (.lst xs) from I.hok a _ ea);exact z0S PySem.W.kitx_list I.kIn ⟨_,h1,rfl⟩ e (λ z=>nomatch z) h
 | @frz a ob xs ea=>
  cases (show u=Value.ref a from rx);obtain⟨_,_,_,n,_,h1⟩:=(show BK X.prog X.w H s.heap a (.frz ob (.lst xs)) from I.hok a _ ea);exact z0S PySem.W.kitx_list I.kIn ⟨_,h1,rfl⟩ e (λ z=>nomatch z) h
 | @tup a xs ea=>
  cases (show u=Value.ref a from rx);obtain⟨_,_,_,p⟩:=(show BK X.prog X.w H s.heap a (.tup xs) from I.hok a _ ea);obtain⟨o,h1,h2,_⟩:=p;exact z0S PySem.W.kitx_tuple I.kIn ⟨o,h1,h2⟩ e (λ z=>nomatch z) h
 | @dK a kvs ea=>
  cases (show u=Value.ref a from rx);obtain⟨_,_,vs,_,p⟩:=(show BK X.prog X.w H s.heap a (.dK kvs) from I.hok a _ ea);obtain⟨o,es,ep,h1,h2,_⟩:=p;exact z0S PySem.W.kitx_dict I.kIn ⟨o,h1,h2.1⟩ e (λ z=>nomatch z) h
 | @dT a kvs ea=>
  cases (show u=Value.ref a from rx);obtain⟨_,_,xs,_,o,es,ep,h1,h2,_⟩:=(show BK X.prog X.w H s.heap a (.dT kvs) from I.hok a _ ea);exact z0S PySem.W.kitx_dict I.kIn ⟨o,h1,h2.1⟩ e (λ z=>nomatch z) h
 | @ins a C dx fs ea cl ha hn htk hm=>
  cases (show u=Value.ref a from rx);obtain⟨mA,O,_⟩:=O5 I.hok ea;obtain⟨od,J,_⟩:=O.look;exact z0S (PySem.W.kitx_own (cl.get _) cl.hd ha hn htk hm) I.kIn J e (λ z=>nomatch z) h
end
structure Room (k:Nat) (A:Around):Prop where
 hd:A.handled=none
 dp:A.depth+3*k+5<recursionLimit
 un:A.units+16*k+200<cLine
theorem Room.mono {k:Nat}{A:Around}(r:Room k A) (h:j<=k):Room j A:=⟨r.hd,by have:=r.dp;omega,by have:=r.un;omega⟩
theorem Room.deeper {k:Nat}{A:Around}(r:Room (k+1) A) (env:Env):Room k (A.deeper env):=
 ⟨r.hd,by have:=r.dp;show A.depth+1+3*k+5<_;omega,by have:=r.un;show A.units+3+16*k+200<_;omega⟩
theorem Room.in1 {k:Nat}{A:Around}(r:Room (k+1) A):Room k A.in1:=
 ⟨r.hd,by have:=r.dp;show A.depth+3*k+5<_;omega,by have:=r.un;show A.units+1+16*k+200<_;omega⟩
theorem Wn {A:Around}:(A.under (.builtin "type.__call__" ⟨.ref C::us,kw⟩)).depth=A.depth+1:=by
 first | rfl | simp[Around.under,Code.weight,Code.isCreation,Code.isGuard,Code.isCaller,Code.frames,Code.isFrame,guardIds]
theorem Wo {A:Around}:(A.under (.builtin "type.__call__" ⟨.ref C::us,kw⟩)).units=A.units+1:=by
 first | rfl | simp[Around.under,Code.cUnits,Code.frames,Code.isFrame]
theorem Room.make {k:Nat}{A:Around}(r:Room (k+1) A) (C:Addr) (us:List Value) (kw:List (Str×Value)):Room k (A.under (.builtin "type.__call__" ⟨.ref C::us,kw⟩)):=
 ⟨r.hd,by have:=r.dp;rw[Wn];omega,by have:=r.un;rw[Wo];omega⟩
theorem Room.depth {k:Nat}{A:Around}(r:Room k A):A.depth<recursionLimit:=by have:=r.dp;omega
theorem Room.units {k:Nat}{A:Around}(r:Room k A):A.units+64<cLine:=by have:=r.un;omega
def tNil:TA:=λ _ H Q=>Q [] H
def kZ (ta:TE) (tr:TA):TA:=λ σ H Q=>ta σ H λ x H1=>tr σ H1 λ xs H2=>Q (x::xs) H2
section
variable {X:Cx}{te:TE}{t:TA}
theorem Fi:PA X [] tNil:=λ _ _ _ _ H Q I h=>Calls.spliced_nil ⟨[],H,I,.nil,h⟩
theorem Cu (ha:PE X e te) (hr:PA X es t) (hs:starEach (e::es) X.env=(false,eval e X.env)::starEach es X.env:=by rfl):PA X (e::es) (kZ te t):=by
 intro pos π s σ H Q I h;rw[hs];show wpAny _ _ (spliced ((false,eval e X.env)::backTo pos (starEach es X.env))) _ _ s;refine Calls.spliced_cons (thn (ha π s σ H _ I h) λ u s1 ⟨x,H1,I1,r1,q1⟩=>?_);exact thn (hr pos π s1 σ H1 _ I1 q1) λ us s2 ⟨xs,H2,I2,r2,q2⟩=>⟨x::xs,H2,I2,.cons r1 r2,q2⟩
def tTup (t:TA):TE:=λ σ H Q=>t σ H λ xs H1=>xs.length<=sizeLine/\∀ p,H1 p=none->Q (.ref p) (upd H1 p (.tup xs))
def tLst (t:TA):TE:=λ σ H Q=>t σ H λ xs H1=>xs.length<=sizeLine/\∀ p,H1 p=none->Q (.ref p) (upd H1 p (.lst xs))
theorem Wq {x1} (h:PA X es t):PE X (.Tuple es x1 pos) (tTup t):=by
 intro π s σ H Q I hq;refine wpAny_Tuple_spliced (thn (h pos π s σ H _ I hq) λ us s1 ⟨xs,H1,I1,r,z,q⟩=>⟨by rw[<-r.length];exact z,?_⟩);have hf:H1 s1.heap.objs.size=none:=I1.hok.fresh (z01 _);refine⟨.ref s1.heap.objs.size,upd H1 s1.heap.objs.size (.tup xs),I1.laid (t':=s1.toks) (λ b u e=>z0c _ e) (z01 _) ?_,rfl,q _ hf⟩;exact⟨z,us,r,⟨_,z0i _ rfl,rfl,_,rfl⟩⟩
theorem bB (h:PA X es t):PE X (.List es pos) (tLst t):=by
 intro π s σ H Q I hq;refine wpAny_List_spliced (thn (h pos π s σ H _ I hq) λ us s1 ⟨xs,H1,I1,r,z,q⟩=>⟨by rw[<-r.length];exact z,?_⟩);have hf:H1 s1.heap.objs.size=none:=I1.hok.fresh (z01 _);refine⟨.ref s1.heap.objs.size,upd H1 s1.heap.objs.size (.lst xs),I1.laid (t':=s1.toks) (λ b u e=>z0c _ e) (z01 _) ?_,rfl,q _ hf⟩;exact⟨z,us,0,r,z0i _ rfl⟩
end
abbrev Sp:=List V->Hp->VK->XK->Prop
abbrev CXT:=List Env->Hp->Shared->XK->Value->Shared->Prop
structure Env0 (P:Program) (w:World) (K:zFr) (mg:Str->Option Value) (base:Heap) (A:Around) (outer:List Env) (s:Shared) (H:Hp):Prop where
 frames:A.frames=some outer
 mod:Mod K mg base
 bs:∀ b o,base.get? b=some o->s.heap.get? b=some o/\H b=none
 bsz:base.objs.size<=s.heap.objs.size
 funs:s.heap.FunFrames base outer
 frf:∀ b∈frs outer,H b=none
 hok:HOk P w H s.heap
 bare:AllBare s.gens
def CE (outer:List Env) (P:Program) (w:World) (H:Hp) (s:Shared) (Q:VK) (u:Value) (s':Shared):Prop:=
 ∃ v H',s'.os=s.os/\AllBare s'.gens/\Un (frs outer) [] H H' s.heap s'.heap/\HOk P w H' s'.heap/\RelV v u/\Q v H'
def CR (CX:CXT) (outer:List Env) (P:Program) (w:World) (H:Hp) (s:Shared) (Q:VK) (E:XK) (r:Result) (s':Shared):Prop:=
 match r with
 | .ok (.ret u)=>CE outer P w H s Q u s'
 | .ok _=>False
 | .error e=>CX outer H s E e s'
structure FnOk (P:Program) (w:World) (K:zFr) (mg:Str->Option Value) (base:Heap) (CX:CXT) (k:Nat) (f:Addr) (fd:FuncData) (ps:List Str) (sp:Sp):Prop where
 len:∀ vs H Q E,sp vs H Q E->vs.length=ps.length
 run:∀ (A:Around) (outer:List Env) (s:Shared) (H:Hp) (args:Args) (us:List Value) (vs:List V) (Q:VK) (E:XK),Room k A->Env0 P w K mg base A outer s H->BindsTo s fd args (ps.zip us)->Vals vs us->sp vs H Q E ->
  codeAny (model P w) A (.call (.ref f) args) (CR CX outer P w H s Q E) s
theorem FnOk.mono {P:Program}{w:World}{K:zFr}{mg:Str->Option Value}{base:Heap}{CX:CXT}{j k:Nat}{f:Addr}{fd:FuncData}{ps:List Str}{sp:Sp}(F:FnOk P w K mg base CX j f fd ps sp) (h:j<=k) :
  FnOk P w K mg base CX k f fd ps sp:=⟨F.len,λ A outer s H args us vs Q E hr=>F.run A outer s H args us vs Q E (hr.mono h)⟩
theorem FnOk.imp {K:zFr}{base:Heap}{CX:CXT}{k:Nat}{sp sp':Sp}(F:FnOk P w K mg base CX k f fd ps sp)
  (h:∀ vs H Q E,sp' vs H Q E->sp vs H Q E):FnOk P w K mg base CX k f fd ps sp':=
 ⟨λ vs H Q E q=>F.len vs H Q E (h _ _ _ _ q),λ A outer s H args us vs Q E hr he hb hv hs=>F.run A outer s H args us vs Q E hr he hb hv (h _ _ _ _ hs)⟩
theorem Env0.make {K:zFr}{base:Heap}{A:Around}{H:Hp}(e:Env0 P w K mg base A outer s H) (C:Addr) (us:List Value) (kw:List (Str×Value)) :
  Env0 P w K mg base (A.under (.builtin "type.__call__" ⟨.ref C::us,kw⟩)) outer s H:=⟨by first | exact e.frames | (simpa [Around.under,Code.envs,Code.isFrame,pushEnvs] using e.frames),e.mod,e.bs,e.bsz,e.funs,e.frf,e.hok,e.bare⟩
theorem Env0.in1 {K:zFr}{base:Heap}{A:Around}{H:Hp}(e:Env0 P w K mg base A outer s H) :
  Env0 P w K mg base A.in1 outer s H:=⟨e.frames,e.mod,e.bs,e.bsz,e.funs,e.frf,e.hok,e.bare⟩
section
variable {X:Cx}{σ:St}{H:Hp}{s':Shared}
theorem Inv.env0 (I:Inv X π σ H s):Env0 X.prog X.w X.K X.mg X.base X.A X.stack s H:=
 ⟨I.ok.frames,I.ok.mod,I.bs,z0t I.ok.bsz I.sz,I.stack,I.stkFree,I.hok,I.bare⟩
theorem Inv.after {Q:VK}(I:Inv X π σ H s) (h:CE X.stack X.prog X.w H s Q u s'):EP X π σ Q u s':=by
 obtain⟨v,H',os,bare,un,hok,r,q⟩:=h;obtain⟨hh,g,d,t,os'⟩:=s';obtain rfl:os'=s.os:=os;exact⟨v,H',I.call (h':=hh) (g':=g) (d':=d) (t':=t) (ch:=[]) un hok bare (λ b z=>absurd z (by simp)),r,q⟩
end
def qY (sp:Sp) (dvs:List V) (E:XK) (t:TA):TE:=λ σ H Q=>t σ H λ vs H1=>sp (vs++dvs) H1 Q E
def kh (C:Addr) (m:Str) (sp:Sp) (dvs:List V) (E:XK) (ta:TE) (t:TA):TE:=λ σ H Q=>ta σ H λ x H1=>∃ a dx fs,x=.ref a/\H1 a=some (.ins C dx fs)/\fs.lookup m=none ∧
 t σ H1 λ vs H2=>sp (x::(vs++dvs)) H2 Q E
def qZ (C:Addr) (sp:Sp) (dvs:List V) (E:XK) (t:TA):TE:=λ σ H Q=>t σ H λ vs H1=>∀ x dx,H1 x=none->H1 dx=none->dx≠x ->
 sp (.ref x::(vs++dvs)) (upd (upd H1 dx (.own x)) x (.ins C dx [])) (λ v H2=>v=.non/\Q (.ref x) H2) E
def Binds (K:zFr) (fd:FuncData) (ps:List Str) (ds:List Value):Prop:=
 ∀ (s:Shared) (us:List Value),K.In s.heap->(us++ds).length=ps.length->BindsTo s fd ⟨us,[]⟩ (ps.zip (us++ds))
theorem Binds.all {K:zFr}(h:∀ us:List Value,us.length=ps.length->bindArgs fd ⟨us,[]⟩=pure (ps.zip us)):Binds K fd ps []:=λ s us _ hl=>by
 rw[z0w] at hl ⊢;exact .of_eq (h us hl)
def K7 (CX:CXT) (X:Cx) (E:XK):Prop:=∀ (π:zP) (σ:St) (H:Hp) (s:Shared) (e:Value) (s':Shared),Inv X π σ H s->CX X.stack H s E e s'->X.xe e s'
section
variable {X:Cx}{CX:CXT}{k:Nat}{sp:Sp}{dvs:List V}{ds:List Value}{E:XK}{x:Str}{p:Pos}{o:Expr}{ta:TE}{t:TA}
theorem Wr {σ:St}{H:Hp}{Q:VK}{vs:List V}(F:FnOk X.prog X.w X.K X.mg X.base CX k f fd ps sp) (hr:Room k X.A) (hb:Binds X.K fd ps ds) (hd:Vals dvs ds) (hx:K7 CX X E)
  (I:Inv X π σ H s) (r:Vals vs us) (h:sp (vs++dvs) H Q E):wpAny (model X.prog X.w) X.A (call (.ref f) us) (EP X π σ Q) X.xe s:=by
 have r2:Vals (vs++dvs) (us++ds):=r.append hd;have hl:(us++ds).length=ps.length:=by rw[<-r2.length];exact F.len _ _ _ _ h
 refine wpAny_call (codeAny_mono (F.run X.A X.stack s H ⟨us,[]⟩ (us++ds) (vs++dvs) Q E hr I.env0 (hb s us I.kIn hl) r2 h) λ r s' hq=>?_);cases r with
 | error e=>exact hx π σ H s e s' I hq
 | ok fl=>
  cases fl with
  | ret u=>exact I.after hq
  | next=>exact False.elim hq
  | brk=>exact False.elim hq
  | cont=>exact False.elim hq
theorem S8 (F:FnOk X.prog X.w X.K X.mg X.base CX k f fd ps sp) (hr:Room k X.A) (hg:Gl X x) (hm:X.mg x=some (.ref f)) (hk:PySem.W.keepIn X.K (.ref f)=true) (hb:Binds X.K fd ps ds) (hd:Vals dvs ds) (hx:K7 CX X E)
  (ha:PA X (e::es) t) (hdb:(x==("__debug__":Str))=false:=by decide) (he:starEach (e::es) X.env=(false,eval e X.env)::starEach es X.env:=by rfl) (hpl:(backTo pos (starEach es X.env)).any (·.1)=false:=by rfl) :
  PE X (.Call (.Name x p) (e::es) [] pos) (qY sp dvs E t):=by
 intro π s σ H Q I h;refine wpAny_Call_Name_kw (S5 I hg hm ?_ hdb);refine PySem.W.callWith_K (h₀:=X.base) I.ok.mod.kin hk (thn (ha pos π s σ H _ I h) λ us s1 ⟨vs,H1,I1,r,q⟩=>⟨I1.kIn,?_⟩) he hpl;exact Wr F hr hb hd hx I1 r q
theorem iG {pl:Sem Bool}(he:PE X o ta) (c:Cls X.K C) (hm:Meth X.K C m f) (F:FnOk X.prog X.w X.K X.mg X.base CX k f fd ps sp) (hr:Room k X.A) (hb:Binds X.K fd ps ds) (hd:Vals dvs ds) (hx:K7 CX X E) (ha:PA X (e::es) t)
  (hst:starEach (e::es) X.env=(false,eval e X.env)::starEach es X.env:=by rfl) (hpl:(backTo pos (starEach es X.env)).any (·.1)=false:=by rfl)
  (ht:eval (.Call (.Attribute o m apos) (e::es) [] pos) X.env=(do
   let ov <-eval o X.env
   standAt apos.atName
   let (f,first) <-holding [ov] (getMethod ov m pl)
   callWith pos f first (backTo pos (starEach (e::es) X.env)) (backToKw pos (keywordEach [] X.env))):=by rfl) :
  PE X (.Call (.Attribute o m apos) (e::es) [] pos) (kh C m sp dvs E ta t):=by
 intro π s σ H Q I h;refine PySem.W.methodCall_KW (pl:=pl) (thn (he π s σ H _ I h) λ u s1 ⟨x,H1,I1,rx,a,dx,fs,ex,ea,l,q⟩=>?_) ht;subst ex;obtain rfl:u=Value.ref a:=rx;refine QV I1 ea c hm l ?_;refine PySem.W.callWith_K (first:=[.ref a]) (h₀:=X.base) I.ok.mod.kin hm.kp (thn (ha pos π s1 σ H1 _ I1 q) λ us s2 ⟨vs,H2,I2,r,q2⟩=>⟨I2.kIn,?_⟩) hst hpl;exact Wr (us:=.ref a::us) (vs:=.ref a::vs) F hr hb hd hx I2 (.cons rfl r) q2
theorem bC {pl:Sem Bool}(he:PE X o ta) (c:Cls X.K C) (hm:Meth X.K C m f) (F:FnOk X.prog X.w X.K X.mg X.base CX k f fd ps sp) (hr:Room k X.A) (hb:Binds X.K fd ps ds) (hd:Vals dvs ds) (hx:K7 CX X E)
  (ht:eval (.Call (.Attribute o m apos) [] [] pos) X.env=(do
   let ov <-eval o X.env
   standAt apos.atName
   let (f,first) <-holding [ov] (getMethod ov m pl)
   callWith pos f first (backTo pos (starEach [] X.env)) (backToKw pos (keywordEach [] X.env))):=by rfl) :
  PE X (.Call (.Attribute o m apos) [] [] pos) (kh C m sp dvs E ta tNil):=by
 intro π s σ H Q I h;refine PySem.W.methodCall_KW (pl:=pl) (thn (he π s σ H _ I h) λ u s1 ⟨x,H1,I1,rx,a,dx,fs,ex,ea,l,q⟩=>?_) ht;subst ex;obtain rfl:u=Value.ref a:=rx;refine QV I1 ea c hm l ?_;exact PySem.W.callWith_K0 (first:=[.ref a]) I1.kIn hm.kp (Wr (us:=[.ref a]) (vs:=[.ref a]) F hr hb hd hx I1 (.cons rfl .nil) q)
structure Mk (K:zFr) (C f:Addr):Prop where
 makes:PySem.W.makesIn K C=true
 init:PySem.W.findIn K (.ref C) "__init__"=some (some (.ref f))
 fn:PySem.W.isFn K (.ref f)=true
 kp:PySem.W.keepIn K (.ref C)=true
theorem bD {σ:St}{H:Hp}{Q:VK}{vs:List V}(M:Mk X.K C f) (F:FnOk X.prog X.w X.K X.mg X.base CX k f fd ps sp) (hr:Room (k+1) X.A) (hb:Binds X.K fd ps ds) (hd:Vals dvs ds)
  (hx:K7 CX X E) (I:Inv X π σ H s) (r:Vals vs us)
  (h:∀ x dx,H x=none->H dx=none->dx≠x->sp (.ref x::(vs++dvs)) (upd (upd H dx (.own x)) x (.ins C dx [])) (λ v H2=>v=.non/\Q (.ref x) H2) E) :
  wpAny (model X.prog X.w) X.A (call (.ref C) us) (EP X π σ Q) X.xe s:=by
 have hq:=h (s.heap.objs.size+1) s.heap.objs.size (I.hok.fresh (z0V _)) (I.hok.fresh (z01 _)) (z0l (Nat.lt_succ_self _));have I2:=Inv.made (C:=C) I;have r2:Vals (V.ref (s.heap.objs.size+1)::(vs++dvs)) (Value.ref (s.heap.objs.size+1)::(us++ds)):=.cons rfl (r.append hd);have hl:(Value.ref (s.heap.objs.size+1)::us++ds).length=ps.length:=by
  have e:=r2.length;rw[F.len _ _ _ _ hq] at e;exact e.symm
 refine wpAny_call (a_ (f:=f) I.kIn M.makes M.init (z0J.mp M.fn) (codeAny_mono (F.run _ X.stack _ _ ⟨Value.ref (s.heap.objs.size+1)::us,[]⟩ (Value.ref (s.heap.objs.size+1)::(us++ds)) _ _ E (hr.make C us [])
  (I2.env0.make C us []) (hb _ (Value.ref (s.heap.objs.size+1)::us) I2.kIn hl) r2 hq) λ r s' hq'=>?_))
 cases r with
 | error e=>exact hx π σ _ _ e s' I2 hq'
 | ok fl=>
  cases fl with
  | ret u=>
   obtain⟨v,H',I3,rv,ev,q3⟩:=I2.after hq';subst ev;exact⟨rv,⟨V.ref (s.heap.objs.size+1),H',I3,rfl,q3⟩⟩
  | next=>exact False.elim hq'
  | brk=>exact False.elim hq'
  | cont=>exact False.elim hq'
theorem iH (M:Mk X.K C f) (F:FnOk X.prog X.w X.K X.mg X.base CX k f fd ps sp) (hr:Room (k+1) X.A) (hg:Gl X x) (hm:X.mg x=some (.ref C)) (hb:Binds X.K fd ps ds) (hd:Vals dvs ds) (hx:K7 CX X E)
  (ha:PA X (e::es) t) (hdb:(x==("__debug__":Str))=false:=by decide) (he:starEach (e::es) X.env=(false,eval e X.env)::starEach es X.env:=by rfl) (hpl:(backTo pos (starEach es X.env)).any (·.1)=false:=by rfl) :
  PE X (.Call (.Name x p) (e::es) [] pos) (qZ C sp dvs E t):=by
 intro π s σ H Q I h;refine wpAny_Call_Name_kw (S5 I hg hm ?_ hdb);refine PySem.W.callWith_K (h₀:=X.base) I.ok.mod.kin M.kp (thn (ha pos π s σ H _ I h) λ us s1 ⟨vs,H1,I1,r,q⟩=>⟨I1.kIn,?_⟩) he hpl;exact bD M F hr hb hd hx I1 r q
end
section
variable {X:Cx}{CX:CXT}{k:Nat}{sp:Sp}{E:XK}{x:Str}{p kpos:Pos}{o:Expr}{kws:List Keyword}{te ta:TE}{t tk:TA}{nm:Option Str}
variable {g:List Value->List Value->List Value}{gV:List V->List V->List V}
end
structure FnScope (N P:List Str) (sc:Scope):Prop where
 kind:sc.kind=.function
 co:sc.isCoroutine=false
 gen:sc.isGenerator=false
 nd:N.Nodup
 pre:N.take P.length=P
 par:∀ x∈P,sc.names.lookup x=some .local ∨sc.names.lookup x=some .cell
 nofree:∀ y∈sc.names,y.2≠.free
theorem Rr {kindOf:Str->Option NameKind}{x:Str}:∀ {binds:List (Str×Value)}{m:Str->Option Value},(∀ v,(x,v)∉binds)->bindL kindOf binds m x=m x
 | [],_,_=>rfl
 | (n,v)::r,m,h=>by
  unfold bindL;rw[Rr λ w hw=>h w (z0b _ hw)];split
  ·have:x≠n:=by rintro rfl;exact h v z0h
   simp[this]
  ·rfl
theorem Rt {kindOf:Str->Option NameKind}{x:Str}:∀ {binds:List (Str×Value)}{m:Str->Option Value},(∀ v,(x,v)∉binds)->bindC kindOf binds m x=m x
 | [],_,_=>rfl
 | (n,v)::r,m,h=>by
  unfold bindC;rw[Rt λ w hw=>h w (z0b _ hw)];split
  ·rfl
  ·have:x≠n:=by rintro rfl;exact h v z0h
   simp[this]
theorem Ru {kindOf:Str->Option NameKind}{x:Str}{v:Value}:∀ {P:List Str}{vs:List Value}{i:Nat}{m:Str->Option Value},P.Nodup->P[i]?=some x->vs[i]?=some v->kindOf x=some .local ->
  bindL kindOf (P.zip vs) m x=some v
 | [],_,_,_,_,h,_,_=>by simp at h
 | _::_,[],_,_,_,_,h,_=>by simp at h
 | p::P,w::vs,0,m,nd,h1,h2,hk=>by
  simp at h1 h2;subst h1;subst h2;show bindL kindOf ((p,w)::P.zip vs) m p=_;unfold bindL;rw[Rr λ v hv=>(z0G.mp nd).1 (List.of_mem_zip hv).1,if_pos hk];simp
 | p::P,w::vs,i+1,m,nd,h1,h2,hk=>by
  show bindL kindOf ((p,w)::P.zip vs) m x=_;unfold bindL;exact Ru (i:=i) (z0G.mp nd).2 (by simpa using h1) (by simpa using h2) hk
theorem Rv {kindOf:Str->Option NameKind}{x:Str}{v:Value}:∀ {P:List Str}{vs:List Value}{i:Nat}{m:Str->Option Value},P.Nodup->P[i]?=some x->vs[i]?=some v->kindOf x≠some .local ->
  bindC kindOf (P.zip vs) m x=some v
 | [],_,_,_,_,h,_,_=>by simp at h
 | _::_,[],_,_,_,_,h,_=>by simp at h
 | p::P,w::vs,0,m,nd,h1,h2,hk=>by
  simp at h1 h2;subst h1;subst h2;show bindC kindOf ((p,w)::P.zip vs) m p=_;unfold bindC;rw[Rt λ v hv=>(z0G.mp nd).1 (List.of_mem_zip hv).1,if_neg hk];simp
 | p::P,w::vs,i+1,m,nd,h1,h2,hk=>by
  show bindC kindOf ((p,w)::P.zip vs) m x=_;unfold bindC;exact Rv (i:=i) (z0G.mp nd).2 (by simpa using h1) (by simpa using h2) hk
def start (N:List Str) (vs:List V):St:=vs.map some++List.replicate (N.length-vs.length) none
def cxOf (CX:CXT) (P:Program) (w:World) (K:zFr) (mg:Str->Option Value) (base:Heap) (N:List Str) (qual:Str) (scope:Scope) (f:Addr) (cd:Value) (A:Around) (outer:List Env) (s:Shared) (H:Hp) (E:XK):Cx where
 prog:=P
 w:=w
 K:=K
 mg:=mg
 base:=base
 A:=A.deeper (envOfC qual scope s.heap.objs.size f cd)
 N:=N
 s₀:=s
 H₀:=H
 env:=envOfC qual scope s.heap.objs.size f cd
 outer:=outer
 stack:=envOfC qual scope s.heap.objs.size f cd::outer
 ex:=[]
 calm:=true
 fn:=λ _=>true
 pn:=[]
 xe:=λ e s'=>wpAny (model P w) (A.deeper (envOfC qual scope s.heap.objs.size f cd)) (leaving (envOfC qual scope s.heap.objs.size f cd) e) (λ _ s''=>CX outer H s E e s'') (λ e' s''=>CX outer H s E e' s'') s'
theorem VN {x:Str}(h:sc.names.lookup x=some .cell):∃ c,(cellsFrom n sc.names []).lookup x=some c:=by
 have q:=PySem.W.cellsFrom_some sc.names n [] (.inl h);exact Option.isSome_iff_exists.mp q
theorem Zv {CX:CXT}{K:zFr}{base:Heap}{cd:Value}{A:Around}{s1:Shared}{H:Hp}{E:XK}{vs:List V}(S:FnScope N ps scope) (hd:A.handled=none) (e0:Env0 P w K mg base A outer s H) (hl:vs.length=ps.length) (r:Vals vs us)
  (x:InCallC s s.heap.objs.size (bindL (envOfC qual scope s.heap.objs.size f cd).kindOf (ps.zip us) λ _=>none) (cellsFrom (s.heap.objs.size+1) scope.names []) (bindC (envOfC qual scope s.heap.objs.size f cd).kindOf (ps.zip us) λ _=>none) s1) :
  Inv (cxOf CX P w K mg base N qual scope f cd A outer s H E) [] (start N vs) H s1:=by
 have hpl:ps.length<=N.length:=by have:=congrArg List.length S.pre;rw[z0W] at this;omega
 obtain⟨h1,tk,rfl,hk⟩:=x.done;have noA:∀ b:Addr,b∉(cxOf CX P w K mg base N qual scope f cd A outer s H E).ex:=λ b z=>absurd (show b∈([]:List Addr) from z) (by simp);refine⟨⟨e0.mod,S.kind,rfl,rfl,z01 _,λ y z c h1 h2=>?_,λ y hy=>?_,λ y c _ h=>?_,λ _=>hd,Around.frames_deeper e0.frames,.inr ⟨rfl,rfl⟩,λ b z=>absurd z (noA b),e0.bs,e0.bsz,λ b _ _=>noA b,λ b z=>absurd z (noA b),e0.funs,e0.frf⟩,
  rfl,e0.bare,Un.kept hk,⟨_,x.toInCall.ns,λ i y v h1 h2 h3=>?_⟩,λ y c h=>⟨_,x.cell y c h⟩,e0.hok.fresh (z01 _),λ y c h=>?_,λ p hp=>absurd (show p∈([]:zP) from hp) (by simp),e0.hok.kept hk,?_⟩
 ·exact name_of_addr x.apart (z1n h1) (z1n h2)
 ·have hy:scope.names.lookup y=some .cell ∨scope.names.lookup y=some .free :=hy
  rcases hy with hy | hy
  ·exact VN hy
  ·exact absurd rfl (S.nofree _ (z1n hy))
 ·exact Nat.le_of_lt (x.above y c (z1n h))
 ·have hi:i<vs.length:=by
   unfold start at h2
   by_cases hi:i<vs.length
   ·exact hi
   ·rw[z0X (by simpa using hi)] at h2;rw[List.getElem?_replicate] at h2;split at h2<;>cases h2
  have ha:vs[i]?=some v:=by
   unfold start at h2;rw[z0Y (by simpa using hi),z04] at h2;cases e:vs[i]? with
   | none=>rw[e] at h2;cases h2
   | some a=>rw[e] at h2;cases h2;rfl
  obtain⟨u,hu,rv⟩:=r.get ha;have hp:ps[i]?=some y:=by
   rw[<-S.pre,List.getElem?_take_of_lt (by omega)];exact h1
  have ndP:ps.Nodup:=by rw[<-S.pre];exact S.nd.sublist (List.take_sublist _ _)
  refine⟨u,rv,?_⟩
  rcases S.par y (z0H hp) with k | k
  ·exact .inl ⟨k,Ru ndP hp hu k⟩
  ·obtain⟨c,e⟩:=VN (n:=s.heap.objs.size+1) k;refine .inr ⟨.inl k,c,e,?_⟩;have q:=x.cell y c e;rw[Rv ndP hp hu (by show scope.names.lookup y≠_;rw[k];decide)] at q;exact q
 ·exact e0.hok.fresh (Nat.le_of_lt (x.above y c (z1n h)))
 ·unfold start;show _=N.length;rw[z0j,z00,List.length_replicate];omega
theorem bG {CX:CXT}{K:zFr}{base:Heap}{k:Nat}{name:Str}{params:Arguments}{dV kV:Value}{sp:Sp}(lk:K.lookup f=some ⟨oc,od,.func (PySem.W.fnOf name qual params body scope dV kV doc pm an cdv ct),osl⟩) (hcd:PySem.W.codeIn K cdv qual=true) (S:FnScope N ps scope)
  (len:∀ vs H Q E,sp vs H Q E->vs.length=ps.length)
  (hbody:∀ (A:Around) (outer:List Env) (s:Shared) (H:Hp) (vs:List V) (Q:VK) (E:XK),Room k (A.deeper (envOfC qual scope s.heap.objs.size f cdv))->sp vs H Q E ->
   ∃ t,PSs (cxOf CX P w K mg base N qual scope f cdv A outer s H E) body t/\t { nx:=λ _ H'=>Q .non H',rt:=Q } (start N vs) H) :
  FnOk P w K mg base CX (k+1) f (PySem.W.fnOf name qual params body scope dV kV doc pm an cdv ct) ps sp:=by
 refine⟨len,λ A outer s H args us vs Q E hr e0 hb r hsp=>?_⟩;have hl:=len _ _ _ _ hsp;have KX:K.In s.heap:=e0.mod.kin.keeps λ b o e=>(e0.bs b o e).1;have lim:s.heap.NoLimit:=e0.mod.nolimit.keeps λ b o e=>(e0.bs b o e).1;have hkind:∀ y∈ps.zip us,scope.names.lookup y.1=some .local ∨(scope.names.lookup y.1=some .cell /\((cellsFrom (s.heap.objs.size+1) scope.names []).lookup y.1).isSome=true):=λ ⟨n,v⟩ hy=>by
  rcases S.par n (List.of_mem_zip hy).1 with q | q
  ·exact .inl q
  ·exact .inr ⟨q,PySem.W.cellsFrom_some _ _ _ (.inl q)⟩
 refine codeAny_call_function hr.depth (KX _ _ lk) rfl S.co S.gen rfl (PySem.W.codeRec_of KX hcd) (hb _ _ _ _ ?_);refine wpAny_newFunctionEnv_cells S.kind hkind λ env he s1 x=>?_;subst he;refine⟨lim.keeps x.toInCall.keep,codeAny_func ?_⟩;obtain⟨t,ht,hq⟩:=hbody A outer s H vs Q E (hr.deeper _) hsp;have I:Inv (cxOf CX P w K mg base N qual scope f cdv A outer s H E) [] (start N vs) H s1:=Zv S hr.hd e0 hl r x;refine z0R (ht [] s1 (start N vs) H _ I hq) (λ fl s' hs=>?_) λ e s' hs=>hs;have fin:∀ {σ':St}{H':Hp}{v:V}{u:Value},Inv (cxOf CX P w K mg base N qual scope f cdv A outer s H E) [] σ' H' s'->RelV v u->Q v H'->CE outer P w H s Q u s':=
  λ {σ' H' v u} J rv q=>⟨v,H',J.os,J.bare,J.base,J.hok,rv,q⟩
 cases fl with
 | ret u=>
  obtain⟨v,σ',H',J,rv,q⟩:=hs;exact fin J rv q
 | next=>
  obtain⟨σ',H',J,q⟩:=hs;exact fin (v:=V.non) (u:=Value.none) J rfl q
 | brk=>
  obtain⟨_,_,_,q⟩:=hs;exact False.elim q
 | cont=>
  obtain⟨_,_,_,q⟩:=hs;exact False.elim q
end L2
variable {xs vs ys:List L2.V}{H H' H1 F2 F1 He Hf Hb:L2.Hp}{o:L2.HO}{v y:L2.V}{X:L2.Cx}{σ:L2.St}{tc:L2.TT}{te:L2.TE}{CX:L2.CXT}{r:List L2.V->L2.Hp->L2.VK->Prop}{kvs:List (List L2.Key×L2.V)}
namespace L2
open PySem PySem.Spec PyProof.Rows
section
variable {x:Str}{p:Pos}{t:TA}{id T:String}
def tCB (r:List V->Hp->VK->Prop) (t:TA):TE:=λ σ H Q=>t σ H λ vs H1=>r vs H1 Q
theorem VP (hc:Do X (.builtin id) r) (hg:Gl X x) (hm:X.mg x=none) (hv:bootBuiltins x=some (.builtin id)) (ha:PA X (e::es) t) (hn:x≠"__name__":=by decide) (hdb:(x==("__debug__":Str))=false:=by decide)
  (he:starEach (e::es) X.env=(false,eval e X.env)::starEach es X.env:=by rfl) (hpl:(backTo pos (starEach es X.env)).any (·.1)=false:=by rfl):PE X (.Call (.Name x p) (e::es) [] pos) (tCB r t):=by
 intro π s σ H Q I h;refine wpAny_Call_Name_kw (QM I hg hm hv ?_ hn hdb);exact PyProof.Rows.callWith_builtin1 (thn (ha pos π s σ H _ I h) λ us s1 ⟨vs,H1,I1,r1,q1⟩=>hc π s1 σ H1 vs us Q I1 r1 q1) he hpl
theorem Kc (hc:Do X (.type T) r) (hg:Gl X x) (hm:X.mg x=none) (hv:bootBuiltins x=some (.type T)) (ha:PA X (e::es) t) (hn:x≠"__name__":=by decide) (hdb:(x==("__debug__":Str))=false:=by decide)
  (he:starEach (e::es) X.env=(false,eval e X.env)::starEach es X.env:=by rfl) (hpl:(backTo pos (starEach es X.env)).any (·.1)=false:=by rfl):PE X (.Call (.Name x p) (e::es) [] pos) (tCB r t):=by
 intro π s σ H Q I h;refine wpAny_Call_Name_kw (QM I hg hm hv ?_ hn hdb);exact PyProof.Rows.callWith_type1 (thn (ha pos π s σ H _ I h) λ us s1 ⟨vs,H1,I1,r1,q1⟩=>hc π s1 σ H1 vs us Q I1 r1 q1) he hpl
end
end L2
namespace HT
open PySem PyProof.Rows
section
open PySem.SeqAt
open PySem.AutoSeq1 (wpAny_loadPart')
open PySem.MeetsSeq PySem.MeetsSeq2 PySem.MeetsSeq3
end
section
variable {A:Around}
def sIx (n d:Nat):Option Int->Nat
 | none=>d
 | some v=>if v<0 then (v+(n:Int)).toNat else min v.toNat n
theorem nM (n d:Nat) (hd:d<=n) (o:Option Int):sIx n d o<=n:=by
 cases o with
 | none=>exact hd
 | some v=>
  show (if v<0 then (v+(n:Int)).toNat else min v.toNat n)<=n
  by_cases hv:v<0
  ·rw[if_pos hv];omega
  ·rw[if_neg hv];exact Nat.min_le_right _ _
theorem Xl (v:Int) (n d:Nat):(if v<0 then max (v+(n:Int)) 0 else min v (n:Int))=((sIx n d (some v):Nat):Int):=by
 show (if v<0 then max (v+(n:Int)) 0 else min v (n:Int))=(((if v<0 then (v+(n:Int)).toNat else min v.toNat n):Nat):Int)
 by_cases hv:v<0
 ·simp only[if_pos hv];omega
 ·simp only[if_neg hv];omega
theorem Ws (lo hi:Option Int) (n:Nat):Builtin.Slice.sliceAdjust lo hi 1 (n:Int)=(((sIx n 0 lo:Nat):Int),((sIx n n hi:Nat):Int)):=by
 have h1:¬ ((1:Int)<0):=by omega
 unfold Builtin.Slice.sliceAdjust;simp only[h1,if_false];refine Prod.ext ?_ ?_
 ·cases lo with
  | none=>rfl
  | some v=>exact Xl v n 0
 ·cases hi with
  | none=>rfl
  | some v=>exact Xl v n n
theorem Wt (i j:Nat):Builtin.Slice.slicePlaces (i:Int) (j:Int) 1=j-i:=by
 unfold Builtin.Slice.slicePlaces;have h1:(1:Int) > 0:=by omega
 simp only[h1,if_true,Int.ediv_one];split<;>omega
theorem QW {v:Value}{o:Option Int}{Q:Option Int->Shared->Prop}(p:IsPart v o) (h:Q o s):wpAny (model prog w) A (Builtin.Slice.slicePartIndex v) Q E s:=by
 cases p with
 | none=>exact slicePart_none h
 | int i t=>exact slicePart_int h
theorem My {sl:Addr}{vl vu:Value}{lo hi:Option Int}{Q:Int×Int×Nat->Shared->Prop}(hs:s.heap.IsSliceOf sl vl vu .none) (pl:IsPart vl lo) (pu:IsPart vu hi)
  (h:Q (((sIx n 0 lo:Nat):Int),1,sIx n n hi-sIx n 0 lo) s):wpAny (model prog w) A (Builtin.Slice.sliceApplied (.ref sl) (pure (n:Int))) Q E s:=by
 obtain⟨os,hos,hcs,hds⟩:=id hs;unfold Builtin.Slice.sliceApplied Builtin.Slice.sliceFields;refine z02 (z02 (wpAny_field hos hds (x:=vl) rfl (z02 (wpAny_field hos hds (x:=vu) rfl (z02 (wpAny_field hos hds (x:=.none) rfl (z09 ?_)))))));refine z02 (slicePart_none ?_);show wpAny _ _ (if ((1:Int)==0)=true then _ else _) _ _ s;rw[if_neg (by decide)];refine z02 (QW pl (z02 (QW pu (z02 (z09 ?_)))));show wpAny _ _ (match Builtin.Slice.sliceAdjust lo hi 1 (n:Int) with | (lo,hi)=>pure (lo,(1:Int),Builtin.Slice.slicePlaces lo hi 1)) _ _ s;rw[Ws lo hi n];show wpAny _ _ (pure (((sIx n 0 lo:Nat):Int),(1:Int),Builtin.Slice.slicePlaces ((sIx n 0 lo:Nat):Int) ((sIx n n hi:Nat):Int) 1)) _ _ s;rw[Wt];exact z09 h
theorem bH (xs:Array Value) (i k:Nat):((List.range k).filterMap λ (m:Nat)=>xs[((i:Int)+(m:Int)*1).toNat]?).toArray=((xs.toList.drop i).take k).toArray:=by
 have e:(λ (m:Nat)=>xs[((i:Int)+(m:Int)*1).toNat]?)=λ m=>xs[i+m]?:=by
  funext m;have:((i:Int)+(m:Int)*1).toNat=i+m:=by omega
  rw[this]
 rw[e];have:=pick_run xs i k;rw[List.filterMap_map] at this;have e2:((λ x=>xs[x]?) ∘ λ x=>i+x)=λ m=>xs[i+m]?:=rfl;rw[e2] at this;rw[this]
theorem Lg {t sl:Addr}{items:Array Value}{vl vu:Value}{lo hi:Option Int}{Q:zQ}(ht:IsTup s.heap t items) (hs:s.heap.IsSliceOf sl vl vu .none) (pl:IsPart vl lo) (pu:IsPart vu hi)
  (hw:¬ (sIx items.size 0 lo=0/\sIx items.size items.size hi=items.size))
  (h:Q (.ref s.heap.objs.size) { s with heap:=s.heap.push { cls:=.type "tuple",data:=.seq ((items.toList.drop (sIx items.size 0 lo)).take (sIx items.size items.size hi-sIx items.size 0 lo)).toArray } })
  (hsz:items.size<=sizeLine):wpAny (model prog w) A (getItem (.ref t) (.ref sl)) Q E s:=by
 have htake:sizeOk (.seq ((items.toList.drop (sIx items.size 0 lo)).take (sIx items.size items.size hi-sIx items.size 0 lo)).toArray):=by
  show ((items.toList.drop (sIx items.size 0 lo)).take (sIx items.size items.size hi-sIx items.size 0 lo)).toArray.size<=sizeLine;rw[z0f,z0W,z18,z1b];omega
 have hj:sIx items.size items.size hi<=items.size:=nM _ _ (z01 _) hi;obtain⟨os,hos,hcs,hds⟩:=id hs;have hTs:s.TypeIs (.ref sl) "slice":=⟨os,hos,hcs⟩;unfold getItem
 try with_reducible refine wpAny_holding ?_
 first | refine z02 (z09 ?_) | skip
 refine z02 (wpAny_sequenceKey ht.typeIs (by decide) ?_);refine z02 (wpAny_callSpecial?_slot (name:=Str.ofString "__getitem__") ht.typeIs PyProof.Rows.slot_tuple_getitem
  (wpAny_call_entry PyProof.Rows.slot_tuple_getitem ht.typeIs entry_tuple_getitem ?_ (args_tuple_getitem _ _)))
 show wpAny _ _ (Builtin.Tuple.tupleItemsOf (.ref t) >>= _) _ _ s;refine z02 (tupleItemsOf_ ht ?_);refine z02 (wpAny_typeOf hTs ?_);rw[if_pos (by decide)];refine z02 (My hs pl pu ?_);have hno:¬ ((((sIx items.size 0 lo:Nat):Int)==0&&(1:Int)==1&&(sIx items.size items.size hi-sIx items.size 0 lo)==items.size)=true):=by
  intro q;rw[z0C,z0C] at q;have q1:((sIx items.size 0 lo:Nat):Int)=0:=eq_of_beq q.1.1;have q2:sIx items.size items.size hi-sIx items.size 0 lo=items.size:=eq_of_beq q.2;exact hw ⟨by omega,by omega⟩
 show wpAny _ _ (if (((sIx items.size 0 lo:Nat):Int)==0&&(1:Int)==1&&(sIx items.size items.size hi-sIx items.size 0 lo)==items.size)=true then _ else _) _ _ s;rw[if_neg hno,bH]
 first
  | exact z02 (m:=Builtin.Tuple.tupleExact _) (z1j (z09 ⟨_,rfl,z09 h⟩) htake)
  | exact z02 (m:=Builtin.Tuple.tupleExact _) (z1j (z02 (z09 (z09 ⟨_,rfl,z09 h⟩))) htake)
  | exact z02 (z02 (m:=Builtin.Tuple.tupleExact _) (z1j (z09 (z09 ⟨_,rfl,z09 h⟩)) htake))
  | exact z02 (z02 (m:=Builtin.Tuple.tupleExact _) (z1j (z09 ⟨_,rfl,z09 h⟩) htake))
end
end HT
namespace L2
open PySem PySem.Spec PyProof.Rows
abbrev TO:=St->Hp->(Option Int->Hp->Prop)->Prop
def PO (X:Cx) (e:Option Expr) (t:TO):Prop:=
 ∀ (π:zP) (s:Shared) (σ:St) (H:Hp) (Q:Option Int->Hp->Prop),Inv X π σ H s->t σ H Q ->
  wpAny (model X.prog X.w) X.A (evalPart e X.env) (λ u s'=>∃ o H',Inv X π σ H' s'/\IsPart u o/\Q o H') X.xe s
def qb (t:TE):TO:=λ σ H Q=>t σ H λ x H1=>∃ i,x=.int i/\Q (some i) H1
theorem intsAre_of {ns:List Int}:∀ {us:List Value},Vals (ns.map V.int) us->IntsAre us ns:=by
 induction ns with
 | nil=>intro us r;rw[z11] at r;cases r;exact .nil
 | cons n ns ih=>
  intro us r;rw[z03] at r;cases r with
  | cons r1 r2=>
   obtain⟨t,e⟩:=r1;subst e;exact .cons n t (ih r2)
section
variable {lo hi:Option Expr}{tl th:TO}{p2:Pos}
theorem iJ (h:PE X e te):PO X (some e) (qb te):=by
 intro π s σ H Q I hw;rw[evalPart_some];refine thn (h π s σ H _ I hw) λ u s1 ⟨x,H1,I1,r1,q1⟩=>?_;obtain⟨i,rfl,q⟩:=q1;obtain⟨t,rfl⟩:=r1;exact⟨some i,H1,I1,.int i t,q⟩
def SlR (X:Cx) (r:V->Option Int->Option Int->Hp->VK->Prop):Prop:=
 ∀ (π:zP) (s:Shared) (σ:St) (H:Hp) (x:V) (v vl vu:Value) (lo hi:Option Int) (sl:Addr) (Q:VK),Inv X π σ H s->RelV x v->s.heap.IsSliceOf sl vl vu .none->IsPart vl lo->IsPart vu hi->r x lo hi H Q ->
  ∃ T id,typeLookup (.type T) "__getitem__"=pure (some (.builtin id))/\s.TypeIs v T/\wpAny (model X.prog X.w) X.A (getItem v (.ref sl)) (EP X π σ Q) X.xe s
theorem SlR.or {r r':V->Option Int->Option Int->Hp->VK->Prop}(h:SlR X r) (h':SlR X r'):SlR X (λ x lo hi H Q=>r x lo hi H Q∨r' x lo hi H Q):=by
 intro π s σ H x v vl vu lo hi sl Q I rx hs pl pu q
 rcases q with q | q
 ·exact h π s σ H x v vl vu lo hi sl Q I rx hs pl pu q
 ·exact h' π s σ H x v vl vu lo hi sl Q I rx hs pl pu q
def tSl (r:V->Option Int->Option Int->Hp->VK->Prop) (te:TE) (tl th:TO):TE:=λ σ H Q=>te σ H λ x H1=>tl σ H1 λ l H2=>th σ H2 λ u H3=>r x l u H3 Q
theorem bI {r:V->Option Int->Option Int->Hp->VK->Prop}(hr:SlR X r) (he:PE X e te) (hl:PO X lo tl) (hu:PO X hi th):PE X (.Subscript e (.Slice lo hi none p2) pos) (tSl r te tl th):=by
 intro π s σ H Q I h;refine Subscript_ (thn (he π s σ H _ I h) λ v s1 ⟨x,H1,I1,r1,q1⟩=>?_);refine wpAny_Slice (thn (hl π s1 σ H1 _ I1 q1) λ vl s2 ⟨l,H2,I2,pl,q2⟩=>thn (hu π s2 σ H2 _ I2 q2) λ vu s3 ⟨u,H3,I3,pu,q3⟩=>?_);rw[evalPart_none];refine z09 ?_;have I4:Inv X π σ H3 { s3 with heap:=s3.heap.push { cls:=.type "slice",data:=.fields #[vl,vu,.none] } }:=I3.kept (t':=s3.toks) λ b ob q=>z0c _ q;obtain⟨T,id,hT,ht,hg⟩:=hr π { s3 with heap:=s3.heap.push { cls:=.type "slice",data:=.fields #[vl,vu,.none] } } σ H3 x v vl vu l u s3.heap.objs.size Q I4 r1 (Heap.IsSliceOf.new ..) pl pu q3;show wpAny (model X.prog X.w) X.A (subscriptTail e (.Slice lo hi none p2) v (.ref s3.heap.objs.size)) (EP X π σ Q) X.xe { s3 with heap:=s3.heap.push { cls:=.type "slice",data:=.fields #[vl,vu,.none] } };exact tail_any (ops:=[.ref s3.heap.objs.size,v]) ht hT hg (by with_unfolding_all rfl)
def cutV (xs:List V) (lo hi:Option Int):List V:=(xs.drop (HT.sIx xs.length 0 lo)).take (HT.sIx xs.length xs.length hi-HT.sIx xs.length 0 lo)
theorem OD (xs:List V) (lo hi:Option Int):(cutV xs lo hi).length<=xs.length:=by
 unfold cutV;rw[z0W,z18];omega
def rSlT (K:zFr):V->Option Int->Option Int->Hp->VK->Prop:=λ x lo hi H Q=>∃ a xs,x=.ref a/\SqT K H a xs ∧
 ¬ (HT.sIx xs.length 0 lo=0/\HT.sIx xs.length xs.length hi=xs.length)/\∀ p,H p=none->Q (.ref p) (upd H p (.tup (cutV xs lo hi)))
theorem nO:SlR X (rSlT X.K):=by
 intro π s σ H x v vl vu lo hi sl Q I rx hs pl pu h;obtain⟨a,xs,rfl,hx,hw,q⟩:=h;cases rx;obtain⟨its,r,ht,hz⟩:=I.tuple hx;have hlen:its.toArray.size=xs.length:=by rw[z0f];exact r.length.symm
 refine⟨"tuple",_,PyProof.Rows.slot_tuple_getitem.lookup,ht.typeIs,?_⟩;refine HT.Lg ht hs pl pu (by rw[hlen];exact hw) ?_ (by rw[hlen];exact hz);rw[hlen];refine⟨.ref s.heap.objs.size,_,I.laid (t':=s.toks) (o:=.tup (cutV xs lo hi)) (λ b ob q=>z0c _ q) (z01 _) ?_,rfl,q _ (I.hok.fresh (z01 _))⟩;exact⟨z0t (OD xs lo hi) hz,_,(r.drop (HT.sIx xs.length 0 lo)).take (HT.sIx xs.length xs.length hi-HT.sIx xs.length 0 lo),IsTup.new _ _⟩
end
def ixN (n:Nat) (i:Int):Option Nat:=if 0<=i then (if i<n then some i.toNat else none) else if -(n:Int)<=i then some (i+n).toNat else none
def atI {α:Type}(xs:List α) (i:Int):Option α:=(ixN xs.length i).bind λ j=>xs[j]?
theorem iK {i:Int}(h:ixN n i=some j):seqIndex? i n=some j/\j<n/\-(n:Int)<=i/\i<n:=by
 unfold ixN at h
 by_cases h0:0<=i
 ·rw[if_pos h0] at h
  by_cases h1:i<n
  ·rw[if_pos h1] at h;have e:i.toNat=j:=z0e h;exact⟨by rw[seqIndex_of h0 h1,e],by omega,by omega,h1⟩
  ·rw[if_neg h1] at h;cases h
 ·rw[if_neg h0] at h
  by_cases h1 : -(n:Int)<=i
  ·rw[if_pos h1] at h;have e:(i+n).toNat=j:=z0e h;exact⟨by rw[seqIndex_neg (by omega) h1,e],by omega,h1,by omega⟩
  ·rw[if_neg h1] at h;cases h
theorem S9 {α:Type}{xs:List α}{i:Int}{v:α}(h:atI xs i=some v):∃ j,seqIndex? i xs.length=some j/\xs[j]?=some v/\j<xs.length/\-(xs.length:Int)<=i/\i<xs.length:=by
 unfold atI at h;cases e:ixN xs.length i with
 | none=>rw[e] at h;cases h
 | some j=>
  rw[e] at h;obtain⟨h1,h2,h3,h4⟩:=iK e;exact⟨j,h1,h,h2,h3,h4⟩
def Lh (b:Expr):Prop:=∀ o i,subscripted b false o i=operate [o,i] (getItem o i)
def IxR (X:Cx) (r:R2):Prop:=
 ∀ (value slice:Expr) (π:zP) (s:Shared) (σ:St) (H:Hp) (x y:V) (v u:Value) (Q:VK),Inv X π σ H s->RelV x v->RelV y u->r x y H Q ->
  subscripted slice false v u=operate [v,u] (getItem v u)->wpAny (model X.prog X.w) X.A (subscriptTail value slice v u) (EP X π σ Q) X.xe s
def MtR (X:Cx) (id:String) (r:V->List V->Hp->VK->Prop):Prop:=
 ∀ (π:zP) (s:Shared) (σ:St) (H:Hp) (x:V) (xs:List V) (v:Value) (us:List Value) (Q:VK),Inv X π σ H s->RelV x v->Vals xs us->r x xs H Q ->
  wpAny (model X.prog X.w) X.A (call (.builtin id) (v::us)) (EP X π σ Q) X.xe s
section
variable {a b:Expr}{ta tb:TE}
theorem IxR.or {r r':R2}(h:IxR X r) (h':IxR X r'):IxR X (λ x y H Q=>r x y H Q∨r' x y H Q):=by
 intro value slice π s σ H x y v u Q I rx ry q hs
 rcases q with q | q
 ·exact h value slice π s σ H x y v u Q I rx ry q hs
 ·exact h' value slice π s σ H x y v u Q I rx ry q hs
theorem MtR.or {id:String}{r r':V->List V->Hp->VK->Prop}(h:MtR X id r) (h':MtR X id r'):MtR X id (λ x xs H Q=>r x xs H Q∨r' x xs H Q):=by
 intro π s σ H x xs v us Q I rx rs q
 rcases q with q | q
 ·exact h π s σ H x xs v us Q I rx rs q
 ·exact h' π s σ H x xs v us Q I rx rs q
theorem km {r:R2}(hr:IxR X r) (ha:PE X a ta) (hb:PE X b tb) (hs:Lh b):PE X (.Subscript a b pos) (tOp r ta tb):=by
 intro π s σ H Q I h;exact Subscript_ (binT ha hb I h λ v u s2 x y H2 I2 rx ry q=>hr a b π s2 σ H2 x y v u Q I2 rx ry q (hs _ _))
def rIxL (K:zFr):R2:=λ x y H Q=>∃ p xs i v,x=.ref p/\y=.int i/\SqL K H p xs/\atI xs i=some v/\Q v H
def rIxT (K:zFr):R2:=λ x y H Q=>∃ p xs i v,x=.ref p/\y=.int i/\SqT K H p xs/\atI xs i=some v/\Q v H
def rIxS:R2:=λ x y H Q=>∃ z i c,x=.str z/\y=.int i/\z.length<=sizeLine/\atI z.cps.toList i=some c/\Q (.str ⟨#[c]⟩) H
theorem iM:IxR X (rIxL X.K):=by
 intro value slice π s σ H x y v u Q I rx ry h hs;obtain⟨p,xs,i,z,rfl,rfl,hq,he,q⟩:=h;cases rx;obtain⟨t,rfl⟩:=ry;obtain⟨its,r,pl,hz⟩:=I.list hq;obtain⟨j,h1,h2,h3,h4,h5⟩:=S9 he;obtain⟨w,ew,rw'⟩:=r.get h2;have hl:=r.length;have hn:=QT;have fin:EP X π σ Q w s:=⟨z,H,I,rw',q⟩
 by_cases h0:0<=i
 ·have hj:i.toNat=j:=by
   rw[seqIndex_of h0 h5] at h1;exact z0e h1
  exact item_listR pl.isList h0 (by omega) (by rw[hj];simpa using ew) fin hs
 ·have hj:(i+(its.toArray.size:Int)).toNat=j:=by
   rw[seqIndex_neg (by omega) h4] at h1;rw[z0f,<-hl];exact z0e h1
  exact subscriptTail_builtinR (x:=w) pl.isList.typeIs slot_list_getitem.lookup
   (wpAny_getItem_list_neg (Q:=λ r s'=>r=w/\EP X π σ Q r s') pl.isList (by omega) (by rw[z0f]<;>omega) (by omega) (by rw[hj];simpa using ew) ⟨rfl,fin⟩) hs
theorem nP:IxR X (rIxT X.K):=by
 intro value slice π s σ H x y v u Q I rx ry h hs;obtain⟨p,xs,i,z,rfl,rfl,hq,he,q⟩:=h;cases rx;obtain⟨t,rfl⟩:=ry;obtain⟨its,r,pl,hz⟩:=I.tuple hq;obtain⟨j,h1,h2,h3,h4,h5⟩:=S9 he;obtain⟨w,ew,rw'⟩:=r.get h2;have hl:=r.length;have hn:=QT;have fin:EP X π σ Q w s:=⟨z,H,I,rw',q⟩;exact subscriptTail_builtinR (x:=w) pl.typeIs slot_tuple_getitem.lookup
  (getItem_tuple (j:=j) (Q:=λ r s'=>r=w/\EP X π σ Q r s') pl (by omega) (by omega) (by rw[z0f,<-hl];exact h1) (by simpa using ew) ⟨rfl,fin⟩) hs
theorem S_:IxR X rIxS:=by
 intro value slice π s σ H x y v u Q I rx ry h hs;obtain⟨z,i,c,rfl,rfl,hz,he,q⟩:=h;obtain⟨t,rfl⟩:=rx;obtain⟨t',rfl⟩:=ry;obtain⟨j,h1,h2,h3,h4,h5⟩:=S9 he;have hl:z.cps.toList.length=z.length:=by simp[Str.length]
 rw[hl] at h1 h4 h5;have hn:=QT;exact tail_any (typeIs_str s z t) slot_str_getitem.lookup (getItem_str (c:=c) (by
  have e1:decide (i < -(2^63:Int))=false:=z0a (by omega);have e2:decide (i≥2^63)=false:=z0a (by omega);rw[e1,e2,Bool.or_false]) (by rw[h1];simpa using h2) ⟨.str ⟨#[c]⟩,H,I.tok _,⟨_,rfl⟩,q⟩) hs
def rIx (K:zFr):R2:=λ x y H Q=>rIxL K x y H Q∨rIxT K x y H Q∨rIxS x y H Q
theorem bJ:IxR X (rIx X.K):=iM.or (nP.or S_)
theorem Inv.lst {π:zP}{σ:St}{H:Hp}{s:Shared}{p:Addr}{xs:List V}(I:Inv X π σ H s) (h:H p=some (.lst xs)) :
  ∃ (its:List Value) (n:Nat),Vals xs its/\s.heap.get? p=some { cls:=.type "list",data:=.seq its.toArray n }/\xs.length<=sizeLine:=by
 obtain⟨z,its,n,r,e⟩:=I.hok p _ h;exact⟨its,n,r,e,z⟩
theorem TF (lo hi:Option Int) (n:Nat):(sliceBounds lo hi none n).1=((HT.sIx n 0 lo:Nat):Int)/\(sliceBounds lo hi none n).2.1=((HT.sIx n n hi:Nat):Int)/\(sliceBounds lo hi none n).2.2=1:=by
 refine⟨?_,?_,rfl⟩
 ·cases lo with
  | none=>simp[sliceBounds,HT.sIx]
  | some i=>
   simp only[sliceBounds,HT.sIx,Option.getD_none,show (1:Int) > 0 by decide,if_true]
   by_cases h:i<0
   ·simp only[h,if_true]<;>omega
   ·simp only[h,if_false]<;>omega
 ·cases hi with
  | none=>simp[sliceBounds,HT.sIx]
  | some i=>
   simp only[sliceBounds,HT.sIx,Option.getD_none,show (1:Int) > 0 by decide,if_true]
   by_cases h:i<0
   ·simp only[h,if_true]<;>omega
   ·simp only[h,if_false]<;>omega
theorem Rb (its:List Value) (lo hi:Option Int):slicePick its.toArray lo hi none=((its.drop (HT.sIx its.length 0 lo)).take (HT.sIx its.length its.length hi-HT.sIx its.length 0 lo)).toArray:=by
 obtain⟨h1,h2,h3⟩:=TF lo hi its.toArray.size;unfold slicePick;rw[h1,h2,h3];simp only[sliceRange_one,pick_run,z0f]<;>rfl
def rSlL (K:zFr):V->Option Int->Option Int->Hp->VK->Prop:=λ x lo hi H Q=>∃ a xs,x=.ref a/\SqL K H a xs/\∀ p,H p=none->Q (.ref p) (upd H p (.lst (cutV xs lo hi)))
theorem iQ:SlR X (rSlL X.K):=by
 intro π s σ H x v vl vu lo hi sl Q I rx hs pl pu h;obtain⟨a,xs,rfl,hx,q⟩:=h;cases rx;obtain⟨its,r,ht,hz⟩:=I.list hx;have hlen:=r.length;refine⟨"list",_,slot_list_getitem.lookup,ht.isList.typeIs,?_⟩;refine wpAny_getItem_list_slice ht.isList hs pl pu .none (by simp) ?_ (by rw[z0f]<;>omega);rw[Rb,<-hlen];refine⟨.ref s.heap.objs.size,_,I.laid (t':=s.toks) (o:=.lst (cutV xs lo hi)) (λ b ob q=>z0c _ q) (z01 _) ?_,rfl,q _ (I.hok.fresh (z01 _))⟩;exact⟨z0t (OD xs lo hi) hz,_,0,(r.drop (HT.sIx xs.length 0 lo)).take (HT.sIx xs.length xs.length hi-HT.sIx xs.length 0 lo),z0i _ rfl⟩
def Jm:V->Bool
 | .non=>true
 | .bl _=>true
 | .int _=>true
 | .str _=>true
 | _=>false
def eqV:V->V->Bool
 | .non,.non=>true
 | .bl a,.bl b=>a==b
 | .bl a,.int b=>(if a then 1 else 0)==b
 | .int a,.bl b=>a==(if b then 1 else 0)
 | .int a,.int b=>a==b
 | .str a,.str b=>a==b
 | _,_=>false
theorem bK {A:Around}{x:V}{v:Value}(ry:RelV y u) (rx:RelV x v) (fy:Jm y=true) (fx:Jm x=true):SeqAt.EqAt A s u v (eqV y x):=by
 cases y with
 | non=>
  cases ry;cases x with
  | non=>cases rx;exact SeqAt.EqAt.same _
  | bl b=>cases rx;exact SeqAt.EqAt.none_bool b
  | int b=>obtain⟨t,rfl⟩:=rx;exact SeqAt.EqAt.none_int b t
  | str b=>obtain⟨t,rfl⟩:=rx;exact SeqAt.EqAt.none_str b t
  | _=>exact absurd (show false=true from fx) z0r
 | bl a=>
  cases ry;cases x with
  | non=>cases rx;exact SeqAt.EqAt.bool_none a
  | bl b=>cases rx;exact SeqAt.EqAt.bool_bool a b
  | int b=>obtain⟨t,rfl⟩:=rx;exact SeqAt.EqAt.bool_int a b t
  | str b=>obtain⟨t,rfl⟩:=rx;exact SeqAt.EqAt.bool_str a b t
  | _=>exact absurd (show false=true from fx) z0r
 | int a=>
  obtain⟨t',rfl⟩:=ry;cases x with
  | non=>cases rx;exact SeqAt.EqAt.int_none a t'
  | bl b=>cases rx;exact SeqAt.EqAt.int_bool a t' b
  | int b=>obtain⟨t,rfl⟩:=rx;exact SeqAt.EqAt.int_int a t' b t
  | str b=>obtain⟨t,rfl⟩:=rx;exact SeqAt.EqAt.int_str a t' b t
  | _=>exact absurd (show false=true from fx) z0r
 | str a=>
  obtain⟨t',rfl⟩:=ry;cases x with
  | non=>cases rx;exact SeqAt.EqAt.str_none a t'
  | bl b=>cases rx;exact SeqAt.EqAt.str_bool a t' b
  | int b=>obtain⟨t,rfl⟩:=rx;exact SeqAt.EqAt.str_int a t' b t
  | str b=>obtain⟨t,rfl⟩:=rx;exact SeqAt.EqAt.str_str a t' b t
  | _=>exact absurd (show false=true from fx) z0r
 | _=>exact absurd (show false=true from fy) z0r
def eqU (x:V) (u:Value):Bool:=match u with
 | .none=>eqV .non x
 | .bool b=>eqV (.bl b) x
 | .int i _=>eqV (.int i) x
 | .str z _=>eqV (.str z) x
 | _=>false
theorem bL {x:V}(r:RelV y u) (f:Jm y=true):eqU x u=eqV y x:=by
 cases y with
 | non=>cases r;rfl
 | bl b=>cases r;rfl
 | int i=>obtain⟨t,rfl⟩:=r;rfl
 | str z=>obtain⟨t,rfl⟩:=r;rfl
 | _=>exact absurd (show false=true from f) z0r
theorem TJ {x:V}:∀ {xs:List V}{us:List Value},Vals xs us->xs.all Jm=true->us.any (eqU x)=xs.any λ y=>eqV y x
 | _,_,.nil,_=>rfl
 | y::xs,u::us,.cons r t,f=>by
  rw[z1d,z0C] at f;rw[z1e,z1e,bL r f.1,TJ t f.2]
theorem QX {A:Around}{s:Shared}{x:V}{v:Value}(rx:RelV x v) (fx:Jm x=true):∀ {xs:List V}{us:List Value},Vals xs us->xs.all Jm=true->∀ u∈us,SeqAt.EqAt A s u v (eqU x u)
 | _,_,.nil,_=>λ u hu=>by cases hu
 | y::xs,u::us,.cons r t,f=>λ u' hu=>by
  rw[z1d,z0C] at f
  rcases z08.mp hu with rfl | hu
  ·rw[bL r f.1];exact bK r rx f.1 fx
  ·exact QX rx fx t f.2 u' hu
def inV (x:V) (xs:List V):Bool:=xs.any λ y=>eqV y x
def rIn (K:zFr) (neg:Bool):R2:=λ x y H Q=>∃ p xs,y=.ref p/\(SqL K H p xs∨SqT K H p xs)/\Jm x=true/\xs.all Jm=true/\Q (.bl (if neg then !inV x xs else inV x xs)) H
theorem Zw:OpR X (compareOp .In) (rIn X.K false):=by
 intro π s σ H x y v u Q I rx ry h;obtain⟨p,xs,rfl,hq,fx,fs,q⟩:=h;cases ry
 rcases hq with hq | hq
 ·obtain⟨its,r,pl,hz⟩:=I.list hq;refine SeqAt.in_listAt (eqU x) pl.isList (λ w hw=>QX rx fx r fs w (by simpa using hw)) ⟨.bl _,H,I,rfl,?_⟩;rw[show its.toArray.any (eqU x)=its.any (eqU x) by simp,TJ r fs];exact q
 ·obtain⟨its,r,pl,hz⟩:=I.tuple hq;refine SeqAt.in_tupleAt (eqU x) pl (λ w hw=>QX rx fx r fs w (by simpa using hw)) ⟨.bl _,H,I,rfl,?_⟩;rw[show its.toArray.any (eqU x)=its.any (eqU x) by simp,TJ r fs];exact q
theorem Do.or {f:Value}{r':List V->Hp->VK->Prop}(h:Do X f r) (h':Do X f r'):Do X f (λ xs H Q=>r xs H Q∨r' xs H Q):=by
 intro π s σ H xs us Q I rs q
 rcases q with q | q
 ·exact h π s σ H xs us Q I rs q
 ·exact h' π s σ H xs us Q I rs q
theorem Ei:Do X (.type "list") (λ xs H Q=>∃ p ys,xs=[.ref p]/\(SqL X.K H p ys∨SqT X.K H p ys)/\∀ l,H l=none->Q (.ref l) (upd H l (.lst ys))):=by
  intro π s σ H xs us Q I r h;obtain⟨p,ys,rfl,hq,q⟩:=h;obtain⟨u,rfl,rx⟩:=vals1 r;cases rx;have fin:∀ (its:List Value),Vals ys its->ys.length<=sizeLine->∀ (h':Heap) (c':Nat),(∀ b o',s.heap.get? b=some o'->h'.get? b=some o') ->
      h'.get? s.heap.objs.size=some { cls:=.type "list",dict:=none,data:=.seq its.toArray c',slots:=#[] }->EP X π σ Q (.ref s.heap.objs.size) { s with heap:=h' }:=λ its r' hz h' c' kp e=>
    ⟨.ref s.heap.objs.size,_,I.laid (t':=s.toks) kp (z01 _) (show BK X.prog X.w _ h' _ (.lst ys) from⟨hz,its,c',r',e⟩),rfl,q _ (I.hok.fresh (z01 _))⟩
  rcases hq with hq | hq
  · obtain⟨its,r',pl,hz⟩:=I.list hq
    have hlen:=r'.length;obtain⟨o,ho,hc,n,hd⟩:=pl.isList;exact call_list_seq p (.inl rfl) ho hc hd (λ h' c' kp e=>fin its r' hz h' c' kp e) (by simp only[z0f]<;>omega)
  · obtain⟨its,r',pl,hz⟩:=I.tuple hq
    have hlen:=r'.length;obtain⟨o,ho,hc,n,hd⟩:=pl;exact call_list_seq p (.inr rfl) ho hc hd (λ h' c' kp e=>fin its r' hz h' c' kp e) (by simp only[z0f]<;>omega)
def tyV (K:zFr) (T:String) (x:V) (H:Hp):Prop:=match x with
  | .str _=>T="str"
  | .int _=>T="int"
  | .ref p=>(T="list"/\∃ xs,SqL K H p xs)∨(T="tuple"/\∃ o,K.lookup p=some o/\o.cls=.type "tuple"/\o.dict=none) ∨
      (T="dict"/\((∃ kvs,H p=some (.dK kvs))∨∃ kvs,H p=some (.dT kvs)))∨(T="set"/\∃ S n,H p=some (.set S n))
  | _=>False
theorem bM {T:String}{x:V}{v:Value}(I:Inv X π σ H s) (r:RelV x v) (ty:tyV X.K T x H) :
  s.TypeIs v T/\∀ a,v=.ref a->∃ ob,s.heap.get? a=some ob/\ob.dict=none:=by
 cases x with
 | str z=>
  obtain⟨t,rfl⟩:=r;cases (show T="str" from ty);exact⟨typeIs_str s z t,λ _ e=>nomatch e⟩
 | int i=>
  obtain⟨t,rfl⟩:=r;cases (show T="int" from ty);exact⟨typeIs_int s i t,λ _ e=>nomatch e⟩
 | ref p=>
  cases r
  rcases ty with ⟨rfl,xs,hq⟩ | ⟨rfl,o,hk,hc,hd⟩ | ⟨rfl,hk⟩ | ⟨rfl,S,n,hk⟩
  ·obtain⟨its,_,pl,_⟩:=I.list hq;refine⟨pl.isList.typeIs,λ a e=>?_⟩;cases e;obtain⟨o,n,e,c,hd,_⟩:=pl;exact⟨o,e,hd⟩
  ·refine⟨⟨o,I.kIn p o hk,hc⟩,λ a e=>?_⟩;cases e;exact⟨o,I.kIn _ o hk,hd⟩
  ·have z:∃ o,s.heap.get? p=some o/\o.ExactDict:=by
    rcases hk with ⟨kvs,hk⟩ | ⟨kvs,hk⟩
    ·obtain⟨_,_,_,_,o,_,_,e,ex,_⟩:=I.hok p _ hk;exact⟨o,e,ex⟩
    ·obtain⟨_,_,_,_,o,_,_,e,ex,_⟩:=I.hok p _ hk;exact⟨o,e,ex⟩
   obtain⟨o,e,ex⟩:=z;refine⟨⟨o,e,ex.1⟩,λ a e2=>?_⟩;cases e2;exact⟨o,e,ex.2.1⟩
  ·obtain⟨o,_,_,_,e,ex,_⟩:=I.hok p _ hk;refine⟨⟨o,e,ex.1⟩,λ a e2=>?_⟩;cases e2;exact⟨o,e,ex.2.1⟩
 | _=>exact False.elim ty
def tBM0 (K:zFr) (T:String) (r:V->List V->Hp->VK->Prop) (to:TE):TE:=λ σ H Q=>to σ H λ x H1=>tyV K T x H1/\r x [] H1 Q
def tBM (K:zFr) (T:String) (r:V->List V->Hp->VK->Prop) (to:TE) (t:TA):TE:=λ σ H Q=>to σ H λ x H1=>tyV K T x H1/\t σ H1 λ xs H2=>r x xs H2 Q
variable {o:Expr}{to:TE}{t:TA}{name:Str}{T id:String}{r:V->List V->Hp->VK->Prop}
theorem nQ (pa:PlainAttrs T) (slot:Slot T name id) (hty:typeOf (.builtin id)=pure (.type "method_descriptor")) (hm:MtR X id r) (ho:PE X o to)
  (hbase:attributeBase o name X.env (eval o X.env)=eval o X.env:=by rfl) (hline:(apos.endLine==cpos.line)=true:=by rfl):PE X (.Call (.Attribute o name apos) [] [] cpos) (tBM0 X.K T r to):=by
 intro π s σ H Q I h;refine wpAny_Call_method0_late hbase hline (thn (ho π s σ H _ I h) λ v s1 ⟨x,H1,I1,r1,ty,q1⟩=>?_);obtain⟨h1,h2⟩:=bM I1 r1 ty;exact⟨T,id,pa,slot,hty,h1,h2,Calls.callWith_builtin rfl (PySem.evalArgs_none (hm π s1 σ H1 x [] v [] Q I1 r1 .nil q1))⟩
theorem Xm (pa:PlainAttrs T) (slot:Slot T name id) (hty:typeOf (.builtin id)=pure (.type "method_descriptor")) (hm:MtR X id r) (ho:PE X o to) (ha:PA X (e::es) t)
  (hbase:attributeBase o name X.env (eval o X.env)=eval o X.env:=by rfl)
  (hfew:((backTo cpos (starEach (e::es) X.env)).all (λ x=>!x.1)&&(backToKw cpos (keywordEach [] X.env)).all (λ x=>x.1.isSome)
   && decide ((e::es).length+([]:List Keyword).length+(if ([]:List Keyword).isEmpty then 0 else 1)<30))=true:=by rfl)
  (hline:(apos.endLine==cpos.line)=true:=by rfl) (hs:starEach (e::es) X.env=(false,eval e X.env)::starEach es X.env:=by rfl) (hplain:(backTo cpos (starEach es X.env)).any (·.1)=false:=by rfl) :
  PE X (.Call (.Attribute o name apos) (e::es) [] cpos) (tBM X.K T r to t):=by
 intro π s σ H Q I h;refine wpAny_Call_method_late hbase hfew hline rfl (thn (ho π s σ H _ I h) λ v s1 ⟨x,H1,I1,r1,ty,q1⟩=>?_);obtain⟨h1,h2⟩:=bM I1 r1 ty;refine⟨T,id,pa,slot,hty,h1,h2,?_⟩;have hA:=ha cpos π s1 σ H1 _ I1 q1;rw[hs] at hA ⊢;refine Calls.callWith_builtin (by show (false||(backTo cpos (starEach es X.env)).any (·.1))=false;rw[hplain]<;>rfl) (Calls.evalArgs_plain ?_);exact thn hA λ us s2 ⟨vs,H2,I2,r2,q2⟩=>hm π s2 σ H2 x vs v us Q I2 r1 r2 q2
end
def MtM (X:Cx) (id:String) (r:V->List V->Hp->VK->Prop):Prop:=
 ∀ (π:zP) (s:Shared) (σ:St) (H:Hp) (x:V) (xs:List V) (v:Value) (us:List Value) (Q:VK),Inv X π σ H s->RelV x v->Vals xs us->r x xs H Q ->
  wpAny (model X.prog X.w) X.A (call (.builtin id) (v::us)) (EP X π σ Q) X.xe s
theorem Vals.one:∀ {x:V}{us:List Value},Vals [x] us->∃ u,us=[u]/\RelV x u
 | _,_,.cons r .nil=>⟨_,rfl,r⟩
theorem Vals.zero:∀ {us:List Value},Vals [] us->us=[]
 | _,.nil=>rfl
theorem Vals.eraseIdx:∀ {xs:List V}{us:List Value}(i:Nat),Vals xs us->Vals (xs.eraseIdx i) (us.eraseIdx i)
 | _,_,_,.nil=>.nil
 | _,_,0,.cons _ t=>t
 | _,_,i+1,.cons r t=>.cons r (Vals.eraseIdx i t)
theorem Vals.reverse (h:Vals xs us):Vals xs.reverse us.reverse:=by
 induction h with
 | nil=>exact .nil
 | cons r t ih=>rw[List.reverse_cons,List.reverse_cons];exact Vals.append ih (.cons r .nil)
theorem Mz {α:Type}:∀ (l:List α) (i:Nat),(l.eraseIdx i).length<=l.length
 | [],_=>z01 _
 | _::_,0=>z0V _
 | _::r,i+1=>Nat.succ_le_succ (Mz r i)
section
variable {l:Addr}{zs:List V}
theorem Inv.lset {its':List Value}{f:Array Value->Array Value}(I:Inv X π σ H s) (hH:H l=some (.lst xs))
  (e:s.heap.get? l=some { cls:=.type "list",data:=.seq its.toArray n }) (hf:f its.toArray=its'.toArray) (hv:Vals ys its') (hz:ys.length<=sizeLine) :
  Inv X π σ (upd H l (.lst ys)) { s with heap:=s.heap.update l (Obj.mapSeq f),toks:=t' }:=by
 have q:=PySem.IsL.update e f;rw[hf] at q;refine I.write (x:=l) (e:=l) (by rw[hH];exact trivial) (.inl rfl) (λ b' u hb hu=>(Heap.get?_update_other s.heap (Obj.mapSeq f) (Ne.symm hb)).trans hu) ⟨_,q⟩ ?_;exact⟨hz,its',_,hv,q⟩
theorem Inv.lnew (I:Inv X π σ H s) (hv:Vals ys its) (hz:ys.length<=sizeLine) :
  Inv X π σ (upd H s.heap.objs.size (.lst ys)) { s with heap:=s.heap.push { cls:=.type "list",data:=.seq its.toArray },toks:=t' }:=
 I.laid (λ _ _ q=>z0c _ q) (z01 _) ⟨hz,its,0,hv,z0i _ rfl⟩
theorem Inv.fresh (I:Inv X π σ H s):H s.heap.objs.size=none:=I.hok.fresh (z01 _)
theorem Inv.lstM (I:Inv X π σ H s) (hH:H l=some (.lst xs)):xs.length<=sizeLine/\∃ (its:List Value) (n:Nat),Vals xs its/\xs.length=its.length/\s.heap.get? l=some { cls:=.type "list",data:=.seq its.toArray n }:=by
 obtain⟨z,its,n,r,e⟩:=I.hok l _ hH;exact⟨z,its,n,r,r.length,e⟩
end
section
def Xn:V->List V->Hp->VK->Prop:=λ x vs H Q=>∃ l xs y,x=.ref l/\vs=[y]/\H l=some (.lst xs)/\xs.length<sizeLine/\Q .non (upd H l (.lst (xs++[y])))
theorem Kd:MtM X "list.append" Xn:=by
 intro π s σ H x vs v us Q I rx rv h;obtain⟨l,xs,y,rfl,rfl,hH,hz,q⟩:=h;cases rx;obtain⟨u,rfl,ru⟩:=rv.one;obtain⟨z,its,n,r,hl,e⟩:=I.lstM hH;refine call_meets F.slot_list_append ⟨_,e,rfl⟩ F.entry_list_append (F.args_list_append_2 _ _) (PySem.list_append l its.toArray n u (by rw[z0f];omega)) ⟨e,?_⟩;refine⟨.non,_,I.lset (its':=its++[u]) hH e (by simp) (r.append (.cons ru .nil)) ?_,rfl,q⟩;rw[z0j,List.length_singleton];omega
def nR:V->List V->Hp->VK->Prop:=λ x vs H Q=>∃ l xs i k y,x=.ref l/\vs=[.int i]/\H l=some (.lst xs)/\-(2^63)<=i/\i<2^63/\seqIndex? i xs.length=some k/\xs[k]?=some y/\Q y (upd H l (.lst (xs.eraseIdx k)))
theorem bN:MtM X "list.pop" nR:=by
 intro π s σ H x vs v us Q I rx rv h;obtain⟨l,xs,i,k,y,rfl,rfl,hH,h1,h2,hk,hy,q⟩:=h;cases rx;obtain⟨u,rfl,ru⟩:=rv.one;obtain⟨t,rfl⟩:=ru;obtain⟨z,its,n,r,hl,e⟩:=I.lstM hH;obtain⟨w,hw,rw'⟩:=r.get hy;refine call_meets F.slot_list_pop ⟨_,e,rfl⟩ F.entry_list_pop (F.args_list_pop_2 _ _)
  (MeetsSeq.list_pop_at l its.toArray n i t k w (fitsIndex_both h1 h2) (by rw[z0f,<-hl];exact hk) (by rw[<-Array.getElem?_toList];exact hw) (by rw[z0f];omega)) ⟨e,?_⟩
 refine⟨y,_,I.lset (its':=its.eraseIdx k) hH e ?_ (r.eraseIdx k) ?_,rw',q⟩
 ·show its.toArray.eraseIdxIfInBounds k=(its.eraseIdx k).toArray;rw[List.eraseIdxIfInBounds_toArray]
 ·have:=Mz xs k;omega
def nU:V->List V->Hp->VK->Prop:=λ x vs H Q=>∃ l xs,x=.ref l/\vs=[]/\H l=some (.lst xs)/\Q .non (upd H l (.lst []))
theorem bO:MtM X "list.clear" nU:=by
 intro π s σ H x vs v us Q I rx rv h;obtain⟨l,xs,rfl,rfl,hH,q⟩:=h;cases rx;have hus:=rv.zero;subst hus;obtain⟨z,its,n,r,hl,e⟩:=I.lstM hH;refine call_meets F.slot_list_clear ⟨_,e,rfl⟩ F.entry_list_clear (F.args_list_clear_1 _) (AutoSeq1.list_clear_list_0 l its.toArray n (by rw[z0f];omega)) ⟨e,?_⟩;exact⟨.non,_,I.lset (its':=[]) (ys:=[]) hH e rfl .nil (z0s _),rfl,q⟩
end
section
variable {A:Around}
end
section
end
section
variable {κ:Type} [DecidableEq κ]
def valV (kvs:List (κ×V)) (k:κ):Option V:=(kvs.find? λ kv=>decide (kv.1=k)).map (·.2)
def putK (kvs:List (κ×V)) (k:κ) (v:V):List (κ×V):=
 if (kvs.any λ kv=>decide (kv.1=k))=true then kvs.map (λ kv=>if kv.1=k then (kv.1,v) else kv) else kvs++[(k,v)]
def k_ (kvs:List (κ×V)) (k:κ):List (κ×V):=kvs.filter λ kv=>decide (kv.1≠k)
theorem Li {p:κ×V}{r:List (κ×V)}{k:κ}(e:p.1=k):valV (p::r) k=some p.2:=by simp[valV,z1f,e]
theorem Lj {p:κ×V}{r:List (κ×V)}{k:κ}(e:¬ p.1=k):valV (p::r) k=valV r k:=by simp[valV,z1f,e]
theorem QZ (k:κ):∀ kvs:List (κ×V),(kvs.any λ kv=>decide (kv.1=k))=(valV kvs k).isSome
 | []=>rfl
 | p::r=>by
  rw[z1e]
  by_cases e:p.1=k
  ·simp only[Li e,z0g e,Bool.true_or,Option.isSome_some]
  ·rw[Lj e,z0a e,Bool.false_or];exact QZ k r
theorem OJ (kvs:List (κ×V)) (k:κ) (v:V):(putK kvs k v).length<=kvs.length+1:=by
 unfold putK;split
 ·rw[z00];omega
 ·rw[z0j,z0B,List.length_nil];omega
theorem RelO.isSome_eq {o:Option V}{u:Option Value}(r:RelO o u):o.isSome=u.isSome:=by
 cases o with
 | none=>cases u with
  | none=>rfl
  | some _=>exact (show False from r).elim
 | some _=>cases u with
  | none=>exact (show False from r).elim
  | some _=>rfl
theorem RelO.getD {o:Option V}{u:Option Value}{d:V}{d':Value}(r:RelO o u) (rd:RelV d d'):RelV (o.getD d) (u.getD d'):=by
 cases o with
 | none=>cases u with
  | none=>exact rd
  | some _=>exact (show False from r).elim
 | some _=>cases u with
  | none=>exact (show False from r).elim
  | some _=>exact r
theorem KV.val {kvs:List (κ×V)}{vs:List (κ×Value)}(r:KV kvs vs) (k:κ):RelO (valV kvs k) (valueAt vs k):=by
 unfold KV at r
 induction r with
 | nil=>exact True.intro
 | @cons p q ps qs h t ih=>
  obtain⟨h1,h2⟩:=h
  by_cases e:p.1=k
  ·have e':q.1=k:=h1.symm.trans e;have b:valueAt (q::qs) k=some q.2:=by simp[valueAt,z1f,e']
   rw[Li e,b];exact h2
  ·have e':¬ q.1=k:=λ z=>e (h1.trans z);have b:valueAt (q::qs) k=valueAt qs k:=by simp[valueAt,z1f,e']
   rw[Lj e,b];exact ih
theorem KV.any {kvs:List (κ×V)}{vs:List (κ×Value)}(r:KV kvs vs) (k:κ):(kvs.any λ kv=>decide (kv.1=k))=vs.any λ kv=>decide (kv.1=k):=by
 unfold KV at r
 induction r with
 | nil=>rfl
 | cons h t ih=>rw[z1e,z1e,ih,h.1]
theorem KV.repl {kvs:List (κ×V)}{vs:List (κ×Value)}(r:KV kvs vs) (k:κ) {y:V}{u:Value}(ry:RelV y u) :
  KV (kvs.map λ kv=>if kv.1=k then (kv.1,y) else kv) (vs.map λ kv=>if kv.1=k then (kv.1,u) else kv):=by
 unfold KV at r ⊢
 induction r with
 | nil=>exact .nil
 | @cons p q ps qs h t ih=>
  rw[z03,z03];refine .cons ?_ ih;obtain⟨h1,h2⟩:=h
  by_cases e:p.1=k
  ·rw[if_pos e,if_pos (h1.symm.trans e)];exact⟨h1,ry⟩
  ·rw[if_neg e,if_neg (λ z=>e (h1.trans z))];exact⟨h1,h2⟩
theorem KV.put {kvs:List (κ×V)}{vs:List (κ×Value)}(r:KV kvs vs) (k:κ) {y:V}{u:Value}(ry:RelV y u):KV (putK kvs k y) (stored vs k u):=by
 unfold putK stored;rw[r.any k]
 by_cases e:(vs.any λ kv=>decide (kv.1=k))=true
 ·rw[if_pos e,if_pos e];exact r.repl k ry
 ·rw[if_neg e,if_neg e];exact Paired.snoc r ⟨rfl,ry⟩
theorem KV.drop {kvs:List (κ×V)}{vs:List (κ×Value)}(r:KV kvs vs) (k:κ):KV (k_ kvs k) (without vs k):=by
 unfold KV at r ⊢;unfold k_ without
 induction r with
 | nil=>exact .nil
 | @cons p q ps qs h t ih=>
  obtain⟨h1,h2⟩:=h;rw[List.filter_cons,List.filter_cons]
  by_cases e:p.1=k
  ·have a:¬ decide (p.1≠k)=true:=by simp[e]
   have b:¬ decide (q.1≠k)=true:=by simp[h1.symm.trans e]
   rw[if_neg a,if_neg b];exact ih
  ·have e':¬ q.1=k:=λ z=>e (h1.trans z);have a:decide (p.1≠k)=true:=by simp[e]
   have b:decide (q.1≠k)=true:=by simp[e']
   rw[if_pos a,if_pos b];exact .cons ⟨h1,h2⟩ ih
theorem KV.length {kvs:List (κ×V)}{vs:List (κ×Value)}(r:KV kvs vs):kvs.length=vs.length:=Paired.length r
end
theorem Xo {k:Key}(r:RelV (kV k) u):(Aw P w).is k u=true:=by
 cases k with
 | inl i=>obtain⟨t,e⟩:=(show ∃ t,u=Value.int i t from r);subst e;exact VF P w i t
 | inr x=>obtain⟨t,e⟩:=(show ∃ t,u=Value.str x t from r);subst e;exact VG P w x t
theorem Rw {P:Program}{w:World}:∀ {ks:List Key}{us:List Value},Vals (ks.map kV) us->ItemsAre (Aw P w) ks us
 | [],_,r=>by rw[z11] at r;cases r;exact .nil
 | k::ks,_,r=>by
  rw[z03] at r;cases r with
  | cons h t=>exact .cons (Xo h) (Rw t)
abbrev KT (H:Hp):List (List Key×V)->List (List Key×Addr×Value)->Prop:=Paired λ p q=>p.1=q.1/\H q.2.1=some (.tup (p.1.map kV))/\RelV p.2 q.2.2
theorem KT.val {xs:List (List Key×Addr×Value)}(r:KT H kvs xs) (k:List Key):RelO (valV kvs k) ((atKey xs k).map (·.2)):=by
 induction r with
 | nil=>exact True.intro
 | @cons p q ps qs h t ih=>
  obtain⟨h1,_,h2⟩:=h
  by_cases e:p.1=k
  ·have e':q.1=k:=h1.symm.trans e;have b:atKey (q::qs) k=some q.2:=by simp[atKey,z1f,e']
   rw[Li e,b];exact h2
  ·have e':¬ q.1=k:=λ z=>e (h1.trans z);have b:atKey (q::qs) k=atKey qs k:=by simp[atKey,z1f,e']
   rw[Lj e,b];exact ih
theorem KT.repl {xs:List (List Key×Addr×Value)}(r:KT H kvs xs) (k:List Key) {y:V}{u:Value}(ry:RelV y u) :
  KT H (kvs.map λ kv=>if kv.1=k then (kv.1,y) else kv) (xs.map (putAt k u)):=by
 induction r with
 | nil=>exact .nil
 | @cons p q ps qs h t ih=>
  rw[z03,z03];refine .cons ?_ ih;obtain⟨h1,h2,h3⟩:=h;unfold putAt
  by_cases e:p.1=k
  ·rw[if_pos e,if_pos (h1.symm.trans e)];exact⟨h1,h2,ry⟩
  ·rw[if_neg e,if_neg (λ z=>e (h1.trans z))];exact⟨h1,h2,h3⟩
theorem KT.put {xs:List (List Key×Addr×Value)}(r:KT H kvs xs) (k:List Key) {b:Addr}{y:V}{u:Value}(hb:H b=some (.tup (k.map kV))) (ry:RelV y u) :
  KT H (putK kvs k y) (storedH xs k b u):=by
 have e:(kvs.any λ kv=>decide (kv.1=k))=(atKey xs k).isSome:=by
  rw[QZ,(r.val k).isSome_eq,Option.isSome_map]
 unfold putK storedH;rw[e]
 by_cases q:(atKey xs k).isSome=true
 ·rw[if_pos q,if_pos q];exact r.repl k ry
 ·rw[if_neg q,if_neg q];exact Paired.snoc r ⟨rfl,hb,ry⟩
theorem KT.keeps {xs:List (List Key×Addr×Value)}(r:KT H kvs xs) (ht:∀ b ys,H b=some (.tup ys)->H' b=some (.tup ys)):KT H' kvs xs:=
 Paired.mapP r λ _ _ z=>⟨z.1,ht _ _ z.2.1,z.2.2⟩
section
theorem bQ {u:HO}(ok:HOk P w H h) (e:Rd H a u):BK P w H h a u:=e.ok ok
theorem Im {kvs:List (Key×V)}(ok:HOk P w H h) (e:Rd H a (.dK kvs)):kvs.length<=sizeLine/\(a==sysModules)=false/\∃ vs,KV kvs vs/\h.DictOf (Aw P w) a vs:=
 show BK P w H h a (.dK kvs) from bQ ok e
theorem lA {kvs:List (Key×V)}(ok:HOk P w H h) (e:H a=some (.dK kvs)):kvs.length<=sizeLine/\(a==sysModules)=false/\∃ vs,KV kvs vs/\h.DictOf (Aw P w) a vs:=Im ok (.inl e)
theorem TQ {ks:List Key}(ok:HOk P w H h) (e:H a=some (.tup (ks.map kV))):(tupleKind (Aw P w)).is h ks a:=by
 obtain⟨_,its,r,o,h1,h2,n,h3⟩:=(show BK P w H h a (.tup (ks.map kV)) from ok a _ e);exact⟨o,its.toArray,n,h1,h2,h3,by simpa using Rw r⟩
theorem Xp (ok:HOk P w H h) (e:Rd H a (.dT kvs)):kvs.length<=sizeLine/\(a==sysModules)=false ∧
  ∃ xs,KT H kvs xs/\h.DictOfH (tupleKind (Aw P w)) a xs:=by
 obtain⟨z,y,xs,r,o,es,ep,h1,h2,h3,h4,h5⟩:=(show BK P w H h a (.dT kvs) from bQ ok e);refine⟨z,y,xs,r,o,es,ep,h1,h2,h3,h4,λ x hx=>?_,h5⟩;have all:∀ {l:List (List Key×V)}{m:List (List Key×Addr×Value)},KT H l m->∀ x∈m,(tupleKind (Aw P w)).is h x.1 x.2.1:=by
  intro l m q
  induction q with
  | nil=>intro x hx;exact nomatch hx
  | @cons p q ps qs hq t ih=>
   intro x hx
   rcases z08.mp hx with e | hx
   ·subst e;exact TQ ok (by rw[<-hq.1];exact hq.2.1)
   ·exact ih x hx
 exact all r x hx
theorem qe (ok:HOk P w H h) (e:H a=some (.dT kvs)):kvs.length<=sizeLine/\(a==sysModules)=false ∧
  ∃ xs,KT H kvs xs/\h.DictOfH (tupleKind (Aw P w)) a xs:=Xp ok (.inl e)
end
def DGet (H:Hp) (a:Addr) (y:V) (r:Option V):Prop:=
 (∃ kvs k,Rd H a (.dK kvs)/\y=kV k/\r=valV kvs k)∨∃ kvs k b,Rd H a (.dT kvs)/\y=.ref b/\H b=some (.tup (k.map kV))/\r=valV kvs k
def DPut (H:Hp) (a:Addr) (y v:V) (H':Hp):Prop:=
 (∃ kvs k,H a=some (.dK kvs)/\y=kV k/\kvs.length<sizeLine/\H'=upd H a (.dK (putK kvs k v))) ∨
 ∃ kvs k b,H a=some (.dT kvs)/\y=.ref b/\H b=some (.tup (k.map kV))/\kvs.length<sizeLine/\H'=upd H a (.dT (putK kvs k v))
theorem DGet.k {H:Hp}{a:Addr}{kvs:List (Key×V)}{k:Key}(e:H a=some (.dK kvs)):DGet H a (kV k) (valV kvs k):=.inl ⟨kvs,k,.inl e,rfl,rfl⟩
theorem DGet.t {k:List Key}(e:H a=some (.dT kvs)) (eb:H b=some (.tup (k.map kV))):DGet H a (.ref b) (valV kvs k):=.inr ⟨kvs,k,b,.inl e,rfl,eb,rfl⟩
theorem DPut.k {H:Hp}{a:Addr}{kvs:List (Key×V)}{k:Key}{v:V}(e:H a=some (.dK kvs)) (hl:kvs.length<sizeLine):DPut H a (kV k) v (upd H a (.dK (putK kvs k v))):=.inl ⟨kvs,k,e,rfl,hl,rfl⟩
theorem DPut.t {k:List Key}(e:H a=some (.dT kvs)) (eb:H b=some (.tup (k.map kV))) (hl:kvs.length<sizeLine) :
  DPut H a (.ref b) v (upd H a (.dT (putK kvs k v))):=.inr ⟨kvs,k,b,e,rfl,eb,hl,rfl⟩
section
variable {r:Value}{o:Option V}{A:Around}
theorem Inv.big (I:Inv X π σ H s):sysModules<s.heap.objs.size:=by
 have h:mainGlobals<s.heap.objs.size:=(I.mod.glob.keeps I.bk).lt;exact Nat.lt_trans (by decide) h
theorem Zx {Q:zQ}(hu:A.units+1<cLine) (I:Inv X π σ H s) (g:DGet H a y (some v)) (ry:RelV y u) (h:∀ w' s',Inv X π σ H s'->RelV v w'->Q w' s') :
  wpAny (model X.prog X.w) A (getItem (.ref a) u) Q E s:=by
 rcases g with ⟨kvs,k,e,ey,l⟩ | ⟨kvs,k,b,e,ey,eb,l⟩
 ·subst ey;obtain⟨z,hd,vs,rel,dd⟩:=Im I.hok e;obtain⟨w',hw,rw'⟩:=RelO.some_of (v:=v) (o:=valueAt vs k) (by rw[l];exact rel.val k);exact wpAny_getItem_of (Xo ry) dd.mapOf hw (h w' _ (I.tok _) rw')
 ·subst ey;cases (show u=Value.ref b from ry);obtain⟨z,hd,xs,rel,dd⟩:=Xp I.hok e;obtain⟨w',hw,rw'⟩:=RelO.some_of (v:=v) (o:=(atKey xs k).map (·.2)) (by rw[l];exact rel.val k);obtain⟨p,hp,hp2⟩:=Option.map_eq_some_iff.mp hw;refine wpAny_getItem_heap (tupleKind_room_in1 hu) (TQ I.hok eb) dd hp ?_;rw[hp2];exact h w' _ (I.tok _) rw'
theorem d_in {Q:zQ}(hu:A.units+1<cLine) (I:Inv X π σ H s) (g:DGet H a y o) (ry:RelV y u) (h:∀ s',Inv X π σ H s'->Q (.bool o.isSome) s') :
  wpAny (model X.prog X.w) A (compareOp .In u (.ref a)) Q E s:=by
 rcases g with ⟨kvs,k,e,ey,l⟩ | ⟨kvs,k,b,e,ey,eb,l⟩
 ·subst ey;obtain⟨z,hd,vs,rel,dd⟩:=Im I.hok e;refine wpAny_in_of (Xo ry) hd dd.mapOf ?_;rw[<-(rel.val k).isSome_eq,<-l];exact h _ (I.tok _)
 ·subst ey;cases (show u=Value.ref b from ry);obtain⟨z,hd,xs,rel,dd⟩:=Xp I.hok e;refine wpAny_in_heap (tupleKind_room_in1 hu) (TQ I.hok eb) hd dd ?_;have q:=(rel.val k).isSome_eq;rw[Option.isSome_map] at q;rw[<-q,<-l];exact h _ (I.tok _)
theorem O6 {ob:HO}(I:Inv X π σ H s) (mu:Mut (H a)) (hs:Heap.SameBut a s.heap h') (he:∃ q,h'.get? a=some q) (new:BK X.prog X.w (upd H a ob) h' a ob) :
  Inv X π σ (upd H a ob) { s with heap:=h',toks:=t' }:=
 I.write (x:=a) (e:=a) mu (.inl rfl) (λ b q hb z=>(hs.2 b hb).trans z) he new
theorem nW {kvs:List (Key×V)}{vs:List (Key×Value)}(z:kvs.length<=sizeLine) (hd:(a==sysModules)=false) (rel:KV kvs vs) (dd:h'.DictOf (Aw P w) a vs) :
  BK P w H' h' a (.dK kvs):=⟨z,hd,vs,rel,dd⟩
theorem Zy {Q:Unit->Shared->Prop}(hu:A.units+1<cLine) (I:Inv X π σ H s) (g:DPut H a y v H') (ry:RelV y u) (rv:RelV v r) (h:∀ s',Inv X π σ H' s'->Q () s') :
  wpAny (model X.prog X.w) A (setItem (.ref a) u r) Q E s:=by
 rcases g with ⟨kvs,k,e,ey,l,eH⟩ | ⟨kvs,k,b,e,ey,eb,l,eH⟩
 ·subst ey eH;obtain⟨z,hd,vs,rel,dd⟩:=lA I.hok e;have hz:vs.length<=sizeLine:=by rw[<-rel.length];exact z
  have hl:(putK kvs k v).length<=sizeLine:=by have:=OJ kvs k v;omega
  refine wpAny_setItem_pairs (hsz:=hz) (Xo ry) dd λ h' dd' hs=>h _ ?_;have he:∃ q,h'.get? a=some q:=let ⟨q,_,_,hq,_⟩:=dd';⟨q,hq⟩;exact O6 I (by rw[e];exact True.intro) hs he (nW hl hd (rel.put k rv) dd')
 ·subst ey eH;cases (show u=Value.ref b from ry);obtain⟨z,hd,xs,rel,dd⟩:=qe I.hok e;have hz:xs.length<=sizeLine:=by rw[<-Paired.length rel];exact z
  have hl:(putK kvs k v).length<=sizeLine:=by have:=OJ kvs k v;omega
  refine wpAny_setItem_heap (hsz:=hz) (tupleKind_room_in1 hu) (TQ I.hok eb) dd λ h' dd' hs=>h _ ?_;obtain⟨q,es,ep,hq,h2,h3,h4,_,h5⟩:=dd';refine O6 I (by rw[e];exact True.intro) hs ⟨q,hq⟩ ⟨hl,hd,_,(rel.put k eb rv).keeps λ c ys ec=>?_,q,es,ep,hq,h2,h3,h4,h5⟩;rw[Al (kJ ec e (λ z=>nomatch z))];exact ec
end
section
variable {kvs:List (Key×V)}{k:Key}{A:Around}
theorem qg {Q:zQ}(I:Inv X π σ H s) (e:Rd H a (.dK kvs)) (h:∀ t s',Inv X π σ H s'->Q (.int kvs.length t) s'):wpAny (model X.prog X.w) A (call (.builtin "len") [.ref a]) Q E s:=by
 obtain⟨z,hd,vs,rel,dd⟩:=Im I.hok e;refine call_len_dict hd dd (by rw[<-rel.length];rw[sizeLine_eq] at z;omega) ?_;rw[<-rel.length];exact h _ _ (I.tok _)
end
theorem VR {o:Option V}(I:Inv X π σ H s) (g:DGet H a y o):s.TypeIs (.ref a) "dict":=by
 rcases g with ⟨kvs,k,e,_,_⟩ | ⟨kvs,k,b,e,_,_,_⟩
 ·obtain⟨_,_,vs,_,dd⟩:=Im I.hok e;exact dd.typeIs
 ·obtain⟨_,_,xs,_,dd⟩:=Xp I.hok e;exact dd.typeIs
def qi (td ty tv:TE):TS:=λ D σ H=>tv σ H λ v H1=>td σ H1 λ x H2=>ty σ H2 λ y H3=>∃ a H4,x=.ref a/\DPut H3 a y v H4/\D.nx σ H4
section
variable {o i value:Expr}{tpos:Pos}{td ty tv:TE}
theorem O7 (hu:X.A.units+1<cLine) (ho:PE X o td) (hi:PE X i ty) (hv:PE X value tv) (hs:swapsWith value (some (.Subscript o i pos')) pos.line X.env=pure false) :
  PS X (.Assign [.Subscript o i pos'] value pos) (qi td ty tv):=by
 intro π s σ H D I h;refine wpAny_Assign_Subscript (thn (hv π s σ H _ I h) λ r s1 ⟨v,H1,I1,rv,q1⟩=>thn (ho π s1 σ H1 _ I1 q1) λ u s2 ⟨x,H2,I2,rx,q2⟩=>thn (hi π s2 σ H2 _ I2 q2) λ iv s3 ⟨y,H3,I3,ry,a,H4,ex,g,q3⟩=>?_) hs;subst ex;obtain rfl:u=Value.ref a:=rx;exact Zy hu I3 g ry rv λ s4 I4=>⟨σ,H4,I4,q3⟩
end
theorem bR (h:Heap) (hb:sysModules<h.objs.size):BK P w H (h.push { cls:=.type "dict",data:=.dict #[] }) h.objs.size (.dK []):=
 ⟨z0s _,z0z.mpr (Ne.symm (z0l hb)),[],.nil,Heap.DictOf.new h⟩
theorem bT (h:Heap) (hb:sysModules<h.objs.size):BK P w H (h.push { cls:=.type "dict",data:=.dict #[] }) h.objs.size (.dT []):=
 ⟨z0s _,z0z.mpr (Ne.symm (z0l hb)),[],.nil,_,#[],0,z0i _ rfl,⟨rfl,rfl,rfl⟩,rfl,rfl,List.nodup_nil⟩
def nY:TE:=λ _ H Q=>∀ p,H p=none->Q (.ref p) (upd H p (.dK []))
def nZ:TE:=λ _ H Q=>∀ p,H p=none->Q (.ref p) (upd H p (.dT []))
section
theorem bU:PE X (.Dict [] [] pos) nY:=λ π s σ H Q I h=>
 wpAny_Dict_empty ⟨.ref s.heap.objs.size,_,I.laid (a:=s.heap.objs.size) (o:=.dK []) (t':=s.toks) (λ _ _ q=>z0c _ q) (z01 _) (bR s.heap I.big),rfl,h _ (I.hok.fresh (z01 _))⟩
theorem bV:PE X (.Dict [] [] pos) nZ:=λ π s σ H Q I h=>
 wpAny_Dict_empty ⟨.ref s.heap.objs.size,_,I.laid (a:=s.heap.objs.size) (o:=.dT []) (t':=s.toks) (λ _ _ q=>z0c _ q) (z01 _) (bT s.heap I.big),rfl,h _ (I.hok.fresh (z01 _))⟩
end
section
variable {d:V}{r:Value}{o:Option V}{A:Around}
end
section
variable {o f:Expr}{td ty tx:TE}
end
section
variable {kvs:List (Key×V)}{A:Around}
end
section
variable {A:Around}
end
end L2
namespace Att
open PySem PySem.W PySem.Calls PyProof.Rows
theorem Ox {P:Params}:∀ (ns:List Int) (vs:List Value),WellAll P h vs (ns.map WData.int)->IntsAre vs ns:=by
 intro ns
 induction ns with
 | nil=>
  intro vs w;rw[z11] at w;cases w;exact .nil
 | cons n ns ih=>
  intro vs w;rw[z03] at w;cases w with
  | cons a b=>
   cases a;exact .cons _ _ (ih _ b)
theorem Zz {l:OpenLaw}(hn:l.most=some n) {P:Params}{h:Heap}{args:List WData}{vals:List Value}
  (hpre:l.row.toRowW.claim.pre args=true) (hwl:WellAll P h vals args) :
  ∃ a vs ns,vals=[Value.ref a]/\args=[WData.list (ns.map WData.int)]/\h.get? a=some { cls:=.type "list",data:=.seq vs.toArray }/\IntsAre vs ns/\ns.length<=n:=by
 have hsh:WShape.hasAll [] args [.list .int]=true:=(pre_splitW hpre).1;have hc:l.pre.holds [] { args:=args }=true:=(pre_splitW hpre).2;obtain⟨d,r,rfl,h1,h2⟩:=hasAllW_cons hsh;obtain rfl:=hasAllW_nil h2;obtain⟨xs,rfl,h3⟩:=hasW_list h1;obtain⟨ns,rfl⟩:=items_int h3;have hlen:ns.length<=n:=by
  unfold OpenLaw.pre at hc;have h4:(WTm.not (.lt (.lit (.int (n:Int))) (.len (.arg 0)))).holds [] { args:=[.list (ns.map .int)] }=true:=by
   have h4:=(holds_andW hc).1;rw[hn] at h4;exact h4
  have h5:=condW_of h4 (w_not (w_lt w_lit (w_len_list (w_arg rfl))));rw[z00] at h5;refine Nat.le_of_not_lt λ q=>?_;have q':(n:Int)<((ns.length:Nat):Int):=by omega
  first
   | (rw[z0g q'] at h5;exact absurd h5 (by decide))
   | (simp at h5;omega)
 cases hwl with
 | cons w1 w2=>
  cases w2;cases w1 with
  | list ho hall=>exact⟨_,_,ns,rfl,rfl,ho,Ox ns _ hall,hlen⟩
theorem Z0 (l:OpenLaw) (args:List WData):l.row.toRowW.claim.post args (.bool true) args=true:=
 postW_of (r:=l.row.toRowW) (X:=(true==true))
  (show WShape.has [] (.bool true) .bool=true by first | rfl | decide | simp[WShape.has,WShape.arms,WShape.armsAll])
  (show (WTm.eq .res (.lit (.bool true))).value [] { args:=args,res:=some (.bool true),after:=args }=some (.bool (true==true)) from w_eq_bool (w_res rfl) w_lit) rfl
theorem VV {l:OpenLaw}{q:Program}{XP:(Str->Option Value)->Heap->Prop}{YP:World->Heap->Prop}{d:DefRec}(hn:l.most=some n) (hdf:d.params.defaults=[])
  (call:∀ (w:World) (s₀ s₁:Shared) (mg mb:Str->Option Value) (fa:Addr) (o:Obj) (pm cd doc:Value) (a:Addr) (vs:List Value) (ns:List Int),
   Ground q loose [] XP w s₀ mg mb s₁.heap->YP w s₁.heap ->
   s₁.heap.get? fa=some o->o.data=.func (docDef d.name d.params d.body d.scope pm cd doc)->s₁.heap.CodeRec cd d.name->mg d.name=some (.ref fa) ->
   s₁.heap.get? a=some { cls:=.type "list",data:=.seq vs.toArray }->IntsAre vs ns->ns.length<=n->s₁.gens=#[] ->
   codeAny (model l.prog w) callerA (.call (.ref fa) ⟨[.ref a],[]⟩) (λ r s'=>r=.ok (.ret (.bool true))/\OldK s₁.heap s'.heap/\s'.os=s₁.os/\AllBare s'.gens) s₁) :
  WalkO q loose XP YP l.row.toRowW d [] (λ f vs=>PySem.call f vs):=by
 intro w s₀ s₁ mg mb G Y fa o pm cd doc dV kV ho hd hcd hD hmg hg args vals as hpre hlay hrd hwl hlo;obtain rfl:dV=.none:=Dflts.none hD hdf;obtain rfl:kV=.none:=Dflts.noKw hD;obtain⟨a,vs,ns,rfl,rfl,hobj,hints,hlen⟩:=Zz hn hpre hwl;refine enter_call (codeAny_mono (call w s₀ s₁ mg mb fa o pm cd doc a vs ns G Y ho (fd_plain hd) hcd hmg hobj hints hlen hg) λ r s' hq=>?_);obtain⟨rfl,h2,h3,h4⟩:=hq;exact⟨.inl ⟨.bool true,.bool true,[],rfl,λ _=>rfl,.bool true,Z0 l _,λ _=>⟨List.Pairwise.nil,λ _ hm=>(nomatch hm)⟩⟩,h2,h3,h4⟩
section
variable {A:Around}{K:Frag}
end
end Att
namespace L2
open PySem PySem.Spec PyProof.Rows
theorem M3:∀ {vs:List Value}{ns:List Int},IntsAre vs ns->Vals (ns.map V.int) vs
 | _,_,.nil=>.nil
 | _,_,.cons n t h=>.cons ⟨t,rfl⟩ (M3 h)
def Only (H:Hp):Prop:=∀ b,H b=none∨∃ o xs,H b=some (.frz o (.lst xs))
theorem bW {K:zFr}{mb:Str->Option Value}{k:Nat}{fa:Addr}{x:Str}{sp:Sp}{s₁:Shared}{vs:List Value}{ns:List Int}(KX:K.In s₁.heap) (hns:s₁.heap.Ns mainGlobals mg) (hb:s₁.heap.Ns builtinsNs mb) (hbb:∀ x:Str,x≠"__name__"->mb x=bootBuiltins x) (hlim:s₁.heap.NoLimit) (hg:s₁.gens=#[])
    (ha:s₁.heap.get? a=some { cls:=.type "list",data:=.seq vs.toArray }) (hi:IntsAre vs ns) (hl:ns.length<=sizeLine) (hr:Room k callerA)
    (F:∀ base:Heap,K.In base->base.Ns mainGlobals mg->FnOk P w K mg base CX k fa fd [x] sp) (hbind:∀ (s:Shared) (u:Value),BindsTo s fd ⟨[u],[]⟩ [(x,u)])
    (hsp:∀ H:Hp,Only H->SqL K H a (ns.map V.int)->sp [.ref a] H (λ v _=>v=.bl true) λ _ _ _=>False)
    (hCX:∀ H e s',CX [] H s₁ (λ _ _ _=>False) e s'->False) :
    codeAny (model P w) callerA (.call (.ref fa) ⟨[.ref a],[]⟩) (λ r s'=>r=.ok (.ret (.bool true))/\OldK s₁.heap s'.heap/\s'.os=s₁.os/\AllBare s'.gens) s₁:=by
  have rv:=M3 hi;have lenV:=hi.length;have core:∀ H:Hp,Only H->SqL K H a (ns.map V.int)->HOk P w H s₁.heap->(∀ b,H b≠none->b=a)->(H a≠none->K.lookup a=none) ->
      codeAny (model P w) callerA (.call (.ref fa) ⟨[.ref a],[]⟩) (λ r s'=>r=.ok (.ret (.bool true))/\OldK s₁.heap s'.heap/\s'.os=s₁.os/\AllBare s'.gens) s₁:=by
    intro H hO hS hok hA hK;have base_of:∀ {b:Addr}{o:Obj},s₁.heap.get? b=some o->H b=none->(hidT s₁.heap H).get? b=some o:=λ e n=>aV e n;have noA:∀ {b:Addr}{o:Obj}{es:Array DictEntry}{ep:Nat},s₁.heap.get? b=some o->o.data=.dict es ep->H b=none:=λ {b o es ep} e d=>by
      cases q:H b with
      | none=>rfl
      | some u=>
        have e':b=a:=hA b (by rw[q];simp);subst e';rw[ha] at e;cases e;have d':Data.seq vs.toArray _=Data.dict es ep:=d;cases d'
    have nsK:∀ {b:Addr}{m:Str->Option Value},s₁.heap.Ns b m->(hidT s₁.heap H).Ns b m:=λ {b m} ⟨o,es,ep,e,d,r⟩=>⟨o,es,ep,base_of e (noA e d),d,r⟩;have hKb:K.In (hidT s₁.heap H):=λ b o e=>base_of (KX b o e) (by
      cases q:H b with
      | none=>rfl
      | some u=>
        have e':b=a:=hA b (by rw[q];simp);subst e';rw[hK (by rw[q];simp)] at e;cases e)
    have hM:Mod K mg (hidT s₁.heap H):=⟨hKb,nsK hns,⟨mb,nsK hb,hbb⟩,let ⟨mc,h1,h2⟩:=hlim;⟨mc,nsK h1,h2⟩⟩;have e0:Env0 P w K mg (hidT s₁.heap H) callerA [] s₁ H:=⟨rfl,hM,λ b o e=>gf e,Nat.le_of_eq (Zj _ _),trivial,λ b hb=>absurd (show b∈([]:List Addr) from hb) (by simp),hok,.of_eq hg⟩;refine codeAny_mono ((F _ hKb (nsK hns)).run callerA [] s₁ H ⟨[.ref a],[]⟩ [.ref a] [.ref a] _ _ hr e0 (hbind s₁ (.ref a)) (.cons rfl .nil) (hsp H hO hS)) λ r s' h=>?_;cases r with
    | error e=>exact (hCX H e s' h).elim
    | ok fl=>
      cases fl with
      | next=>exact False.elim h
      | brk=>exact False.elim h
      | cont=>exact False.elim h
      | ret u=>
        obtain⟨v,H',os,bare,un,hok',r',q⟩:=h;have q':v=.bl true:=q;subst q';obtain rfl:u=Value.bool true:=r';refine⟨rfl,OldK.of_keep λ b o e=>?_,os,bare⟩;cases q:H b with
        | none=>exact un.keep b o e q (by intro z;exact absurd (show b∈([]:List Addr) from z) (by simp)) (by simp)
        | some u=>
          rcases hO b with z | ⟨ob,xs,z⟩
          · rw[q] at z;cases z
          · have z2:=un.frzs b ob _ z
            obtain⟨e1,_⟩:=hok b _ z;obtain⟨e2,_⟩:=hok' b _ z2;rw[e] at e1;cases e1;exact e2
  cases hk:K.lookup a with
  | some o=>
    have e:=KX a o hk;rw[ha] at e;cases e;refine core (λ _=>none) (λ _=>.inl rfl) (.inr ⟨_,vs.toArray,_,hk,rfl,rfl,rfl,by rw[z0f,lenV];exact hl,by simpa using rv⟩) (λ b u z=>by have z':(none:Option HO)=some u:=z;cases z') (λ b z=>absurd rfl z) λ z=>absurd rfl z
  | none=>
    refine core (λ b=>if b=a then some (.frz { cls:=.type "list",data:=.seq vs.toArray } (.lst (ns.map V.int))) else none) (λ b=>?_) (.inl (.inr ⟨{ cls:=.type "list",data:=.seq vs.toArray },if_pos rfl⟩)) (λ b u z=>?_) (λ b z=>?_) λ _=>hk
    · by_cases hb:b=a
      · exact .inr ⟨_,_,if_pos hb⟩
      · exact .inl (if_neg hb)
    · by_cases hb:b=a
      · have z':=(if_pos hb).symm.trans z
        cases z';subst hb;exact⟨ha,by rw[z00];exact hl,vs,_,rv,ha⟩
      · have z':=(if_neg hb).symm.trans z
        cases z'
    · by_cases hb:b=a
      · exact hb
      · exact absurd (if_neg hb) z
abbrev KOf {K:zFr}{h:Heap}(_:K.In h):PySem.W.Frag:=K
theorem iR {l:PySem.W.OpenLaw}{k:Nat}{q:Program}{XP:(Str->Option Value)->Heap->Prop}{YP:World->Heap->Prop}{d:DefRec}{K:Params->PySem.W.Frag}{CX:World->CXT}{sp:World->Sp}{x:Str}(hn:l.most=some n) (hn2:n<=sizeLine) (hdf:d.params.defaults=[]) (hr:Room k callerA)
  (hY:∀ (w:World) (h:Heap),YP w h->(K w.params).In h)
  (F:∀ (w:World) (mg:Str->Option Value) (fa:Addr) (h:Heap),(K w.params).In h->h.Ns mainGlobals mg->mg d.name=some (.ref fa) ->
   ∃ fd:FuncData,(∀ (s:Shared) (u:Value),BindsTo s fd ⟨[u],[]⟩ [(x,u)]) ∧
    ∀ base:Heap,(K w.params).In base->base.Ns mainGlobals mg->FnOk l.prog w (K w.params) mg base (CX w) k fa fd [x] (sp w))
  (hsp:∀ (w:World) (H:Hp) (a:Addr) (ns:List Int),ns.length<=n->Only H->SqL (K w.params) H a (ns.map V.int)->sp w [.ref a] H (λ v _=>v=.bl true) λ _ _ _=>False)
  (hCX:∀ (w:World) (H:Hp) (s:Shared) (e:Value) (s':Shared),CX w [] H s (λ _ _ _=>False) e s'->False) :
  PySem.W.WalkO q loose XP YP l.row.toRowW d [] (λ f vs=>PySem.call f vs):=by
 refine Att.VV hn hdf λ w s₀ s₁ mg mb fa o pm cd doc a vs ns G Y ho hd hcd hmg hobj hints hlen hg=>?_;have KX:=hY w _ Y;obtain⟨fd,hb,hF⟩:=F w mg fa _ KX G.T.g hmg;exact bW KX G.T.g G.T.b G.T.builtins G.T.nolimit hg hobj hints (z0t hlen hn2) hr hF hb (λ H hO hS=>hsp w H a ns hlen hO hS) λ H e s'=>hCX w H s₁ e s'
def inClass (s:Stmt) (j:Nat):Stmt:=match s with
 | .ClassDef _ _ _ body _ _ _ _ _ _ _=>body.getD j (.Pass ⟨0,0,0,0⟩)
 | _=>.Pass ⟨0,0,0,0⟩
def DW (s:Stmt):Arguments:=match s with
 | .FunctionDef _ a _ _ _ _ _ _ _ _=>a
 | _=>{ posonlyargs:=[],args:=[],vararg:=none,kwonlyargs:=[],kw_defaults:=[],kwarg:=none,defaults:=[] }
def Bb (s:Stmt):List Stmt:=match s with
 | .FunctionDef _ _ b _ _ _ _ _ _ _=>b
 | _=>[]
def Ab (s:Stmt):Scope:=match s with
 | .FunctionDef _ _ _ _ _ _ sc _ _ _=>sc
 | _=>{ kind:=.function,names:=[],isGenerator:=false,isCoroutine:=false }
abbrev CX0:CXT:=λ _ _ _ _ _ _=>False
abbrev E0:XK:=λ _ _ _=>False
theorem Ry:K7 CX0 X E0:=λ _ _ _ _ _ _ _ h=>h.elim
structure Fun (K:zFr) (x qual:Str) (st:Stmt) (f:Addr) (fd:FuncData):Prop where
 ex:∃ (oc:Value) (od:Option Addr) (kV doc pm:Value) (an:Option Addr) (cdv ct:Value) (osl:Array (Option Value)),
  fd=PySem.W.fnOf x qual (DW st) (Bb st) (Ab st) .none kV doc pm an cdv ct/\K.lookup f=some ⟨oc,od,.func fd,osl⟩/\PySem.W.codeIn K cdv qual=true
 kp:PySem.W.keepIn K (.ref f)=true
section
variable {K:zFr}{base:Heap}
theorem Fun.ok {x:Str}{k:Nat}{sp:Sp}(F:Fun K x qual st f fd) (S:FnScope N ps (Ab st)) (len:∀ vs H Q E,sp vs H Q E->vs.length=ps.length)
  (hbody:∀ (cdv:Value) (A:Around) (outer:List Env) (s:Shared) (H:Hp) (vs:List V) (Q:VK) (E:XK),Room k (A.deeper (envOfC qual (Ab st) s.heap.objs.size f cdv))->sp vs H Q E ->
   ∃ t,PSs (cxOf CX0 P w K mg base N qual (Ab st) f cdv A outer s H E).nox (Bb st) t/\t { nx:=λ _ H'=>Q .non H',rt:=Q } (start N vs) H):FnOk P w K mg base CX0 (k+1) f fd ps sp:=by
 obtain⟨oc,od,kV,doc,pm,an,cdv,ct,osl,rfl,lk,hcd⟩:=F.ex;refine bG lk hcd S len λ A outer s H vs Q E hr hsp=>?_;obtain⟨t,h,q⟩:=hbody cdv A outer s H vs Q E hr hsp;exact⟨t,h.nox,q⟩
theorem Fun.binds {x:Str}(F:Fun K x qual st f fd)
  (h:∀ (kV doc pm:Value) (an:Option Addr) (cdv ct:Value) (us:List Value),us.length=ps.length->bindArgs (PySem.W.fnOf x qual (DW st) (Bb st) (Ab st) .none kV doc pm an cdv ct) ⟨us,[]⟩=pure (ps.zip us)):Binds K fd ps []:=by
 obtain⟨oc,od,kV,doc,pm,an,cdv,ct,osl,rfl,lk,hcd⟩:=F.ex;exact .all (h kV doc pm an cdv ct)
theorem Qa {x:Str}{kV:Value}(l:K.lookup f=some ⟨oc,od,.func (PySem.W.fnOf x qual (DW st) (Bb st) (Ab st) .none kV doc pm an cdv ct),osl⟩)
  (c:PySem.W.codeIn K cdv qual=true) (k:PySem.W.keepIn K (.ref f)=true):Fun K x qual st f (PySem.W.fnOf x qual (DW st) (Bb st) (Ab st) .none kV doc pm an cdv ct):=⟨⟨oc,od,kV,doc,pm,an,cdv,ct,osl,rfl,l,c⟩,k⟩
end
theorem GX {A:Around}{k:Nat}(hr:Room k A):A.units+1<cLine:=z1o (Nat.add_le_add_left (by decide:1<=64) _) hr.units
section
theorem pv (i:Nat) {x:Str}{pos:Pos}(hN:X.N[i]?=some x:=by rfl) (hv:Vis X.env.scope x:=by first | exact Or.inl rfl | exact Or.inr (Or.inl rfl) | exact Or.inr (Or.inr rfl)) (hd:(x==("__debug__":Str))=false:=by decide)
  (hcd:(x==("__classdict__":Str))=false:=by decide):PE X (.Name x pos) (tVar i):=mj hN hv hd hcd
end
theorem iteF {A B:Prop}(h:B):if false=true then A else B:=by
 rw[if_neg z0r];exact h
theorem iteT {A B:Prop}(h:A):if true=true then A else B:=by
 rw[if_pos rfl];exact h
def Same (H H':Hp):Prop:=∀ b o,H b=some o->H' b=some o
theorem Same.refl (H:Hp):Same H H:=λ _ _ h=>h
theorem Same.trans {H2:Hp}(a:Same H H1) (b:Same H1 H2):Same H H2:=λ c o h=>b c o (a c o h)
theorem Same.free (e:Same H H') {l:Addr}(h:H' l=Option.none):H l=Option.none:=by
 cases q:H l with
 | none=>rfl
 | some o=>
  rw[e l o q] at h;cases h
theorem Same.seq {K:zFr}(e:Same H H') (h:SqL K H a xs):SqL K H' a xs:=by
 rcases h with (h | ⟨o,h⟩) | h
 ·exact .inl (.inl (e _ _ h))
 ·exact .inl (.inr ⟨o,e _ _ h⟩)
 ·exact .inr h
section
variable {κ:Type} [DecidableEq κ]
end
end L2
namespace EX
open PySem PySem.Spec L2
open PyProof.Rows hiding St
def tbV:Option Addr->Value
 | none=>.none
 | some T=>.ref T
def ExcP (a C:Addr) (od tb:Option Addr):Heap->Prop:=λ h=>∃ o vs,h.get? a=some o/\o.cls=.ref C/\o.dict=od/\o.data=.fields vs/\vs.size=6/\vs[1]?=some (tbV tb)
def TbP (T:Addr) (v:Value):Heap->Prop:=λ h=>∃ o ts,h.get? T=some o/\o.data=.fields ts/\ts[3]?=some v/\o.cls=.type "traceback"
abbrev excO (a C:Addr) (od tb:Option Addr):HO:=.ext (ExcP a C od tb)
abbrev tbO (T:Addr) (v:Value):HO:=.ext (TbP T v)
theorem ExcP.ok (x:ExcP a C od tb h):BK P w H h a (excO a C od tb):=
 ⟨x,let ⟨o,_,e,_⟩:=x;⟨o,e⟩,λ h1 h2 ⟨o,vs,e,r⟩ k=>⟨o,vs,k o e,r⟩⟩
theorem TbP.ok {v:Value}(x:TbP a v h):BK P w H h a (tbO a v):=
 ⟨x,let ⟨o,_,e,_⟩:=x;⟨o,e⟩,λ h1 h2 ⟨o,vs,e,r⟩ k=>⟨o,vs,k o e,r⟩⟩
section
variable {e:Addr}
end
end EX
namespace PV
open PySem L2
inductive D where
 | non | bl (b:Bool) | int (i:Int) | str (x:Str) | tup (ds:List D) | lst (ds:List D)
 | dk (kvs:List (Key×D)) | dt (kvs:List (List Key×D)) | ob (c:Str) (fs:List (Str×D)) | adr (a:Addr) | exc (c:Str) (fs:List (Str×D)) | err (c:Str) (fs:List (Str×D))
inductive Slot where
 | un | fz (d:D) | ow (d:D)
abbrev Rho:=List Slot
abbrev FE:=Rho->Option D
abbrev FA:=Rho->Option (List D)
abbrev FT:=Rho->Option Bool
abbrev FO:=Rho->Option (Option Int)
abbrev FI:=Rho->Option (List D)
def vF (i:Nat):FE:=λ ρ=>match ρ[i]? with | some (.fz d)=>some d | _=>none
def vU (i:Nat):FE:=λ ρ=>match ρ[i]? with | some (.fz d)=>some d | some (.ow d)=>some d | _=>none
def kF (d:D):FE:=λ _=>some d
def bF (g:D->D->Option D) (fa fb:FE):FE:=λ ρ=>(fa ρ).bind λ x=>(fb ρ).bind λ y=>g x y
def uF (g:D->Option D) (fa:FE):FE:=λ ρ=>(fa ρ).bind g
def blF (f:FE):FT:=λ ρ=>match f ρ with | some (.bl b)=>some b | _=>none
def iiD (g:Int->Int->Option D):D->D->Option D:=λ x y=>match x,y with | .int i,.int j=>g i j | _,_=>none
instance (i j:Int):Decidable (CMul i j):=by unfold CMul;infer_instance
instance (i j:Int):Decidable (CDiv i j):=by unfold CDiv;infer_instance
instance (i j:Int):Decidable (CPow i j):=by unfold CPow;infer_instance
def subD:=iiD λ i j=>some (.int (i-j))
def Lk (i j:Int):Prop:=CMul i j∨(Builtin.Int.intBits i<=4194304/\Builtin.Int.intBits j<=4194304)
instance (i j:Int):Decidable (Lk i j):=by unfold Lk;infer_instance
def CShl (i j:Int):Prop:=0<=j/\j<=1000000/\Builtin.Int.intBits i<=4194304
instance (i j:Int):Decidable (CShl i j):=by unfold CShl;infer_instance
def mulD:=iiD λ i j=>if Lk i j then some (.int (i*j)) else none
def DX:=iiD λ i j=>if CDiv i j then some (.int (i/j)) else none
def modD:=iiD λ i j=>if 0<j then some (.int (i%j)) else none
def shlD:=iiD λ i j=>if CShl i j then some (.int (i*2^j.toNat)) else none
def ltD:=iiD λ i j=>some (.bl (decide (i<j)))
def leD:=iiD λ i j=>some (.bl (decide (i<=j)))
def gtD:=iiD λ i j=>some (.bl (decide (j<i)))
def geD:=iiD λ i j=>some (.bl (decide (j<=i)))
def addD:D->D->Option D:=λ x y=>match x,y with
 | .int i,.int j=>some (.int (i+j))
 | .str i,.str j=>if i.length+j.length<=sizeLine then some (.str (i++j)) else none
 | .lst i,.lst j=>if i.length+j.length<=sizeLine then some (.lst (i++j)) else none
 | _,_=>none
def andF (fa fb:FE):FE:=λ ρ=>match fa ρ with | some (.bl true)=>fb ρ | some (.bl false)=>some (.bl false) | _=>none
def orF (fa fb:FE):FE:=λ ρ=>match fa ρ with | some (.bl true)=>some (.bl true) | some (.bl false)=>fb ρ | _=>none
def notF (fa:FE):FE:=λ ρ=>match fa ρ with | some (.bl b)=>some (.bl (!b)) | _=>none
def andT (fa fb:FT):FT:=λ ρ=>match fa ρ with | some true=>fb ρ | some false=>some false | none=>none
def orT (fa fb:FT):FT:=λ ρ=>match fa ρ with | some true=>some true | some false=>fb ρ | none=>none
def notT (fa:FT):FT:=λ ρ=>(fa ρ).map (!·)
def truD:D->Option Bool
 | .non=>some false
 | .bl b=>some b
 | .int i=>some (i != 0)
 | .str y=>if y.length<=sizeLine then some ((y.length:Int) != 0) else none
 | .lst ds=>some (!ds.isEmpty)
 | .tup ds=>some (!ds.isEmpty)
 | _=>none
def trF (f:FE):FT:=λ ρ=>(f ρ).bind truD
def ifF (t:FT) (fa fb:FE):FE:=λ ρ=>match t ρ with | some true=>fa ρ | some false=>fb ρ | none=>none
def nilA:FA:=λ _=>some []
def Aa (fa:FE) (fs:FA):FA:=λ ρ=>(fa ρ).bind λ d=>(fs ρ).map (d::·)
def tupF (fs:FA):FE:=λ ρ=>(fs ρ).bind λ ds=>if ds.length<=sizeLine then some (.tup ds) else none
def lstF (fs:FA):FE:=λ ρ=>(fs ρ).bind λ ds=>if ds.length<=sizeLine then some (.lst ds) else none
def ixD:D->D->Option D:=λ x y=>match x,y with
 | .lst ds,.int i=>atI ds i
 | .tup ds,.int i=>atI ds i
 | .str z,.int i=>if z.length<=sizeLine then (atI z.cps.toList i).map λ c=>.str ⟨#[c]⟩ else none
 | _,_=>none
def noO:FO:=λ _=>some none
def someO (f:FE):FO:=λ ρ=>match f ρ with | some (.int i)=>some (some i) | _=>none
def cutD {α:Type}(ds:List α) (lo hi:Option Int):List α:=(ds.drop (HT.sIx ds.length 0 lo)).take (HT.sIx ds.length ds.length hi-HT.sIx ds.length 0 lo)
def cutS (z:Str) (lo hi:Option Int):Str:=⟨(cutD z.cps.toList lo hi).toArray⟩
def slD (x:D) (lo hi:Option Int):Option D:=match x with
 | .lst ds=>some (.lst (cutD ds lo hi))
 | .tup ds=>if HT.sIx ds.length 0 lo=0/\HT.sIx ds.length ds.length hi=ds.length then none else some (.tup (cutD ds lo hi))
 | .str z=>if z.length<=sizeLine then some (.str (cutS z lo hi)) else none
 | _=>none
def slF (f:FE) (l h:FO):FE:=λ ρ=>(f ρ).bind λ x=>(l ρ).bind λ lo=>(h ρ).bind λ hi=>slD x lo hi
def flV:D->Option V
 | .non=>some .non
 | .bl b=>some (.bl b)
 | .int i=>some (.int i)
 | .str x=>some (.str x)
 | _=>none
def flVs:List D->Option (List V)
 | []=>some []
 | d::r=>(flV d).bind λ v=>(flVs r).map (v::·)
def inD (neg:Bool):D->D->Option D:=λ x y=>match x,y with
 | .str i,.str j=>some (.bl (if neg then !(!(Builtin.Str.occurrences j i 0 j.length 1).isEmpty) else !(Builtin.Str.occurrences j i 0 j.length 1).isEmpty))
 | x,.lst ds=>(flV x).bind λ v=>(flVs ds).map λ vs=>.bl (if neg then !inV v vs else inV v vs)
 | x,.tup ds=>(flV x).bind λ v=>(flVs ds).map λ vs=>.bl (if neg then !inV v vs else inV v vs)
 | _,_=>none
def allO (f:D->D->Option Bool):List D->List D->Option Bool
 | [],[]=>some true
 | x::xs,y::ys=>match f x y,allO f xs ys with | some a,some b=>some (a&&b) | _,_=>none
 | _,_=>none
def flD (x y:D):Option Bool:=(flV x).bind λ u=>(flV y).map λ v=>eqV u v
def eqS (f:D->D->Option Bool):D->D->Option Bool
 | .lst xs,.lst ys=>if xs.length=ys.length then allO f xs ys else some false
 | .tup xs,.tup ys=>if xs.length=ys.length then allO f xs ys else none
 | x,y=>flD x y
def eqK:Nat->D->D->Option Bool
 | 0=>flD
 | n+1=>eqS (eqK n)
def eqvD (x y:D):Option Bool:=match x,y with
 | .int i,.int j=>some (decide (i=j))
 | .str i,.str j=>some (decide (i=j))
 | .bl i,.bl j=>some (decide (i=j))
 | .lst xs,.lst ys=>if xs.length=ys.length then allO (eqK 180) xs ys else some false
 | .tup xs,.tup ys=>if xs.length=ys.length then allO (eqK 180) xs ys else none
 | _,_=>none
def eqD (neg:Bool) (x y:D):Option D:=(eqvD x y).map λ b=>.bl (if neg then !b else b)
def lenD:D->Option D
 | .str y=>if y.length<=sizeLine then some (.int y.length) else none
 | .lst ds=>some (.int ds.length)
 | .tup ds=>some (.int ds.length)
 | _=>none
def bY:D->Option D
 | .lst ds=>some (.lst ds)
 | .tup ds=>some (.lst ds)
 | _=>none
def intD:D->Option D
 | .int i=>some (.int i)
 | .bl k=>some (.int (if k then 1 else 0))
 | _=>none
def negD:D->Option D
 | .int i=>some (.int (-i))
 | _=>none
def seqI (f:FE):FI:=λ ρ=>match f ρ with | some (.lst ds)=>some ds | some (.tup ds)=>some ds | _=>none
def rngD (n:Nat):List D:=(List.range n).map λ (i:Nat)=>.int i
def rngI (f:FE):FI:=λ ρ=>match f ρ with | some (.int j)=>if -(2^62)<=j/\j<2^62 then some (rngD j.toNat) else none | _=>none
inductive Out where
 | nx (ρ:Rho) | rt (d:D) (ρ:Rho) | bk (ρ:Rho) | ct (ρ:Rho)
abbrev FS:=Rho->Option Out
def nxF:FS:=λ ρ=>some (.nx ρ)
def seqF (g gs:FS):FS:=λ ρ=>match g ρ with | some (.nx ρ')=>gs ρ' | o=>o
def ifS (t:FT) (g gs:FS):FS:=λ ρ=>match t ρ with | some true=>g ρ | some false=>gs ρ | none=>none
def setF (i:Nat) (f:FE):FS:=λ ρ=>(f ρ).map λ d=>.nx (ρ.set i (.fz d))
def retF (f:FE):FS:=λ ρ=>(f ρ).map λ d=>.rt d ρ
def retN:FS:=λ ρ=>some (.rt .non ρ)
def Ff (f:FE):FS:=λ ρ=>(f ρ).map λ _=>.nx ρ
def badF:FS:=λ _=>none
def forF (b:D->FS):List D->FS
 | [],ρ=>some (.nx ρ)
 | d::r,ρ=>match b d ρ with
  | some (.nx ρ')=>forF b r ρ'
  | some (.ct ρ')=>forF b r ρ'
  | some (.bk ρ')=>some (.nx ρ')
  | some (.rt e ρ')=>some (.rt e ρ')
  | none=>none
abbrev FG:=D->Rho->Option Rho
def Ay (i:Nat):FG:=λ d ρ=>some (ρ.set i (.fz d))
def tgB (tg:FG) (b:FS):D->FS:=λ d ρ=>(tg d ρ).bind b
def forS (src:FI) (tg:FG) (b:FS):FS:=λ ρ=>(src ρ).bind λ ds=>forF (tgB tg b) ds ρ
def Fj (c:FT) (b:FS):Nat->FS
 | 0,_=>none
 | n+1,ρ=>match c ρ with
  | some false=>some (.nx ρ)
  | some true=>(match b ρ with
   | some (.nx ρ')=>Fj c b n ρ'
   | some (.ct ρ')=>Fj c b n ρ'
   | some (.bk ρ')=>some (.nx ρ')
   | some (.rt e ρ')=>some (.rt e ρ')
   | none=>none)
  | none=>none
def An (g:List D->Option D) (fs:FA):FE:=λ ρ=>(fs ρ).bind g
def CN (n:Nat) (ds:List D):Rho:=ds.map .fz++List.replicate (n-ds.length) .un
def runF (n np:Nat) (b:FS) (ds:List D):Option D:=if ds.length=np then (match b (CN n ds) with | some (.rt d _)=>some d | some (.nx _)=>some .non | _=>none) else none
def Io (ρ:Rho) (ga:FT) (fe:FE):List D->Option (List D)
 | []=>some []
 | d::r=>match ga (ρ++[.fz d]) with
  | some true=>(fe (ρ++[.fz d])).bind λ y=>(Io ρ ga fe r).map (y::·)
  | some false=>Io ρ ga fe r
  | none=>none
def CK (src:FI) (ga:FT) (fe:FE):FE:=λ ρ=>(src ρ).bind λ ds=>if ds.length<=sizeLine then (Io ρ ga fe ds).map .lst else none
def allT:FT:=λ _=>some true
def Ks:List D->Option (List Str)
 | []=>some []
 | .str i::r=>(Ks r).map (i::·)
 | _::_=>none
def tyD:D->Option String
 | .non=>some "NoneType"
 | .bl _=>some "bool"
 | .int _=>some "int"
 | .str _=>some "str"
 | .lst _=>some "list"
 | .tup _=>some "tuple"
 | _=>none
def isiD (T:String) (x:D):Option D:=(tyD x).map λ n=>.bl (n==T||(n=="bool"&&T=="int"))
def ltS (a b:Str):Bool:=decide (a.cps.toList<b.cps.toList)
def insS (x:Str):List Str->List Str
 | []=>[x]
 | y::r=>if ltS x y then x::y::r else if x=y then y::r else y::insS x r
def Bo (xs:List Str):List Str:=xs.foldr insS []
def setW (i:Nat) (f:FE):FS:=λ ρ=>(f ρ).map λ d=>.nx (ρ.set i (.ow d))
def ownO (ρ:Rho) (i:Nat):Option D:=match ρ[i]? with | some (.ow d)=>some d | _=>none
def appL (x v:D):Option D:=match x with | .lst ds=>if ds.length<sizeLine then some (.lst (ds++[v])) else none | _=>none
def mutF (g:D->D->Option D) (i:Nat) (f:FE):FS:=λ ρ=>(f ρ).bind λ v=>(ownO ρ i).bind λ x=>(g x v).map λ y=>.nx (ρ.set i (.ow y))
def frz1 (ρ:Rho) (i:Nat):Rho:=match ρ[i]? with | some (.ow d)=>ρ.set i (.fz d) | _=>ρ
def fzS (is:List Nat) (g:FS):FS:=λ ρ=>g (is.foldl frz1 ρ)
theorem bZ {α:Type}{xs:List α}{i:Int}(h0:0<=i) (h1:i<xs.length):atI xs i=xs[i.toNat]?:=by
 unfold atI ixN;rw[if_pos h0,if_pos h1];rfl
theorem Ej (i j:Int) (h:0<j):modD (.int i) (.int j)=some (.int (i%j)):=by
 show (if 0<j then some (D.int (i%j)) else none)=_;rw[if_pos h]
theorem Fv (i j:Int) (h:0<j) (h2:j<1073741824):DX (.int i) (.int j)=some (.int (i/j)):=by
 show (if CDiv i j then some (D.int (i/j)) else none)=_;rw[if_pos ⟨h,h2⟩]
theorem Ln (i j:Int) (h : -(2^64)<j/\j<2^64):mulD (.int i) (.int j)=some (.int (i*j)):=by
 show (if Lk i j then some (D.int (i*j)) else none)=_;rw[if_pos (.inl (.inr h))]
theorem iT (i j:Int) (h : -(2^64)<i/\i<2^64):mulD (.int i) (.int j)=some (.int (i*j)):=by
 show (if Lk i j then some (D.int (i*j)) else none)=_;rw[if_pos (.inl (.inl h))]
theorem Wu (i j:Int):addD (.int i) (.int j)=some (.int (i+j)):=zE_ _
theorem Wv (i j:Int):subD (.int i) (.int j)=some (.int (i-j)):=zE_ _
theorem Va (i j:Int):ltD (.int i) (.int j)=some (.bl (decide (i<j))):=zE_ _
theorem Xq (i j:Int):gtD (.int i) (.int j)=some (.bl (decide (j<i))):=zE_ _
theorem bc (i j:Int):leD (.int i) (.int j)=some (.bl (decide (i<=j))):=zE_ _
theorem bf (i j:Int):geD (.int i) (.int j)=some (.bl (decide (j<=i))):=zE_ _
theorem R1 (i j:Int):eqD false (.int i) (.int j)=some (.bl (decide (i=j))):=zE_ _
theorem R3 (i j:Int):eqD true (.int i) (.int j)=some (.bl (!decide (i=j))):=zE_ _
theorem bh (i:Int):negD (.int i)=some (.int (-i)):=zE_ _
theorem Hk (h:n<=10000000):n<=sizeLine:=z0t h (by decide)
theorem ni {i j:List D}(h:i.length+j.length<=10000000):addD (.lst i) (.lst j)=some (.lst (i++j)):=by
 show (if _ then _ else _)=_;rw[if_pos (Hk h)]
theorem bu {i j:Str}(h:i.length+j.length<=10000000):addD (.str i) (.str j)=some (.str (i++j)):=by
 show (if _ then _ else _)=_;rw[if_pos (Hk h)]
theorem Jz {b:D->FS}{P:Nat->Rho->Prop}:∀ {ds:List D}{ρ:Rho}(k:Nat),P k ρ->(∀ (i:Nat) d ρ,ds[i]?=some d->P (k+i) ρ->∃ ρ',b d ρ=some (.nx ρ')/\P (k+i+1) ρ')->∃ ρ',forF b ds ρ=some (.nx ρ')/\P (k+ds.length) ρ'
 | [],ρ,k,h0,_=>⟨ρ,rfl,by simpa using h0⟩
 | d::r,ρ,k,h0,hs=>by
  obtain⟨ρ1,e1,p1⟩:=hs 0 d ρ rfl (by simpa using h0);obtain⟨ρ2,e2,p2⟩:=Jz (ds:=r) (ρ:=ρ1) (k+1) (by simpa using p1) λ i d' ρ' hd hp=>by
   have:=hs (i+1) d' ρ' (by simpa using hd) (by rw[show k+(i+1)=k+1+i by omega];exact hp);rw[show k+(i+1)+1=k+1+i+1 by omega] at this;exact this
  refine⟨ρ2,?_,by rw[z0B,show k+(r.length+1)=k+1+r.length by omega];exact p2⟩;unfold forF;rw[e1];exact e2
theorem O8 {src:FI}{ga:FT}{fe:FE}{ρ:Rho}{ds out:List D}(h:src ρ=some ds) (hz:ds.length<=10000000) (hc:Io ρ ga fe ds=some out):CK src ga fe ρ=some (.lst out):=by
 unfold CK;rw[h];show (if ds.length<=sizeLine then (Io ρ ga fe ds).map D.lst else none)=_;rw[if_pos (Hk hz),hc];rfl
def Vb (o:Option Out) (gs:FS):Option Out:=match o with | some (.nx ρ')=>gs ρ' | o=>o
theorem Vc (g gs:FS) (ρ:Rho):seqF g gs ρ=Vb (g ρ) gs:=zE_ _
theorem e_nx (gs:FS) (ρ:Rho):Vb (some (.nx ρ)) gs=gs ρ:=zE_ _
theorem e_rt (gs:FS) (d:D) (ρ:Rho):Vb (some (.rt d ρ)) gs=some (.rt d ρ):=zE_ _
theorem e_bk (gs:FS) (d:Rho):Vb (some (.bk d)) gs=some (.bk d):=zE_ _
theorem e_ct (gs:FS) (d:Rho):Vb (some (.ct d)) gs=some (.ct d):=zE_ _
theorem Xr (ρ:Rho):nxF ρ=some (.nx ρ):=zE_ _
def iteO (o:Option Bool) (g gs:FS) (ρ:Rho):Option Out:=match o with | some true=>g ρ | some false=>gs ρ | none=>none
theorem e_if (t:FT) (g gs:FS) (ρ:Rho):ifS t g gs ρ=iteO (t ρ) g gs ρ:=zE_ _
theorem Xu (g gs:FS) (ρ:Rho):iteO (some true) g gs ρ=g ρ:=zE_ _
theorem Xv (g gs:FS) (ρ:Rho):iteO (some false) g gs ρ=gs ρ:=zE_ _
def setO (i:Nat) (ρ:Rho) (o:Option D):Option Out:=o.map λ d=>.nx (ρ.set i (.fz d))
theorem R4 (i:Nat) (f:FE) (ρ:Rho):setF i f ρ=setO i ρ (f ρ):=zE_ _
theorem M4 (i:Nat) (ρ:Rho) (d:D):setO i ρ (some d)=some (.nx (ρ.set i (.fz d))):=zE_ _
def retO (ρ:Rho) (o:Option D):Option Out:=o.map λ d=>.rt d ρ
theorem Xw (f:FE) (ρ:Rho):retF f ρ=retO ρ (f ρ):=zE_ _
theorem TV (d:D) (ρ:Rho):retO ρ (some d)=some (.rt d ρ):=zE_ _
theorem TX (ρ:Rho):retN ρ=some (.rt .non ρ):=zE_ _
def lB (ρ:Rho) (o:Option D):Option Out:=o.map λ _=>.nx ρ
theorem TY (f:FE) (ρ:Rho):Ff f ρ=lB ρ (f ρ):=zE_ _
theorem O9 (ρ:Rho) (d:D):lB ρ (some d)=some (.nx ρ):=zE_ _
def b2 (g:D->D->Option D) (x y:Option D):Option D:=x.bind λ x=>y.bind λ y=>g x y
theorem e_b (g:D->D->Option D) (fa fb:FE) (ρ:Rho):bF g fa fb ρ=b2 g (fa ρ) (fb ρ):=zE_ _
theorem e_bs (g:D->D->Option D) (x y:D):b2 g (some x) (some y)=g x y:=zE_ _
def b1 (g:D->Option D) (x:Option D):Option D:=x.bind g
theorem e_u (g:D->Option D) (fa:FE) (ρ:Rho):uF g fa ρ=b1 g (fa ρ):=zE_ _
theorem e_us (g:D->Option D) (x:D):b1 g (some x)=g x:=zE_ _
def cl1 (g:List D->Option D) (x:Option (List D)):Option D:=x.bind g
theorem Tc (g:List D->Option D) (fs:FA) (ρ:Rho):An g fs ρ=cl1 g (fs ρ):=zE_ _
theorem O_ (g:List D->Option D) (ds:List D):cl1 g (some ds)=g ds:=zE_ _
def lC (x:Option D) (y:Option (List D)):Option (List D):=x.bind λ d=>y.map (d::·)
theorem Td (fa:FE) (fs:FA) (ρ:Rho):Aa fa fs ρ=lC (fa ρ) (fs ρ):=zE_ _
theorem PB (d:D) (ds:List D):lC (some d) (some ds)=some (d::ds):=zE_ _
theorem Xy (ρ:Rho):nilA ρ=some []:=zE_ _
def tupO (o:Option (List D)):Option D:=o.bind λ ds=>if ds.length<=sizeLine then some (.tup ds) else none
def lstO (o:Option (List D)):Option D:=o.bind λ ds=>if ds.length<=sizeLine then some (.lst ds) else none
theorem Xz (fs:FA) (ρ:Rho):tupF fs ρ=tupO (fs ρ):=zE_ _
theorem X3 (fs:FA) (ρ:Rho):lstF fs ρ=lstO (fs ρ):=zE_ _
theorem Te:tupO (some [])=some (.tup []):=zE_ _
theorem Tf (a:D):tupO (some [a])=some (.tup [a]):=zE_ _
theorem Tg (a b:D):tupO (some [a,b])=some (.tup [a,b]):=zE_ _
theorem Th (a b c:D):tupO (some [a,b,c])=some (.tup [a,b,c]):=zE_ _
theorem Ti (a b c d:D):tupO (some [a,b,c,d])=some (.tup [a,b,c,d]):=zE_ _
theorem Tj (a b c d e:D):tupO (some [a,b,c,d,e])=some (.tup [a,b,c,d,e]):=zE_ _
theorem Tn:lstO (some [])=some (.lst []):=zE_ _
theorem Tp (a:D):lstO (some [a])=some (.lst [a]):=zE_ _
theorem Tq (a b:D):lstO (some [a,b])=some (.lst [a,b]):=zE_ _
theorem Tr (a b c:D):lstO (some [a,b,c])=some (.lst [a,b,c]):=zE_ _
theorem Tt (a b c d:D):lstO (some [a,b,c,d])=some (.lst [a,b,c,d]):=zE_ _
theorem Tu (a b c d e:D):lstO (some [a,b,c,d,e])=some (.lst [a,b,c,d,e]):=zE_ _
theorem Tv (a b c d e f:D):lstO (some [a,b,c,d,e,f])=some (.lst [a,b,c,d,e,f]):=zE_ _
def blO (o:Option D):Option Bool:=match o with | some (.bl b)=>some b | _=>none
theorem e_bl (f:FE) (ρ:Rho):blF f ρ=blO (f ρ):=zE_ _
theorem X4 (b:Bool):blO (some (.bl b))=some b:=zE_ _
def andO (o:Option Bool) (fb:FT) (ρ:Rho):Option Bool:=match o with | some true=>fb ρ | some false=>some false | none=>none
def orO (o:Option Bool) (fb:FT) (ρ:Rho):Option Bool:=match o with | some true=>some true | some false=>fb ρ | none=>none
theorem Tw (a b:FT) (ρ:Rho):andT a b ρ=andO (a ρ) b ρ:=zE_ _
theorem PJ (b:FT) (ρ:Rho):andO (some true) b ρ=b ρ:=zE_ _
theorem PK (b:FT) (ρ:Rho):andO (some false) b ρ=some false:=zE_ _
theorem X5 (a b:FT) (ρ:Rho):orT a b ρ=orO (a ρ) b ρ:=zE_ _
theorem Tz (b:FT) (ρ:Rho):orO (some true) b ρ=some true:=zE_ _
theorem Qc (b:FT) (ρ:Rho):orO (some false) b ρ=b ρ:=zE_ _
theorem T3 (a:FT) (ρ:Rho):notT a ρ=(a ρ).map (!·):=zE_ _
def andP (o:Option D) (fb:FE) (ρ:Rho):Option D:=match o with | some (.bl true)=>fb ρ | some (.bl false)=>some (.bl false) | _=>none
def orP (o:Option D) (fb:FE) (ρ:Rho):Option D:=match o with | some (.bl true)=>some (.bl true) | some (.bl false)=>fb ρ | _=>none
def notP (o:Option D):Option D:=match o with | some (.bl b)=>some (.bl (!b)) | _=>none
theorem T4 (a b:FE) (ρ:Rho):andF a b ρ=andP (a ρ) b ρ:=zE_ _
theorem PL (b:FE) (ρ:Rho):andP (some (.bl true)) b ρ=b ρ:=zE_ _
theorem PQ (b:FE) (ρ:Rho):andP (some (.bl false)) b ρ=some (.bl false):=zE_ _
theorem X6 (a b:FE) (ρ:Rho):orF a b ρ=orP (a ρ) b ρ:=zE_ _
theorem T5 (b:FE) (ρ:Rho):orP (some (.bl true)) b ρ=some (.bl true):=zE_ _
theorem T6 (b:FE) (ρ:Rho):orP (some (.bl false)) b ρ=b ρ:=zE_ _
theorem T7 (a:FE) (ρ:Rho):notF a ρ=notP (a ρ):=zE_ _
theorem Pa (b:Bool):notP (some (.bl b))=some (.bl (!b)):=zE_ _
def ifP (o:Option Bool) (fa fb:FE) (ρ:Rho):Option D:=match o with | some true=>fa ρ | some false=>fb ρ | none=>none
theorem X7 (t:FT) (a b:FE) (ρ:Rho):ifF t a b ρ=ifP (t ρ) a b ρ:=zE_ _
theorem T8 (a b:FE) (ρ:Rho):ifP (some true) a b ρ=a ρ:=zE_ _
theorem T9 (a b:FE) (ρ:Rho):ifP (some false) a b ρ=b ρ:=zE_ _
def sl3 (f:Option D) (l h:Option (Option Int)):Option D:=f.bind λ x=>l.bind λ lo=>h.bind λ hi=>slD x lo hi
theorem e_sl (f:FE) (l h:FO) (ρ:Rho):slF f l h ρ=sl3 (f ρ) (l ρ) (h ρ):=zE_ _
theorem X8 (x:D) (l h:Option Int):sl3 (some x) (some l) (some h)=slD x l h:=zE_ _
theorem X_ (ρ:Rho):noO ρ=some none:=zE_ _
def somO (o:Option D):Option (Option Int):=match o with | some (.int i)=>some (some i) | _=>none
theorem Pb (f:FE) (ρ:Rho):someO f ρ=somO (f ρ):=zE_ _
theorem Lp (i:Int):somO (some (.int i))=some (some i):=zE_ _
def getO (o:Option Slot):Option D:=match o with | some (.fz d)=>some d | _=>none
def getU (o:Option Slot):Option D:=match o with | some (.fz d)=>some d | some (.ow d)=>some d | _=>none
theorem e_v (i:Nat) (ρ:Rho):vF i ρ=getO (ρ[i]?):=zE_ _
theorem e_vs (d:D):getO (some (.fz d))=some d:=zE_ _
theorem e_vU (i:Nat) (ρ:Rho):vU i ρ=getU (ρ[i]?):=zE_ _
theorem YB (d:D):getU (some (.fz d))=some d:=zE_ _
theorem YC (d:D):getU (some (.ow d))=some d:=zE_ _
theorem e_k (d:D) (ρ:Rho):kF d ρ=some d:=zE_ _
def seqO (o:Option D):Option (List D):=match o with | some (.lst ds)=>some ds | some (.tup ds)=>some ds | _=>none
theorem T_ (f:FE) (ρ:Rho):seqI f ρ=seqO (f ρ):=zE_ _
theorem Pg (ds:List D):seqO (some (.lst ds))=some ds:=zE_ _
theorem Ph (ds:List D):seqO (some (.tup ds))=some ds:=zE_ _
def rngO (o:Option D):Option (List D):=match o with | some (.int j)=>if -(2^62)<=j/\j<2^62 then some (rngD j.toNat) else none | _=>none
theorem Qd (f:FE) (ρ:Rho):rngI f ρ=rngO (f ρ):=zE_ _
theorem G8 (j:Int) (h : -(2^62)<=j/\j<2^62):rngO (some (.int j))=some (rngD j.toNat):=by
 show (if _ then _ else _)=_;rw[if_pos h]
def forO (o:Option (List D)) (tg:FG) (b:FS) (ρ:Rho):Option Out:=o.bind λ ds=>forF (tgB tg b) ds ρ
theorem YD (src:FI) (tg:FG) (b:FS) (ρ:Rho):forS src tg b ρ=forO (src ρ) tg b ρ:=zE_ _
theorem UG (ds:List D) (tg:FG) (b:FS) (ρ:Rho):forO (some ds) tg b ρ=forF (tgB tg b) ds ρ:=zE_ _
def ccO (o:Option Bool) (e:Option D) (r:Option (List D)):Option (List D):=match o with | some true=>e.bind λ y=>r.map (y::·) | some false=>r | none=>none
theorem JQ (ρ:Rho) (ga:FT) (fe:FE) (d:D) (r:List D):Io ρ ga fe (d::r)=ccO (ga (ρ++[.fz d])) (fe (ρ++[.fz d])) (Io ρ ga fe r):=zE_ _
theorem Vd (ρ:Rho):allT ρ=some true:=zE_ _
def runO (o:Option Out):Option D:=match o with | some (.rt d _)=>some d | some (.nx _)=>some .non | _=>none
theorem YF {np:Nat}{b:FS}{ds:List D}(h:ds.length=np):runF n np b ds=runO (b (CN n ds)):=by
 unfold runF;rw[if_pos h];rfl
theorem UJ (d:D) (ρ:Rho):runO (some (.rt d ρ))=some d:=zE_ _
theorem UL (ρ:Rho):runO (some (.nx ρ))=some .non:=zE_ _
theorem YG {α β:Type}(f:α->β) (x:α):Option.map f (some x)=some (f x):=zE_ _
theorem UT {α β:Type}(f:α->Option β) (x:α):Option.bind (some x) f=f x:=zE_ _
theorem Lq (n:Nat) (ds:List D):CN n ds=ds.map .fz++List.replicate (n-ds.length) .un:=zE_ _
theorem truB (b:Bool):truD (.bl b)=some b:=zE_ _
theorem Fl {α:Type}(l:List α) (k:Nat):atI l (k:Int)=l[k]?:=by
 unfold atI ixN;rw[if_pos (by omega)]
 by_cases h:k<l.length
 ·rw[if_pos (by omega)];simp
 ·rw[if_neg (by omega),z19 (by omega)];rfl
theorem ix0 (x:D) (r:List D):ixD (.lst (x::r)) (.int 0)=some x:=Fl _ 0
theorem ix1 (x y:D) (r:List D):ixD (.lst (x::y::r)) (.int 1)=some y:=Fl _ 1
theorem ix2 (x y z:D) (r:List D):ixD (.lst (x::y::z::r)) (.int 2)=some z:=Fl _ 2
theorem ixt0 (x:D) (r:List D):ixD (.tup (x::r)) (.int 0)=some x:=Fl _ 0
theorem ixt1 (x y:D) (r:List D):ixD (.tup (x::y::r)) (.int 1)=some y:=Fl _ 1
theorem ixt2 (x y z:D) (r:List D):ixD (.tup (x::y::z::r)) (.int 2)=some z:=Fl _ 2
theorem ixt3 (x y z w:D) (r:List D):ixD (.tup (x::y::z::w::r)) (.int 3)=some w:=Fl _ 3
theorem e_tr (f:FE) (ρ:Rho):trF f ρ=(f ρ).bind truD:=zE_ _
theorem K8 (x y:Str):(x++y).length=x.length+y.length:=by
 show (x.cps++y.cps).size=_;simp[Str.length]
theorem qj (z:Str) (h:z.length<=10000000):lenD (.str z)=some (.int z.length):=by
 show (if z.length<=sizeLine then some (D.int z.length) else none)=_;rw[if_pos (Hk h)]
theorem Qe (l:List D):lenD (.lst l)=some (.int l.length):=zE_ _
theorem YH (x:Str) (ys:List Str):inD false (.str x) (.lst (ys.map .str))=some (.bl (ys.any (λ y=>y==x))):=by
 have h:∀ ys:List Str,flVs (ys.map .str)=some (ys.map V.str):=λ ys=>by
  induction ys with
  | nil=>rfl
  | cons y r ih=>simp[flVs,flV,ih]
 show ((flV (.str x)).bind λ v=>(flVs (ys.map .str)).map λ vs=>D.bl (inV v vs))=_;rw[h];show some (D.bl (inV (.str x) (ys.map V.str)))=_;simp[inV,List.any_map,Function.comp_def,eqV]
theorem Ek (n:Nat):(rngD n).length=n:=by simp[rngD]
theorem Z1 (ys:List Str):Ks (ys.map .str)=some ys:=by
 induction ys with
 | nil=>rfl
 | cons y r ih=>simp[Ks,ih]
def lD (i:Nat) (ρ:Rho) (o:Option D):Option Out:=o.map λ d=>.nx (ρ.set i (.ow d))
theorem UV (i:Nat) (f:FE) (ρ:Rho):setW i f ρ=lD i ρ (f ρ):=zE_ _
theorem Pj (i:Nat) (ρ:Rho) (d:D):lD i ρ (some d)=some (.nx (ρ.set i (.ow d))):=zE_ _
def mutO (g:D->D->Option D) (i:Nat) (ρ:Rho) (x v:Option D):Option Out:=v.bind λ v=>x.bind λ x=>(g x v).map λ y=>.nx (ρ.set i (.ow y))
def getW (o:Option Slot):Option D:=match o with | some (.ow d)=>some d | _=>none
theorem YJ (g:D->D->Option D) (i:Nat) (f:FE) (ρ:Rho):mutF g i f ρ=mutO g i ρ (getW ρ[i]?) (f ρ):=zE_ _
theorem UW (g:D->D->Option D) (i:Nat) (ρ:Rho) (x v:D):mutO g i ρ (some x) (some v)=(g x v).map λ y=>.nx (ρ.set i (.ow y)):=zE_ _
theorem J0 (d:D):getW (some (.ow d))=some d:=zE_ _
def forB (o:Option Out) (b:D->FS) (r:List D):Option Out:=match o with
  | some (.nx ρ')=>forF b r ρ'
  | some (.ct ρ')=>forF b r ρ'
  | some (.bk ρ')=>some (.nx ρ')
  | some (.rt e ρ')=>some (.rt e ρ')
  | none=>none
theorem Lr (b:D->FS) (ρ:Rho):forF b [] ρ=some (.nx ρ):=zE_ _
theorem Dk (b:D->FS) (d:D) (r:List D) (ρ:Rho):forF b (d::r) ρ=forB (b d ρ) b r:=zE_ _
theorem CQ (b:D->FS) (r:List D) (ρ:Rho):forB (some (.nx ρ)) b r=forF b r ρ:=zE_ _
theorem Pk (b:D->FS) (r:List D) (ρ:Rho):forB (some (.ct ρ)) b r=forF b r ρ:=zE_ _
theorem Pn (b:D->FS) (r:List D) (ρ:Rho):forB (some (.bk ρ)) b r=some (.nx ρ):=zE_ _
theorem Pq (b:D->FS) (r:List D) (d:D) (ρ:Rho):forB (some (.rt d ρ)) b r=some (.rt d ρ):=zE_ _
def bndO (o:Option Rho) (b:FS):Option Out:=o.bind b
theorem e_tg (tg:FG) (b:FS) (d:D) (ρ:Rho):tgB tg b d ρ=bndO (tg d ρ) b:=zE_ _
theorem Ip (ρ:Rho) (b:FS):bndO (some ρ) b=b ρ:=zE_ _
theorem JR (i:Nat) (d:D) (ρ:Rho):Ay i d ρ=some (ρ.set i (.fz d)):=zE_ _
theorem JS (a:Str):ltS a a=false:=by
 unfold ltS;exact z0a (List.lt_irrefl _)
theorem M5 {a b:Str}(h1:ltS a b=true) (h2:ltS b c=true):ltS a c=true:=by
 unfold ltS at *;exact z0g (List.lt_trans (z12 h1) (z12 h2))
theorem YK {a b:Str}(h1:ltS a b=false) (h2:a≠b):ltS b a=true:=by
 unfold ltS at *;have h1':=of_decide_eq_false h1;have h3:b.cps.toList<=a.cps.toList:=List.not_lt.mp h1'
 rcases Decidable.em (b.cps.toList<a.cps.toList) with h | h
 ·exact z0g h
 ·exfalso;have h4:a.cps.toList<=b.cps.toList:=List.not_lt.mp h;have e:a.cps.toList=b.cps.toList:=List.le_antisymm h4 h3;apply h2;cases a;cases b;simp at e;rw[e]
def Up (l:List Str):Prop:=l.Pairwise λ a b=>ltS a b=true
theorem Qf (x y:Str):∀ l:List Str,y∈insS x l↔y=x∨y∈l
 | []=>by simp[insS]
 | z::r=>by
  unfold insS;split
  ·simp
  ·split
   ·rename_i _ e;subst e;simp
   ·simp[Qf x y r];constructor
    ·rintro (h | h | h)
     ·exact .inr (.inl h)
     ·exact .inl h
     ·exact .inr (.inr h)
    ·rintro (h | h | h)
     ·exact .inr (.inl h)
     ·exact .inl h
     ·exact .inr (.inr h)
theorem YL (x:Str):∀ {l:List Str},Up l->Up (insS x l)
 | [],_=>by simp[insS,Up]
 | z::r,h=>by
  obtain⟨h1,h2⟩:=z1g.mp h;unfold insS;split
  ·rename_i hlt;exact z1g.mpr ⟨λ y hy=>by
    rcases z08.mp hy with rfl | hy
    ·exact hlt
    ·exact M5 hlt (h1 y hy),h⟩
  ·rename_i hn;split
   ·exact h
   ·rename_i hne;refine z1g.mpr ⟨λ y hy=>?_,YL x h2⟩
    rcases (Qf x y r).mp hy with rfl | hy
    ·exact YK (by simpa using hn) hne
    ·exact h1 y hy
theorem J1 (l:List Str):Up (Bo l):=by
 unfold Bo
 induction l with
 | nil=>exact List.Pairwise.nil
 | cons x r ih=>exact YL x ih
theorem Dl (y:Str) (l:List Str):y∈Bo l↔y∈l:=by
 unfold Bo
 induction l with
 | nil=>simp
 | cons x r ih=>rw[List.foldr_cons,Qf,ih];simp
theorem Ve (h:Up l):l.Nodup:=h.imp λ {a b} hab e=>by
 subst e;rw[JS] at hab;cases hab
theorem sub_len:∀ {l m:List Str},l.Nodup->(∀ x∈l,x∈m)->l.length<=m.length
 | [],_,_,_=>z0s _
 | x::r,m,h,hs=>by
  obtain⟨h1,h2⟩:=z0G.mp h;have hx:x∈m:=hs x z0h;have:=sub_len (l:=r) (m:=m.erase x) h2 λ y hy=>(List.mem_erase_of_ne (λ e=>by subst e;exact h1 hy)).mpr (hs y (z0b _ hy));rw[List.length_erase_of_mem hx] at this;have hp:0<m.length:=List.length_pos_of_mem hx;simp;omega
theorem Ww:∀ {l m:List Str},Up l->Up m->(∀ x,x∈l↔x∈m)->l=m
 | [],[],_,_,_=>rfl
 | [],y::s,_,_,h=>by have:=(h y).mpr z0h;simp at this
 | x::r,[],_,_,h=>by have:=(h x).mp z0h;simp at this
 | x::r,y::s,h1,h2,h=>by
  obtain⟨a1,a2⟩:=z1g.mp h1;obtain⟨b1,b2⟩:=z1g.mp h2;have e:x=y:=by
   rcases z08.mp ((h x).mp z0h) with e | hx
   ·exact e
   ·rcases z08.mp ((h y).mpr z0h) with e | hy
    ·exact e.symm
    ·have:=M5 (a1 y hy) (b1 x hx);rw[JS] at this;cases this
  subst e;have:r=s:=Ww a2 b2 λ z=>by
   constructor
   ·intro hz
    rcases z08.mp ((h z).mp (z0b _ hz)) with e | q
    ·subst e;have:=a1 z hz;rw[JS] at this;cases this
    ·exact q
   ·intro hz
    rcases z08.mp ((h z).mpr (z0b _ hz)) with e | q
    ·subst e;have:=b1 z hz;rw[JS] at this;cases this
    ·exact q
  rw[this]
abbrev FZ:=Rho->Option (D×Rho)
abbrev FZA:=Rho->Option (List D×Rho)
end PV
namespace L2
open PySem PySem.Spec PyProof.Rows
def clOf (cells:List (Str×Addr)):List (Str×NameKind)->List (Str×Addr)->List (Str×Addr)
 | [],cs=>cs
 | y::r,cs=>if y.2==.free then clOf cells r ((y.1,(cells.lookup y.1).getD 0)::cs) else clOf cells r cs
theorem Qg {cells:List (Str×Addr)}{x:Str}{c:Addr}:∀ {names:List (Str×NameKind)}{cs:List (Str×Addr)},(∀ y∈names,y.2=.free ->∃ c,cells.lookup y.1=some c) ->
  (clOf cells names cs).lookup x=some c->cs.lookup x=some c∨cells.lookup x=some c
 | [],_,_,h=>.inl h
 | y::r,cs,hf,h=>by
  unfold clOf at h;split at h
  ·rename_i hk;have hk':y.2=.free :=by simpa using hk
   obtain⟨c',hc⟩:=hf y z0h hk'
   rcases Qg (λ z hz=>hf z (z0b _ hz)) h with q | q
   ·rw[z0d] at q;split at q
    ·rename_i e;have e':x=y.1:=by simpa using e
     rw[hc] at q;subst e';right;rw[hc];simpa using q
    ·exact .inl q
   ·exact .inr q
  ·exact Qg (λ z hz=>hf z (z0b _ hz)) h
theorem M6 {cells:List (Str×Addr)}{x:Str}:∀ {names:List (Str×NameKind)}{cs:List (Str×Addr)},(∃ c,cs.lookup x=some c)->∃ c,(clOf cells names cs).lookup x=some c
 | [],_,h=>h
 | y::r,cs,h=>by
  unfold clOf;split
  ·apply M6;rw[z0d];split
   ·exact⟨_,rfl⟩
   ·exact h
  ·exact M6 h
theorem J2 {cells:List (Str×Addr)}{x:Str}:∀ {names:List (Str×NameKind)}{cs:List (Str×Addr)},(x,NameKind.free)∈names->∃ c,(clOf cells names cs).lookup x=some c
 | [],_,h=>by cases h
 | y::r,cs,h=>by
  unfold clOf
  rcases z08.mp h with e | h
  ·subst e;rw[if_pos (by rfl)];apply M6;rw[z0d];simp
  ·split
   ·exact J2 h
   ·exact J2 h
theorem YM {env:Env}:∀ (names:List (Str×NameKind)) (cs:List (Str×Addr)),(∀ y∈names,y.2=.free ->∃ c,env.cells.lookup y.1=some c) ->
  (forIn names cs (λ x r=>match x with
   | (name,kind)=>if (kind==NameKind.free)=true then do let a <-cellOf env name;pure (ForInStep.yield ((name,a)::r)) else pure (ForInStep.yield r)):Sem (List (Str×Addr)))=pure (clOf env.cells names cs)
 | [],_,_=>rfl
 | (n,k)::r,cs,hf=>by
  have ih:=λ cs=>YM r cs (λ z hz=>hf z (z0b _ hz));rw[List.forIn_cons]
  by_cases hk:(k==NameKind.free)=true
  ·obtain⟨c,hc⟩:=hf (n,k) z0h (by simpa using hk);have hc':env.cells.lookup n=some c:=hc;have e:cellOf env n=pure c:=by unfold cellOf;rw[hc']
   simp only[hk,if_true,e];show (forIn r ((n,c)::cs) _:Sem _)=_;rw[ih]
   conv=>rhs;unfold clOf
   simp only[hk,if_true,hc',Option.getD_some]
  ·simp only[hk,if_false];show (forIn r cs _:Sem _)=_;rw[ih]
   conv=>rhs;unfold clOf
   simp only[hk,if_false];rfl
theorem Rc (hf:∀ y∈scope.names,y.2=.free ->∃ c,env.cells.lookup y.1=some c):closureFor scope env=pure (clOf env.cells scope.names []):=by
 have h:=YM (env:=env) scope.names [] hf;unfold closureFor;show ((forIn scope.names [] _:Sem _) >>= λ r=>pure r)=_;exact (congrArg (λ m=>m >>= λ r=>pure r) h)
theorem El {env:Env}{x:Str}{k:NameKind}:∀ {names:List (Str×NameKind)},(names.map λ (n,k)=>if (k==NameKind.free&&env.scope.kind==.function&&env.kindOf n==some .cell) then (n,NameKind.cell) else (n,k)).lookup x=some k ->
  ∃ k',(x,k')∈names/\(k'=k∨(k'=.free /\k=.cell))
 | [],h=>by simp at h
 | (n,k0)::r,h=>by
  rw[z03] at h;have ih:=@El env x k r
  by_cases hc:(k0==NameKind.free&&env.scope.kind==.function&&env.kindOf n==some .cell)=true
  ·simp only[hc,if_true] at h;rw[z0d] at h;split at h
   ·rename_i e;have e':x=n:=by simpa using e
    subst e';have hk0:k0=.free :=by
     rw[z0C,z0C] at hc;simpa using hc.1.1
    cases h;exact⟨k0,z0h,.inr ⟨hk0,rfl⟩⟩
   ·obtain⟨k',h1,h2⟩:=ih h;exact⟨k',z0b _ h1,h2⟩
  ·simp only[hc,if_false] at h;rw[z0d] at h;split at h
   ·rename_i e;have e':x=n:=by simpa using e
    subst e';cases h;exact⟨k0,z0h,.inl rfl⟩
   ·obtain⟨k',h1,h2⟩:=ih h;exact⟨k',z0b _ h1,h2⟩
def Cp (ts N:List Str):List Str:=N.map λ y=>if y∈ts then Str.empty else y
abbrev GZ (t:Str) (N:List Str):List Str:=Cp [t] N
abbrev CT (X:Cx) (scope:Scope) (N2:List Str) (s2:Shared) (H2:Hp) (fp:List Addr):Cx:=
 { X with N:=N2,s₀:=s2,H₀:=H2,env:=compEnvC scope (clOf X.env.cells scope.names []) (s2.heap.objs.size+1) X.env,outer:=X.stack,ex:=fp,fn:=λ _=>false,pn:=[],xe:=λ _ _=>False }
structure CompOkL (X:Cx) (scope:Scope) (ts:List Str):Prop where
 nocell:∀ y∈scope.names,y.2≠.cell
 kind:scope.kind=.function
 names:∀ y∈scope.names,y.2=.local ->scope.names.lookup y.1=some .local
 tl:∀ t∈ts,scope.names.lookup t=some .local
 loc:∀ y∈scope.names,y.2=.local ->y.1∈ts∨y.1∉X.N
 fre:∀ y∈scope.names,y.2=.free ->X.env.kindOf y.1=some .cell ∨X.env.kindOf y.1=some .free
 emp:∀ y∈scope.names,y.1≠Str.empty
 nd:(Cp ts X.N++ts).Nodup
section
variable {t:Str}{ts:List Str}
theorem CompOkL.cells (c:CompOkL X scope ts) (ok:X.Ok):∀ y∈scope.names,y.2=.free ->∃ c,X.env.cells.lookup y.1=some c:=λ y hy hf=>ok.has y.1 (c.fre y hy hf)
theorem CompOkL.sub (c:CompOkL X scope ts) (ok:X.Ok) {x:Str}{a:Addr}(h:(clOf X.env.cells scope.names []).lookup x=some a):X.env.cells.lookup x=some a:=by
 rcases Qg (c.cells ok) h with q | q
 ·simp at q
 ·exact q
theorem CompOkL.inv {h1:Heap}{tk:Nat}(c:CompOkL X scope ts) (I:Inv X π σ H s) (hf:∀ b∈fp,FpOk X π H b) (ho:∀ b∈fp,∃ o,s.heap.get? b=some o)
  (hns:h1.Ns (s.heap.objs.size+1) (λ _=>none)) (kp:∀ b o,s.heap.get? b=some o->h1.get? b=some o) (hacc:h1.get? s.heap.objs.size=some { cls:=.type "list",data:=.seq #[] }) :
  Inv (CT X scope (Cp ts X.N++ts) s H fp) [] (σ++List.replicate ts.length none) (upd H s.heap.objs.size (.lst [])) { s with heap:=h1,toks:=tk }:=by
 have lt_of:∀ b o,s.heap.get? b=some o->b<s.heap.objs.size:=λ b o e=>z07 e;have ok':(CT X scope (Cp ts X.N++ts) s H fp).Ok:=by
  refine⟨I.ok.mod,c.kind,I.ok.glob,I.ok.blt,z0V _,λ x y a h1 h2=>I.ok.inj x y a (c.sub I.ok h1) (c.sub I.ok h2),λ x hx=>?_,λ x a h _=>absurd (show false=true from h) z0r,I.ok.hd,I.ok.frames,.inl rfl,λ b hb=>⟨?_,λ x a h=>?_⟩,I.bs,z0t I.ok.bsz I.sz,λ b o e hb=>?_,λ b hb hs=>?_,I.stack,I.stkFree⟩
  ·have hx':(relabel scope X.env).names.lookup x=some .cell ∨(relabel scope X.env).names.lookup x=some .free :=hx;have go:∀ k,(relabel scope X.env).names.lookup x=some k->(k=.cell ∨k=.free)->(x,NameKind.free)∈scope.names:=λ k hk hkk=>by
    obtain⟨k',m,e⟩:=El hk
    rcases e with e | ⟨e,_⟩
    ·subst e
     rcases hkk with z | z
     ·exact absurd z (c.nocell _ m)
     ·rw[<-z];exact m
    ·rw[<-e];exact m
   rcases hx' with h | h
   ·exact J2 (go _ h (.inl rfl))
   ·exact J2 (go _ h (.inr rfl))
  ·obtain⟨o,e⟩:=ho b hb;exact z0l (z1p (lt_of b o e))
  ·exact (hf b hb).2.2.2.2.1 x a (c.sub I.ok h)
  ·rcases (hf b hb).2.2.2.1 with z | z
   ·exact I.ok.noex b o e z
   ·exact absurd (z0F (z07 e) (z0t I.ok.bsz z)) (z1a _)
  ·rcases z08.mp (I.stkSub b hs) with z | z
   ·exact (hf b hb).2.1 z
   ·exact (hf b hb).2.2.1 z
 have fr:H s.heap.objs.size=none:=I.hok.fresh (z01 _);have new:BK X.prog X.w (upd H s.heap.objs.size (.lst [])) h1 s.heap.objs.size (.lst []):=⟨z0s _,[],0,.nil,hacc⟩;refine⟨ok',rfl,I.bare,Un.laid kp (z01 _) fr,⟨_,hns,λ i x v e1 e2 e3=>?_⟩,λ x a h=>?_,?_,λ x a h=>?_,λ p hp=>absurd (show p∈([]:zP) from hp) (by simp),I.hok.laid kp (z01 _) new,?_⟩
 ·have e1':(Cp ts X.N++ts)[i]?=some x:=e1;have hil:i<σ.length:=by
   by_cases z:i<σ.length
   ·exact z
   ·rw[z0X (by omega),List.getElem?_replicate] at e2;split at e2<;>cases e2
  have e2':σ[i]?=some (some v):=by rw[z0Y hil] at e2;exact e2
  have hN:i<X.N.length:=by rw[<-I.len];exact hil
  have e1'':(Cp ts X.N)[i]?=some x:=by rw[z0Y (by unfold Cp;rw[z00];exact hN)] at e1';exact e1'
  unfold Cp at e1'';rw[z04] at e1'';have e3':(relabel scope X.env).names.lookup x=some .local ∨(relabel scope X.env).names.lookup x=some .cell ∨(relabel scope X.env).names.lookup x=some .free :=e3;have hin:∃ k',(x,k')∈scope.names/\(k'=.local ∨k'=.free)/\(k'=.free ->(relabel scope X.env).names.lookup x=some .cell ∨(relabel scope X.env).names.lookup x=some .free):=by
   rcases e3' with z | z | z
   ·obtain⟨k',m,e⟩:=El z
    rcases e with e | ⟨_,e⟩
    ·exact⟨k',m,.inl e,λ q=>by rw[q] at e;cases e⟩
    ·cases e
   ·obtain⟨k',m,e⟩:=El z
    rcases e with e | ⟨e,_⟩
    ·exact absurd e (c.nocell _ m)
    ·exact⟨k',m,.inr e,λ _=>.inl z⟩
   ·obtain⟨k',m,e⟩:=El z
    rcases e with e | ⟨e,q⟩
    ·exact⟨k',m,.inr e,λ _=>.inr z⟩
    ·cases q
  cases ey:X.N[i]? with
  | none=>rw[ey] at e1'';cases e1''
  | some y=>
   rw[ey] at e1'';have e1z:(if y∈ts then Str.empty else y)=x:=z0e e1'';obtain⟨k',m,hk',hfr⟩:=hin
   by_cases hyt:y∈ts
   ·rw[if_pos hyt] at e1z;exact absurd e1z.symm (c.emp _ m)
   ·rw[if_neg hyt] at e1z;subst e1z
    rcases hk' with hk' | hk'
    ·rcases c.loc _ m hk' with z | z
     ·exact absurd z hyt
     ·exact absurd (z0H ey) z
    ·have hkk:=c.fre _ m hk';have hkk':X.env.kindOf y=some .cell ∨X.env.kindOf y=some .free :=hkk;obtain⟨mm,hn,hl⟩:=I.loc;have hv:Vis X.env.scope y:=by
      rcases hkk' with z | z
      ·exact .inr (.inl z)
      ·exact .inr (.inr z)
     obtain⟨u,r,l⟩:=hl i y v ey e2' hv;refine⟨u,r,.inr ⟨hfr hk',?_⟩⟩
     rcases l with ⟨kl,_⟩ | ⟨_,a,ea,hc⟩
     ·rcases hkk' with z | z
      ·rw[kl] at z;cases z
      ·rw[kl] at z;cases z
     ·rw[hk'] at m;obtain⟨a',ha'⟩:=J2 (cells:=X.env.cells) (cs:=[]) m;refine⟨a',ha',?_⟩;have:=c.sub I.ok ha';rw[ea] at this;cases this;obtain⟨o,e,d⟩:=hc;exact⟨o,kp _ _ e,d⟩
 ·obtain⟨v,o,e,d⟩:=I.cell x a (c.sub I.ok h);exact⟨v,o,kp _ _ e,d⟩
 ·show upd H s.heap.objs.size (.lst []) (s.heap.objs.size+1)=none;rw[Al (Nat.succ_ne_self _)];exact I.hok.fresh (z0V _)
 ·have ha:=c.sub I.ok h;obtain⟨v,o,e,d⟩:=I.cell x a ha;rw[Al (z0l (lt_of _ _ e))];exact I.freeC x a ha
 ·show (σ++List.replicate ts.length none).length=(Cp ts X.N++ts).length;unfold Cp;rw[z0j,z0j,z00,I.len,List.length_replicate]
def bw (n:Nat) (wi:TI) (g:TG) (tc:TT) (te:TE):TE:=λ σ H Q=>wi σ H λ J H1=>∀ p,H1 p=none->∃ W:Nat->Nat->List V->Hp->Prop,(∃ m,W 0 m [] (upd H1 p (.lst []))) ∧
 ∀ i m ys H,W i m ys H->(J.stop i H/\Q (.ref p) H)∨(J.go i H/\∀ x H',J.yld i H x H'->∀ os:List (Option V),os.length=n->g x (σ++os) H' λ σ2 H1=>(∃ o2,σ2=σ++o2/\o2.length=n)/\tc σ2 H1 λ b H2=>
  if b=true then te σ2 H2 λ y H3=>H3 p=some (.lst ys)/\ys.length<sizeLine/\∃ m',m'<m/\W (i+1) m' (ys++[y]) (upd H3 p (.lst (ys++[y]))) else ∃ m',m'<m/\W (i+1) m' ys H2)
def PTs (X:Cx) (ifs:List Expr) (tc:TT):Prop:=
 ∀ (π:zP) (s:Shared) (σ:St) (H:Hp) (Q:Bool->Hp->Prop),Inv X π σ H s->tc σ H Q ->
  wpAny (model X.prog X.w) X.A (forIn ifs true λ c r=>if r=true then do let ok <-isTrue c X.env (eval c X.env);pure (ForInStep.yield ok) else pure (ForInStep.yield r)) (TP X π σ Q) X.xe s
theorem iU:PTs X [] (λ _ H Q=>Q true H):=λ _ _ _ H _ I h=>wpAny_tests_nil ⟨H,I,h⟩
theorem iV (h:PT X e tc):PTs X [e] tc:=λ π s σ H Q I q=>wpAny_tests_one (h π s σ H Q I q)
variable {elt iter:Expr}{ifs:List Expr}{px:Pos}{wi:TI}{g:TG}
theorem Wx {A:Around}{R:Result->Shared->Prop}{itv acc:Value}(J:Nat->Shared->Prop) (E:zQ) (hE:E=notedBy (model prog w) A env λ e s'=>R (.error e) s')
    (go:∀ n s,J n s->wpAny (model prog w) A (pyNext itv) (λ r s1=>match r with
      | none=>R (.ok .next) s1
      | some v=>wpAny (model prog w) A (letOwnedTupleGo tg itv v) (λ _ s2=>wpAny (model prog w) A (assign tg env v) (λ _ s3=>
          wpAny (model prog w) A (forIn ifs true λ c r=>if r=true then do let ok <-isTrue c env (eval c env);pure (ForInStep.yield ok) else pure (ForInStep.yield r)) (λ ok s4=>
            if ok=true then wpAny (model prog w) A (eval elt env) (λ x s5=>wpAny (model prog w) A (call (.builtin "list.append") [acc,x]) (λ _ s6=>∃ m,m<n/\J m s6) E s5) E s4 else ∃ m,m<n/\J m s4) E s3) E s2) E s1) E s)
    (n:Nat) (j0:J n s):codeAny (model prog w) A (.compLoop (.ListComp elt [⟨tg,iter,ifs,0⟩] scope pos) 0 itv acc env) R s:=by
  subst hE;refine codeAny_loop rfl J (λ n s jn=>?_) n j0;show wpAny _ A (Sem.onRaise (compTurn (.ListComp elt [⟨tg,iter,ifs,0⟩] scope pos) 0 itv acc env) (λ x=>do noteFrame x env;theTreesLotGoes x)) _ _ s;refine wpAny_noted ?_;rw[compTurn_list];refine z02 (wpAny_standAt (z02 (thn (go n s jn) λ r s1 q1=>?_)));cases r with
  | none=>exact z09 q1
  | some v=>
    refine z02 (thn q1 λ _ s2 q2=>z02 (thn q2 λ _ s3 q3=>z02 (thn q3 λ ok s4 q4=>?_)));cases ok with
    | false=>exact z09 ⟨rfl,q4⟩
    | true=>exact z02 (z02 (thn q4 λ x s5 q5=>z02 (thn q5 λ _ s6 q6=>z09 (z09 ⟨rfl,q6⟩))))
theorem Wy {Q:VK}{tn:Nat->Heap->Prop}{J:It}{RR:Value->Addr->Result->Shared->Prop}(c:CompOkL X scope ts) (hc:X.calm=true)
    (I:Inv X π σ H s) (T:Turn X.prog X.w X.K tg J fp it tn) (st0:tn 0 s.heap) (hf:∀ b∈fp,FpOk X π H b)
    (hG:∀ s2 H2 fp,PG (CT X scope (Cp ts X.N++ts) s2 H2 fp) tg g) (hI:∀ s2 H2 fp,PTs (CT X scope (Cp ts X.N++ts) s2 H2 fp) ifs tc) (hE:∀ s2 H2 fp,PE (CT X scope (Cp ts X.N++ts) s2 H2 fp) elt te)
    (h:∀ p,H p=none->∃ W:Nat->Nat->List V->Hp->Prop,(∃ m,W 0 m [] (upd H p (.lst []))) ∧
      ∀ i m ys H,W i m ys H->(J.stop i H/\Q (.ref p) H)∨(J.go i H/\∀ x H',J.yld i H x H'->∀ os:List (Option V),os.length=ts.length->g x (σ++os) H' λ σ2 H1=>(∃ o2,σ2=σ++o2/\o2.length=ts.length)/\tc σ2 H1 λ b H2=>
        if b=true then te σ2 H2 λ y H3=>H3 p=some (.lst ys)/\ys.length<sizeLine/\∃ m',m'<m/\W (i+1) m' (ys++[y]) (upd H3 p (.lst (ys++[y]))) else ∃ m',m'<m/\W (i+1) m' ys H2))
    (hRR:∀ p C s' H' m,Inv X π σ H' s'->H' C=none->C≠X.env.locals->X.s₀.heap.objs.size<=C->(∀ x a,X.env.cells.lookup x=some a->a≠C)->(∀ q∈X.pn++π,q.1≠C)->s'.heap.Ns C m->Q (.ref p) H'->RR (.ref p) C (.ok .next) s') :
    wpAny (model X.prog X.w) X.A (newList []) (λ acc s₃=>wpAny (model X.prog X.w) X.A (newFunctionEnv scope X.env.globals (clOf X.env.cells scope.names []) [] X.env.qual none .none (some X.env)) (λ cenv s₄=>
      codeAny (model X.prog X.w) X.A (.compStart (.ListComp elt [⟨tg,iter,ifs,0⟩] scope pos) 0 (.ref it) acc { cenv with scope:=relabel scope X.env }) (RR acc cenv.locals) s₄) E s₃) E s:=by
  refine z1j (wpAny_newFunctionEnv c.nocell (by intro y hy;simp at hy) (λ h₁ hns₁ hsb₁=>?_) c.kind);dsimp only at hns₁ hsb₁ ⊢;generalize hH2:s.heap.push { cls:=.type "list",dict:=none,data:=.seq ([]:List Value).toArray }=G2 at hns₁ hsb₁ ⊢;have hC:G2.objs.size=s.heap.objs.size+1:=by rw[<-hH2,Heap.size_push]
  rw[hC] at hns₁ hsb₁ ⊢;have kp:∀ b o,s.heap.get? b=some o->h₁.get? b=some o:=λ b o e=>hsb₁.extBut b o (z0l (z1p (z07 e))) (z0c _ (hH2▸z0c _ e));have hacc:h₁.get? s.heap.objs.size=some { cls:=.type "list",data:=.seq #[] }:=hsb₁.extBut _ _ (z0l (Nat.lt_succ_self _)) (z0c _ (hH2▸z0i _ rfl));have hob:∀ b∈fp,∃ o,s.heap.get? b=some o:=λ b hb=>let ⟨o,e,_⟩:=T.obj 0 _ st0 b hb;⟨o,e⟩;have I0:=c.inv (fp:=fp) (h1:=h₁) (tk:=s.toks+([]:List (Str×Value)).length) I hf hob (by simpa using hns₁) kp hacc;have fr:H s.heap.objs.size=none:=I.hok.fresh (z01 _);obtain⟨W,⟨m0,w0⟩,turn⟩:=h _ fr;have st1:tn 0 h₁:=T.keep 0 _ _ st0 λ b _ o e=>kp b o e;generalize hX:CT X scope (Cp ts X.N++ts) s H fp=Y at I0;have hcY:Y.calm=true:=by rw[<-hX];exact hc
  have stat:∀ {H':Hp},(∀ b∈fp,H' b=none)->∀ b∈fp,FpOk Y [] H' b:=λ {H'} hn b hb=>by
    obtain⟨o,e⟩:=hob b hb;refine⟨hn b hb,?_,?_,.inl ?_,λ x a e'=>?_,λ p hp=>?_⟩
    · rw[<-hX];exact z0l (z1p (z07 e))
    · intro z
      exact I0.ok.exfs b (by rw[<-hX];exact hb) z
    · rw[<-hX];exact hb
    · exact (I0.ok.exf b (by rw[<-hX];exact hb)).2 x a e'
    · rw[<-hX] at hp
      exact absurd (show p∈([]:zP) from hp) (by simp)
  have fp0:∀ b∈fp,upd H s.heap.objs.size (.lst []) b=none:=λ b hb=>by
    obtain⟨o,e⟩:=hob b hb;rw[Al (z0l (z07 e))];exact (hf b hb).1
  have envY:Y.env=compEnvC scope (clOf X.env.cells scope.names []) (s.heap.objs.size+1) X.env:=by rw[<-hX]
  have pY:Y.prog=X.prog:=by rw[<-hX]
  have wY:Y.w=X.w:=by rw[<-hX]
  have aY:Y.A=X.A:=by rw[<-hX]
  have kY:Y.K=X.K:=by rw[<-hX]
  have xY:Y.xe=λ _ _=>False:=by rw[<-hX]
  have hIY:PTs Y ifs tc:=by rw[<-hX];exact hI s H fp
  have hEY:PE Y elt te:=by rw[<-hX];exact hE s H fp
  have hGY:PG Y tg g:=by rw[<-hX];exact hG s H fp
  have loop:∀ s₃:Shared,s₃={ s with heap:=h₁,toks:=s.toks+([]:List (Str×Value)).length } ->
      codeAny (model X.prog X.w) X.A (.compLoop (.ListComp elt [⟨tg,iter,ifs,0⟩] scope pos) 0 (.ref it) (.ref s.heap.objs.size) (compEnvC scope (clOf X.env.cells scope.names []) (s.heap.objs.size+1) X.env)) (RR (.ref s.heap.objs.size) (s.heap.objs.size+1)) s₃:=by
    rintro s₃ rfl;rw[<-envY];refine Wx (λ n s'=>∃ i ys os H',os.length=ts.length/\Inv Y [] (σ++os) H' s'/\tn i s'.heap/\(∀ b∈fp,H' b=none)/\W i n ys H') _ rfl ?_ m0 ⟨0,[],_,_,List.length_replicate,I0,st1,fp0,w0⟩;rintro n s3 ⟨i,ys,os,H3,hos,I3,st3,fr3,w3⟩
    rcases turn i n ys H3 w3 with ⟨stop,qn⟩ | ⟨go,step⟩
    · have d:=T.done Y pY wY kY hcY i [] s3 _ H3 (λ _ _=>False) I3 (stat fr3) st3 stop
      rw[aY] at d;refine z0R d (λ r s4 ⟨hr,I4⟩=>?_) λ _ _ z=>z.elim;subst hr;have cN:=I4.free;have cN':H3 (s.heap.objs.size+1)=none:=by rw[envY] at cN;exact cN
      have un:=I4.base;obtain⟨m,hm,_⟩:=I4.loc;have hm':s4.heap.Ns (s.heap.objs.size+1) m:=by rw[envY] at hm;exact hm
      have un':Un (frs X.stack) fp H H3 s.heap s4.heap:=by rw[<-hX] at un;exact un
      have os':s4.os=s.os:=by have:=I4.os;rw[<-hX] at this;exact this
      have hok':HOk X.prog X.w H3 s4.heap:=by have:=I4.hok;rw[<-hX] at this;exact this
      have bare':=I4.bare;have IX:Inv X π σ H3 s4:=I.call' os' un' hok' bare' λ b hb=>⟨(hf b hb).2.2.2.1,(hf b hb).2.1,(hf b hb).2.2.2.2.1,(hf b hb).2.2.2.2.2⟩;refine hRR _ _ _ _ m IX cN' (Nat.ne_of_gt (z1p I.lt)) (z0t I.sz (z0V _)) (λ x a e z=>?_) (λ q hq z=>?_) hm' qn
      · obtain⟨v,oc,e',_⟩:=I.cell x a e
        have q2:a<s.heap.objs.size:=z07 e';have z':a=s.heap.objs.size+1:=z;exact absurd (z'▸q2) (z0Z.mpr (z0V _))
      · have q2:q.1<s.heap.objs.size:=z07 (I.pin q hq).1
        have z':q.1=s.heap.objs.size+1:=z;exact absurd (z'▸q2) (z0Z.mpr (z0V _))
    · have d:=T.item Y pY wY kY hcY i [] s3 _ H3 (λ _ _=>False) I3 (stat fr3) st3 go
      rw[aY] at d;refine z0R d (λ r s4 ⟨u,hr,h4⟩=>?_) λ _ _ z=>z.elim;subst hr;refine z0R h4 (λ _ s4 ⟨x,H5,I5,r5,y5,st5,fr5⟩=>?_) λ _ _ z=>z.elim;have I5':=I5.pinned (stat fr5) (T.obj _ _ st5);have asg:=hGY _ s4 _ H5 x u _ I5' r5 (step x H5 y5 os hos);rw[aY,pY,wY,xY] at asg;refine z0R asg (λ _ s6 ⟨σ6,H6,I6,⟨o2,e6,l6⟩,q⟩=>?_) λ _ _ z=>z.elim;subst e6;have tst:=hIY _ s6 _ H6 _ I6 q;rw[aY,pY,wY,xY] at tst;refine z0R tst (λ b s7 ⟨H7,I7,q7⟩=>?_) λ _ _ z=>z.elim;have back:∀ {H8:Hp}{s8:Shared},Inv Y ([]++QR fp s4.heap) (σ++o2) H8 s8->tn (i+1) s8.heap/\∀ b∈fp,H8 b=none:=λ {H8 s8} I8=>by
        refine⟨T.keep _ _ _ st5 λ b hb ob e=>(I8.pin (b,ob) (z0A _ (z0A _ (JP hb e)))).1,λ b hb=>?_⟩;obtain⟨ob,e,d⟩:=T.obj _ _ st5 b hb;exact (I8.pin (b,ob) (z0A _ (z0A _ (JP hb e)))).2.1
      cases b with
      | false=>
        rw[if_neg z0r] at q7 ⊢;obtain⟨m',hm,w7⟩:=q7;obtain⟨t7,f7⟩:=back I7;exact⟨m',hm,i+1,ys,o2,H7,l6,I7.unpinned,t7,f7,w7⟩
      | true=>
        rw[if_pos rfl] at q7 ⊢;have ev:=hEY _ s7 _ H7 _ I7 q7;rw[aY,pY,wY,xY] at ev;refine z0R ev (λ y s8 ⟨yv,H8,I8,r8,hp8,hz8,m',hm,w8⟩=>?_) λ _ _ z=>z.elim;have ap:=Kd (X:=Y) _ s8 _ H8 (.ref s.heap.objs.size) [yv] (.ref s.heap.objs.size) [y] (λ _ H9=>H9=upd H8 s.heap.objs.size (.lst (ys++[yv]))) I8 rfl (.cons r8 .nil) ⟨_,ys,yv,rfl,rfl,hp8,hz8,rfl⟩;rw[aY,pY,wY,xY] at ap;refine z0R ap (λ _ s9 ⟨_,H9,I9,_,e9⟩=>?_) λ _ _ z=>z.elim;subst e9;obtain⟨t9,f9⟩:=back I9;exact⟨m',hm,i+1,_,o2,_,l6,I9.unpinned,t9,f9,w8⟩
  exact codeAny_compStart_list (loop _ rfl) (T.self X.A 0 _ _ _ st1 (loop _ rfl))
theorem bx (c:CompOkL X scope ts) (hc:X.calm=true) (hi:PI X tg iter wi) (hG:∀ s2 H2 fp,PG (CT X scope (Cp ts X.N++ts) s2 H2 fp) tg g) (hI:∀ s2 H2 fp,PTs (CT X scope (Cp ts X.N++ts) s2 H2 fp) ifs tc) (hE:∀ s2 H2 fp,PE (CT X scope (Cp ts X.N++ts) s2 H2 fp) elt te)
  (hs:∀ x,foldedSetIterable iter X.env x=pure x:=by intro _;rfl):PE X (.ListComp elt [⟨tg,iter,ifs,0⟩] scope pos) (bw ts.length wi g tc te):=by
 intro π s σ H Q I h;rw[eval_ListComp];refine wpAny_comprehension_free (use:=none) rfl hs (Rc (c.cells I.ok)) c.kind c.names (thn (hi π s σ H _ I h) λ v s1 h1=>thn h1 λ itv s2 h2=>?_);obtain⟨it,fp,tn,J,H2,e,I2,T,st2,f2,q⟩:=h2;subst e;refine Wy (Q:=Q) c hc I2 T st2 f2 hG hI hE q λ p C s' H' m I' n1 n2 n3 n4 n5 hm q'=>?_;exact⟨m,hm,λ h' sb=>⟨.ref p,H',I'.turned (t':=s'.toks) (λ b o hb e=>(sb.2 b hb).trans e) n1 (Ne.symm (Ne.symm n2)) (.inr n3) n4 n5,rfl,q'⟩⟩
abbrev M7 (X:Cx) (scope:Scope) (t:Str):Prop:=CompOkL X scope [t]
abbrev Qh (X:Cx) (scope:Scope) (t:Str) (s2:Shared) (H2:Hp) (fp:List Addr):Cx:=CT X scope (GZ t X.N++[t]) s2 H2 fp
theorem gOne (c:M7 X scope t) (s2:Shared) (H2:Hp) (fp:List Addr):PG (Qh X scope t s2 H2 fp) (.Name t px) (GR X.N.length):=
 O4 c.nd (by show (GZ t X.N++[t])[X.N.length]?=some t;unfold GZ Cp;rw[z0X (by rw[z00];exact z01 _),z00,Nat.sub_self];rfl) (.inl (lookup_relabel_local (c.tl t (z1h.mpr rfl)))) (.inr (lookup_relabel_local (c.tl t (z1h.mpr rfl))))
def lE (X:Cx) (wi:TI):TI:=λ σ H R=>∃ R0,wi σ H R0/\∀ J H1,σ.length=X.N.length->R0 J H1->R J H1
theorem iW (hi:PI X tg iter wi):PI X tg iter (lE X wi):=λ π s σ H R I ⟨R0,h0,hm⟩=>
 thn (hi π s σ H R0 I h0) λ v s1 h1=>thn h1 λ itv s2 ⟨it,fp,tn,J,H',e,I',T,st,f,r⟩=>⟨it,fp,tn,J,H',e,I',T,st,f,hm J H' I.len r⟩
end
end L2
namespace PV
open PySem PySem.Spec L2
open PyProof.Rows hiding St
structure Gx where
 K:PySem.W.Frag
 cl:Str->Option Addr
 xcl:Str->Option Addr:=λ _=>none
 lent:Option Addr:=none
theorem Ga {K:zFr}(e:Same H H') (h:SqT K H a xs):SqT K H' a xs:=by
 rcases h with (h | ⟨o,h⟩) | h
 ·exact .inl (.inl (e _ _ h))
 ·exact .inl (.inr ⟨o,e _ _ h⟩)
 ·exact .inr h
theorem Aq (h:H p=none) (o:HO):Same H (upd H p o):=λ b u q=>by rw[Al (Ck q h)];exact q
def FsV (fs:List (Str×V)) (gs:List (Str×D)):Prop:=fs.map (λ p=>(p.1,some p.2))=gs.map λ p=>(p.1,flV p.2)
def XdA (H:Hp) (od:Option Addr) (fs:List (Str×V)):Prop:=match od with | some dx=>H dx=some (.xd fs) | none=>fs=[]
theorem XdA.mono {fs:List (Str×V)}(h:XdA H od fs) (s:Same H H'):XdA H' od fs:=by
 cases od with
 | none=>exact h
 | some dx=>exact s _ _ h
inductive Rep (G:Gx) (H:Hp):V->D->Prop
 | non:Rep G H .non .non
 | bl (b:Bool):Rep G H (.bl b) (.bl b)
 | int (i:Int):Rep G H (.int i) (.int i)
 | str (x:Str):Rep G H (.str x) (.str x)
 | tup {a:Addr}{xs:List V}{ds:List D}:SqT G.K H a xs->xs.length=ds.length->(∀ (i:Nat) x d,xs[i]?=some x->ds[i]?=some d->Rep G H x d)->Rep G H (.ref a) (.tup ds)
 | lst {a:Addr}{xs:List V}{ds:List D}:SqL G.K H a xs->xs.length=ds.length->(∀ (i:Nat) x d,xs[i]?=some x->ds[i]?=some d->Rep G H x d)->Rep G H (.ref a) (.lst ds)
 | dk {a:Addr}{o:Obj}{kvs:List (Key×V)}{kds:List (Key×D)}:H a=some (.frz o (.dK kvs))->kvs.map (·.1)=kds.map (·.1)->(∀ (i:Nat) x d,(kvs.map (·.2))[i]?=some x->(kds.map (·.2))[i]?=some d->Rep G H x d)->Rep G H (.ref a) (.dk kds)
 | dt {a:Addr}{o:Obj}{kvs:List (List Key×V)}{kds:List (List Key×D)}:H a=some (.frz o (.dT kvs))->kvs.map (·.1)=kds.map (·.1)->(∀ (i:Nat) x d,(kvs.map (·.2))[i]?=some x->(kds.map (·.2))[i]?=some d->Rep G H x d)->Rep G H (.ref a) (.dt kds)
 | adr (a:Addr):Rep G H (.ref a) (.adr a)
 | ob {a C dx:Addr}{c:Str}{fs:List (Str×V)}{gs:List (Str×D)}:G.cl c=some C->H a=some (.ins C dx fs)->fs.map (·.1)=gs.map (·.1)->(∀ (i:Nat) x d,(fs.map (·.2))[i]?=some x->(gs.map (·.2))[i]?=some d->Rep G H x d)->Rep G H (.ref a) (.ob c gs)
 | err {a C:Addr}{od tb:Option Addr}{c:Str}{fs:List (Str×V)}{gs:List (Str×D)}:G.xcl c=some C->H a=some (EX.excO a C od tb)->XdA H od fs->FsV fs gs->Rep G H (.ref a) (.err c gs)
def RepL (G:Gx) (H:Hp) (xs:List V) (ds:List D):Prop:=xs.length=ds.length/\∀ (i:Nat) x d,xs[i]?=some x->ds[i]?=some d->Rep G H x d
theorem Rep.mono {G:Gx}{H H':Hp}{v:V}{d:D}(r:Rep G H v d) (s:Same H H'):Rep G H' v d:=by
 induction r with
 | non=>exact .non
 | bl b=>exact .bl b
 | int i=>exact .int i
 | str x=>exact .str x
 | tup h l _ ih=>exact .tup (Ga s h) l ih
 | lst h l _ ih=>exact .lst (s.seq h) l ih
 | dk h l _ ih=>exact .dk (s _ _ h) l ih
 | dt h l _ ih=>exact .dt (s _ _ h) l ih
 | adr a=>exact .adr a
 | ob c h l _ ih=>exact .ob c (s _ _ h) l ih
 | err c h q f=>exact .err c (s _ _ h) (q.mono s) f
theorem RepL.mono {G:Gx}{H H':Hp}{xs:List V}{ds:List D}(r:RepL G H xs ds) (s:Same H H'):RepL G H' xs ds:=⟨r.1,λ i x d a b=>(r.2 i x d a b).mono s⟩
theorem RepL.nil {G:Gx}:RepL G H [] []:=⟨rfl,λ i x d h=>by simp at h⟩
theorem RepL.cons {G:Gx}{H:Hp}{x:V}{d:D}{xs:List V}{ds:List D}(r:Rep G H x d) (rs:RepL G H xs ds):RepL G H (x::xs) (d::ds):=
 ⟨by simp[rs.1],λ i y e h1 h2=>by
  cases i with
  | zero=>simp at h1 h2;subst h1;subst h2;exact r
  | succ i=>simp at h1 h2;exact rs.2 i y e h1 h2⟩
theorem RepL.uncons {G:Gx}{d:D}{ds:List D}(r:RepL G H xs (d::ds)):∃ x ys,xs=x::ys/\Rep G H x d/\RepL G H ys ds:=by
 obtain⟨l,h⟩:=r;cases xs with
 | nil=>simp at l
 | cons x ys=>exact⟨x,ys,rfl,h 0 x d rfl rfl,by simpa using l,λ i y e h1 h2=>h (i+1) y e (by simpa using h1) (by simpa using h2)⟩
theorem RepL.nil_inv {G:Gx}(r:RepL G H xs []):xs=[]:=by
 have:=r.1;cases xs with
 | nil=>rfl
 | cons x ys=>simp at this
theorem RepL.append {G:Gx}{ds es:List D}(a:RepL G H xs ds) (b:RepL G H ys es):RepL G H (xs++ys) (ds++es):=by
 refine⟨by rw[z0j,z0j,a.1,b.1],λ i x d h1 h2=>?_⟩
 by_cases hi:i<xs.length
 ·rw[z0Y hi] at h1;rw[z0Y (by rw[<-a.1];exact hi)] at h2;exact a.2 i x d h1 h2
 ·rw[z0X (z0Z.mp hi)] at h1;rw[z0X (by rw[<-a.1];exact z0Z.mp hi),<-a.1] at h2;exact b.2 _ x d h1 h2
theorem RepL.drop {G:Gx}{ds:List D}(a:RepL G H xs ds) (n:Nat):RepL G H (xs.drop n) (ds.drop n):=
 ⟨by rw[z18,z18,a.1],λ i x d h1 h2=>by rw[List.getElem?_drop] at h1 h2;exact a.2 _ x d h1 h2⟩
theorem RepL.take {G:Gx}{ds:List D}(a:RepL G H xs ds) (n:Nat):RepL G H (xs.take n) (ds.take n):=
 ⟨by rw[z0W,z0W,a.1],λ i x d h1 h2=>by
  rw[List.getElem?_take] at h1 h2;split at h1
  ·rename_i hlt;rw[if_pos hlt] at h2;exact a.2 _ x d h1 h2
  ·cases h1⟩
theorem RepL.get {G:Gx}{ds:List D}(a:RepL G H xs ds) {i:Nat}{d:D}(h:ds[i]?=some d):∃ x,xs[i]?=some x/\Rep G H x d:=by
 have hi:i<ds.length:=(z0m.mp h).1;have hi':i<xs.length:=by rw[a.1];exact hi
 exact⟨xs[i],by simp[hi'],a.2 i _ d (by simp[hi']) h⟩
theorem RepL.atI {G:Gx}{H:Hp}{xs:List V}{ds:List D}(a:RepL G H xs ds) {i:Int}{d:D}(h:L2.atI ds i=some d):∃ x,L2.atI xs i=some x/\Rep G H x d:=by
 unfold L2.atI at h ⊢;rw[<-a.1] at h;cases e:ixN xs.length i with
 | none=>rw[e] at h;cases h
 | some j=>
  rw[e] at h;obtain⟨x,h1,h2⟩:=a.get (show ds[j]?=some d from h);exact⟨x,h1,h2⟩
def hid (A:List Addr) (H:Hp):Hp:=λ b=>if b∈A then none else H b
theorem Ar (s:Same H H'):Same (hid A H) (hid A H'):=λ b o h=>by
 unfold hid at h ⊢;split at h
 ·cases h
 ·rename_i hb;rw[if_neg hb];exact s b o h
theorem Am:Same (hid A H) H:=λ b o h=>by
 unfold hid at h;split at h
 ·cases h
 ·exact h
theorem Cv (h:∀ a∈A,a∈B):Same (hid B H) (hid A H):=λ b o q=>by
 unfold hid at q ⊢;split at q
 ·cases q
 ·rename_i hb;rw[if_neg (λ z=>hb (h b z))];exact q
theorem Av (h:p∉A):hid A H p=H p:=by unfold hid;rw[if_neg h]
theorem Bc (h:p∈A):hid A (upd H p o)=hid A H:=by
 funext b;unfold hid
 by_cases hb:b∈A
 ·rw[if_pos hb,if_pos hb]
 ·rw[if_neg hb,if_neg hb,Al (λ e:b=p=>hb (by rw[e];exact h))]
def Top (G:Gx) (A:List Addr) (H:Hp) (a:Addr):D->Prop
 | .lst ds=>∃ xs,H a=some (.lst xs)/\RepL G (hid A H) xs ds
 | .dk kds=>∃ kvs,H a=some (.dK kvs)/\kvs.map (·.1)=kds.map (·.1)/\RepL G (hid A H) (kvs.map (·.2)) (kds.map (·.2))
 | .dt kds=>∃ kvs,H a=some (.dT kvs)/\kvs.map (·.1)=kds.map (·.1)/\RepL G (hid A H) (kvs.map (·.2)) (kds.map (·.2))
 | .ob c gs=>∃ C dx fs,H a=some (.ins C dx fs)/\(G.cl c=some C/\fs.map (·.1)=gs.map (·.1))/\RepL G (hid A H) (fs.map (·.2)) (gs.map (·.2))
 | _=>False
theorem Top.mono {G:Gx}{A:List Addr}{H H':Hp}{a:Addr}{d:D}(t:Top G A H a d) (s:Same H H'):Top G A H' a d:=by
 cases d with
 | lst ds=>obtain⟨xs,h,r⟩:=t;exact⟨xs,s _ _ h,r.mono (Ar s)⟩
 | dk ds=>obtain⟨xs,h,k,r⟩:=t;exact⟨xs,s _ _ h,k,r.mono (Ar s)⟩
 | dt ds=>obtain⟨xs,h,k,r⟩:=t;exact⟨xs,s _ _ h,k,r.mono (Ar s)⟩
 | ob c gs=>obtain⟨C,dx,xs,h,k,r⟩:=t;exact⟨C,dx,xs,s _ _ h,k,r.mono (Ar s)⟩
 | _=>exact t.elim
structure Nt (x:Option HO):Prop where
 ne:x≠none
 tup:∀ xs,x≠some (.tup xs)
theorem Nt.mono {x y:Option HO}(h:Nt x) (k:∀ u,x=some u->y=some u):Nt y:=by
 cases x with
 | none=>exact absurd rfl h.ne
 | some u=>rw[k u rfl];exact h
theorem Nt.lst {xs:List V}:Nt (some (.lst xs)):=⟨λ z=>(nomatch z),λ _ z=>(nomatch z)⟩
theorem Nt.dK {xs:List (Key×V)}:Nt (some (.dK xs)):=⟨λ z=>(nomatch z),λ _ z=>(nomatch z)⟩
theorem Nt.dT {xs:List (List Key×V)}:Nt (some (.dT xs)):=⟨λ z=>(nomatch z),λ _ z=>(nomatch z)⟩
theorem Nt.ins {C dx:Addr}{xs:List (Str×V)}:Nt (some (.ins C dx xs)):=⟨λ z=>(nomatch z),λ _ z=>(nomatch z)⟩
structure Okp (G:Gx) (A:List Addr) (σ:St) (H:Hp) (ρ:Rho):Prop where
 len:σ.length=ρ.length
 live:∀ a∈A,Nt (H a)
 fz:∀ (i:Nat) (d:D),ρ[i]?=some (.fz d)->∃ v,σ[i]?=some (some v)/\Rep G (hid A H) v d
 ow:∀ (i:Nat) (d:D),ρ[i]?=some (.ow d)->∃ a,σ[i]?=some (some (.ref a))/\a∈A/\Top G A H a d
 inj:∀ (i j:Nat) (d e:D) (a:Addr),ρ[i]?=some (.ow d)->ρ[j]?=some (.ow e)->σ[i]?=some (some (.ref a))->σ[j]?=some (some (.ref a))->i=j
theorem Okp.mono {G:Gx}{A:List Addr}{σ:St}{H H':Hp}{ρ:Rho}(o:Okp G A σ H ρ) (s:Same H H'):Okp G A σ H' ρ:=
 ⟨o.len,λ a ha=>(o.live a ha).mono λ u e=>s _ _ e,
  λ i d h=>let ⟨v,h1,h2⟩:=o.fz i d h;⟨v,h1,h2.mono (Ar s)⟩,λ i d h=>let ⟨a,h1,h2,h3⟩:=o.ow i d h;⟨a,h1,h2,h3.mono s⟩,o.inj⟩
def RepT (G:Gx) (A:List Addr) (H:Hp) (v:V) (d:D):Prop:=Rep G (hid A H) v d∨∃ a,v=.ref a/\Top G A H a d
theorem RepT.mono {G:Gx}{A:List Addr}{H H':Hp}{v:V}{d:D}(r:RepT G A H v d) (s:Same H H'):RepT G A H' v d:=by
 rcases r with r | ⟨a,e,r⟩
 ·exact .inl (r.mono (Ar s))
 ·exact .inr ⟨a,e,r.mono s⟩
theorem RepT.lst {G:Gx}{A:List Addr}{H:Hp}{v:V}{ds:List D}(r:RepT G A H v (.lst ds)):∃ a xs,v=.ref a/\SqL G.K H a xs/\RepL G (hid A H) xs ds:=by
 rcases r with r | ⟨a,e,xs,h,r⟩
 ·cases r with
  | lst h l r=>exact⟨_,_,rfl,Am.seq h,l,r⟩
 ·exact⟨a,xs,e,.of h,r⟩
theorem RepT.tup {G:Gx}{A:List Addr}{H:Hp}{v:V}{ds:List D}(r:RepT G A H v (.tup ds)):∃ a xs,v=.ref a/\SqT G.K H a xs/\RepL G (hid A H) xs ds:=by
 rcases r with r | ⟨a,e,r⟩
 ·cases r with
  | tup h l r=>exact⟨_,_,rfl,Ga Am h,l,r⟩
 ·exact r.elim
theorem RepT.int {G:Gx}{i:Int}(r:RepT G A H v (.int i)):v=.int i:=by
 rcases r with r | ⟨a,e,r⟩
 ·cases r;rfl
 ·exact r.elim
theorem RepT.str {G:Gx}{i:Str}(r:RepT G A H v (.str i)):v=.str i:=by
 rcases r with r | ⟨a,e,r⟩
 ·cases r;rfl
 ·exact r.elim
theorem RepT.bl {G:Gx}{i:Bool}(r:RepT G A H v (.bl i)):v=.bl i:=by
 rcases r with r | ⟨a,e,r⟩
 ·cases r;rfl
 ·exact r.elim
theorem RepT.non {G:Gx}(r:RepT G A H v .non):v=.non:=by
 rcases r with r | ⟨a,e,r⟩
 ·cases r;rfl
 ·exact r.elim
theorem RepT.dk {G:Gx}{A:List Addr}{H:Hp}{v:V}{kds:List (Key×D)}(r:RepT G A H v (.dk kds)):∃ a kvs,v=.ref a/\Rd H a (.dK kvs)/\kvs.map (·.1)=kds.map (·.1)/\RepL G (hid A H) (kvs.map (·.2)) (kds.map (·.2)):=by
 rcases r with r | ⟨a,e,kvs,h,k,r⟩
 ·cases r with
  | dk h k r=>
   refine⟨_,_,rfl,.inr ⟨_,Am _ _ h⟩,k,?_,r⟩;have:=congrArg List.length k;rw[z00,z00] at this ⊢;exact this
 ·exact⟨a,kvs,e,.of h,k,r⟩
theorem R5 (live:∀ a∈A,Nt (H a)) (hp:H p=none) (o:HO):hid A (upd H p o) p=some o:=by
 rw[Av (λ z=>(live p z).ne hp),Ag]
theorem Bs {G:Gx}{ds:List D}(live:∀ a∈A,Nt (H a)) (hp:H p=none) (r:RepL G (hid A H) xs ds):Rep G (hid A (upd H p (.lst xs))) (.ref p) (.lst ds):=
 let q:=r.mono (Ar (Aq hp (.lst xs)));.lst (.of (R5 live hp _)) q.1 q.2
theorem J3 {G:Gx}{ds:List D}(live:∀ a∈A,Nt (H a)) (hp:H p=none) (r:RepL G (hid A H) xs ds):Rep G (hid A (upd H p (.tup xs))) (.ref p) (.tup ds):=
 let q:=r.mono (Ar (Aq hp (.tup xs)));.tup (.of (R5 live hp _)) q.1 q.2
def tF (G:Gx) (A:List Addr) (f:FE):TE:=λ σ H Q=>∃ ρ d,Okp G A σ H ρ/\f ρ=some d/\∀ v H',Same H H'->Rep G (hid A H') v d->Q v H'
def tT (G:Gx) (A:List Addr) (f:FE):TE:=λ σ H Q=>∃ ρ d,Okp G A σ H ρ/\f ρ=some d/\∀ v H',Same H H'->RepT G A H' v d->Q v H'
def PF (X:Cx) (G:Gx) (e:Expr) (f:FE):Prop:=∀ ⦃A⦄,PE X e (tF G A f)
def PU (X:Cx) (G:Gx) (e:Expr) (f:FE):Prop:=∀ ⦃A⦄,PE X e (tT G A f)
theorem CV {t t':TE}(h:PE X e t) (w:∀ σ H Q,t' σ H Q->t σ H Q):PE X e t':=λ π s σ H Q I q=>h π s σ H Q I (w σ H Q q)
theorem PF.pu {G:Gx}{f:FE}(h:PF X G e f):PU X G e f:=λ A=>CV (@h A) λ σ H Q ⟨ρ,d,o,e,k⟩=>⟨ρ,d,o,e,λ v H' s r=>k v H' s (.inl r)⟩
def tFA (G:Gx) (A:List Addr) (f:FA):TA:=λ σ H Q=>∃ ρ ds,Okp G A σ H ρ/\f ρ=some ds/\∀ vs H',Same H H'->RepL G (hid A H') vs ds->Q vs H'
def PFA (X:Cx) (G:Gx) (es:List Expr) (f:FA):Prop:=∀ ⦃A⦄,PA X es (tFA G A f)
theorem lF {e:List Expr}{t t':TA}(h:PA X e t) (w:∀ σ H Q,t' σ H Q->t σ H Q):PA X e t':=λ pos π s σ H Q I q=>h pos π s σ H Q I (w σ H Q q)
def tFT (G:Gx) (A:List Addr) (f:FT):TT:=λ σ H Q=>∃ ρ b,Okp G A σ H ρ/\f ρ=some b/\∀ H',Same H H'->Q b H'
def PFT (X:Cx) (G:Gx) (e:Expr) (f:FT):Prop:=∀ ⦃A⦄,PT X e (tFT G A f)
def PFW (X:Cx) (G:Gx) (e:Expr) (f:FT):Prop:=∀ ⦃A⦄,PW X e (tFT G A f)
theorem Vf {t t':TT}(h:PT X e t) (w:∀ σ H Q,t' σ H Q->t σ H Q):PT X e t':=λ π s σ H Q I q=>h π s σ H Q I (w σ H Q q)
theorem bz {t t':TT}(h:PW X e t) (w:∀ σ H Q,t' σ H Q->t σ H Q):PW X e t':=λ wh π s σ H Q I q=>h wh π s σ H Q I (w σ H Q q)
section
variable {G:Gx}{a b c:Expr}{fa fb fc:FE}
theorem nj (i:Nat) {x:Str}(h:PE X (.Name x pos) (tVar i)):PF X G (.Name x pos) (vF i):=λ A=>CV h λ σ H Q ⟨ρ,d,o,e,k⟩=>by
 unfold vF at e;split at e
 ·rename_i d' h';cases e;obtain⟨v,h1,h2⟩:=o.fz i _ h';exact⟨v,h1,k v H (Same.refl H) h2⟩
 ·cases e
theorem nu (i:Nat) {x:Str}(h:PE X (.Name x pos) (tVar i)):PU X G (.Name x pos) (vU i):=λ A=>CV h λ σ H Q ⟨ρ,d,o,e,k⟩=>by
 unfold vU at e;split at e
 ·rename_i d' h';cases e;obtain⟨v,h1,h2⟩:=o.fz i _ h';exact⟨v,h1,k v H (Same.refl H) (.inl h2)⟩
 ·rename_i d' h';cases e;obtain⟨p,h1,_,h2⟩:=o.ow i _ h';exact⟨.ref p,h1,k _ H (Same.refl H) (.inr ⟨p,rfl,h2⟩)⟩
 ·cases e
theorem Hz {d:D}(h:PE X a (tC v)) (r:Rep G (λ _=>none) v d):PF X G a (kF d):=λ A=>CV h λ σ H Q ⟨ρ,d',o,e,k⟩=>by
 cases e;exact k v H (Same.refl H) (r.mono λ b o z=>nomatch z)
theorem Qi {i j}:PF X G (.Constant (.int i) j pos) (kF (.int i)):=Hz mq (.int i)
theorem Fg {b j}:PF X G (.Constant (.bool b) j pos) (kF (.bl b)):=Hz qH (.bl b)
theorem b_ {j}:PF X G (.Constant .none j pos) (kF .non):=Hz my .non
theorem Ua {x j}:PF X G (.Constant (.str x) j pos) (kF (.str x)):=Hz mz (.str x)
def DY (G:Gx) (r:R2) (g:D->D->Option D):Prop:=∀ (A:List Addr) (H:Hp) (x y:V) (dx dy d:D) (Q:VK),(∀ a∈A,Nt (H a))->RepT G A H x dx->RepT G A H y dy->g dx dy=some d->(∀ v H',Same H H'->Rep G (hid A H') v d->Q v H')->r x y H Q
theorem YQ {g:D->D->Option D}{ρ:Rho}{d:D}(h:bF g fa fb ρ=some d):∃ x y,fa ρ=some x/\fb ρ=some y/\g x y=some d:=by
 unfold bF at h;cases e1:fa ρ with
 | none=>rw[e1] at h;cases h
 | some x=>
  rw[e1] at h;cases e2:fb ρ with
  | none=>simp[e2] at h
  | some y=>simp[e2] at h;exact⟨x,y,rfl,rfl,h⟩
theorem K9 {r:R2}{g:D->D->Option D}(s:DY G r g) {A:List Addr}{σ:St}{H:Hp}{Q:VK}(h:tF G A (bF g fa fb) σ H Q):tOp r (tT G A fa) (tT G A fb) σ H Q:=by
 obtain⟨ρ,d,o,e,k⟩:=h;obtain⟨x,y,e1,e2,e3⟩:=YQ e;exact⟨ρ,x,o,e1,λ v H1 s1 r1=>⟨ρ,y,o.mono s1,e2,λ u H2 s2 r2=>s A H2 v u x y d Q ((o.mono s1).mono s2).live (r1.mono s2) r2 e3 λ w H3 s3 r3=>k w H3 (s1.trans (s2.trans s3)) r3⟩⟩
theorem M8 {op:Operator}{r:R2}{g:D->D->Option D}(ho:OpR X (binaryOp op) r) (s:DY G r g) (ha:PU X G a fa) (hb:PU X G b fb):PF X G (.BinOp a op b pos) (bF g fa fb):=
 λ A=>CV (kW ho (@ha A) (@hb A)) λ _ _ _ h=>K9 s h
theorem cA {op:CmpOp}{r:R2}{g:D->D->Option D}(ho:OpR X (compareOp op) r) (s:DY G r g) (ha:PU X G a fa) (hb:PU X G b fb) (hm:behindInMarks op b=false):PF X G (.Compare a [op] [b] pos) (bF g fa fb):=
 λ A=>CV (Xk ho (@ha A) (@hb A) hm) λ _ _ _ h=>K9 s h
theorem Qj {f:FE}{ρ:Rho}{b:Bool}(h:blF f ρ=some b):f ρ=some (.bl b):=by
 unfold blF at h;split at h
 ·rename_i e;cases h;exact e
 ·cases h
theorem Em {op:CmpOp}{r:R2}{g:D->D->Option D}(ho:OpR X (compareOp op) r) (s:DY G r g) (ha:PU X G a fa) (hb:PU X G b fb) (hm:behindInMarks op b=false):PFT X G (.Compare a [op] [b] pos) (blF (bF g fa fb)):=
 λ A=>Vf (S7 ho (@ha A) (@hb A) hm) λ σ H Q ⟨ρ,d,o,e,k⟩=>K9 s ⟨ρ,.bl d,o,Qj e,λ v H' s' r'=>by cases r';exact⟨d,rfl,k H' s'⟩⟩
theorem Vg {g:Int->Int->Option D}{x y d:D}(h:iiD g x y=some d):∃ i j,x=.int i/\y=.int j/\g i j=some d:=by
 unfold iiD at h;split at h
 ·exact⟨_,_,rfl,rfl,h⟩
 ·cases h
theorem Qk {g:Int->Int->V}{g':Int->Int->D}(e:∀ i j H,Rep G H (g i j) (g' i j)):DY G (rI0 g) (iiD λ i j=>some (g' i j)):=by
 intro A H x y dx dy d Q lv rx ry h k;obtain⟨i,j,rfl,rfl,h⟩:=Vg h;cases h;exact⟨i,j,rx.int,ry.int,k _ H (Same.refl H) (e i j _)⟩
theorem Ub {C:Int->Int->Prop}{g:Int->Int->V}{g':Int->Int->D} [∀ i j,Decidable (C i j)] (e:∀ i j H,Rep G H (g i j) (g' i j)):DY G (rI C g) (iiD λ i j=>if C i j then some (g' i j) else none):=by
 intro A H x y dx dy d Q lv rx ry h k;obtain⟨i,j,rfl,rfl,h'⟩:=Vg h
 by_cases hc:C i j
 ·rw[if_pos hc] at h';cases h';exact⟨i,j,rx.int,ry.int,hc,k _ H (Same.refl H) (e i j _)⟩
 ·rw[if_neg hc] at h';cases h'
theorem iY:DY G (rI0 λ i j=>.int (i-j)) subD:=Qk λ i j H=>.int _
theorem Lk.ok {i j:Int}(h:Lk i j):IntMulOk i j:=by
 rcases h with h | h
 ·exact h.ok
 ·exact IntMulOk.of_le h.1 h.2 (by decide)
theorem iZ:OpR X (binaryOp .Mult) (rI Lk λ i j=>.int (i*j)):=opI λ _ _ _ _ _ _ _ hc q=>mul_int q hc.ok
theorem ie:OpR X (binaryOp .LShift) (rI CShl λ i j=>.int (i*2^j.toNat)):=opI λ i j _ _ _ _ _ hc q=>lshift_int hc.1 (by have h1:=hc.2.1;have h2:=hc.2.2;omega) q
theorem ig:DY G (rI Lk λ i j=>.int (i*j)) mulD:=Ub λ i j H=>.int _
theorem cB:DY G (rI CDiv λ i j=>.int (i/j)) DX:=Ub λ i j H=>.int _
theorem ik:DY G (rI (λ _ j=>0<j) λ i j=>.int (i%j)) modD:=Ub (C:=λ _ j=>0<j) λ i j H=>.int _
theorem ir:DY G (rI CShl λ i j=>.int (i*2^j.toNat)) shlD:=Ub λ i j H=>.int _
theorem n6:DY G (rI0 λ i j=>.bl (decide (i<j))) ltD:=Qk λ i j H=>.bl _
theorem n8:DY G (rI0 λ i j=>.bl (decide (i<=j))) leD:=Qk λ i j H=>.bl _
theorem n_:DY G (rI0 λ i j=>.bl (decide (j<i))) gtD:=Qk λ i j H=>.bl _
theorem oA:DY G (rI0 λ i j=>.bl (decide (j<=i))) geD:=Qk λ i j H=>.bl _
def lG (K:zFr):R2:=λ x y H Q=>∃ l b xs zs,x=.ref l/\y=.ref b/\SqL K H l xs/\SqL K H b zs/\xs.length+zs.length<=sizeLine/\∀ p,H p=none->Q (.ref p) (upd H p (.lst (xs++zs)))
theorem YS:OpR X (binaryOp .Add) (lG X.K):=by
 intro π s σ H x y v u Q I rx ry h;obtain⟨l,b,xs,zs,rfl,rfl,hl,hb,hz,q⟩:=h;cases rx;cases ry;obtain⟨its,r,pl,z⟩:=I.list hl;obtain⟨its2,r2,pl2,z2⟩:=I.list hb;have e1:=r.length;have e2:=r2.length;obtain⟨⟨cls,dd,data,sl⟩,ho,hc,n,hd⟩:=pl.isList;obtain⟨⟨cls2,dd2,data2,sl2⟩,ho2,hc2,n2,hd2⟩:=pl2.isList;simp only at hc hd hc2 hd2;subst hc hd hc2 hd2;refine concat_meets ⟨_,ho,rfl⟩ ⟨_,ho2,rfl⟩ noFill_list_add seq_list_add PySem.F.slot_list_add PySem.F.entry_list_add (PySem.F.args_list_add_2 _ _) (list_addW l b its.toArray its2.toArray n n2 dd dd2 sl sl2 (by rw[z0f,z0f];omega)) ⟨ho,ho2,?_⟩;have ea:its.toArray++its2.toArray=(its++its2).toArray:=by simp
 rw[ea];exact⟨.ref _,_,I.lnew (t':=s.toks) (r.append r2) (by rw[z0j];omega),rfl,q _ I.fresh⟩
def rAdd (K:zFr):R2:=λ x y H Q=>(rI0 λ i j=>.int (i+j)) x y H Q∨((λ x y H Q=>∃ i j,x=.str i/\y=.str j/\i.length+j.length<=sizeLine/\Q (.str (i++j)) H) x y H Q∨lG K x y H Q)
theorem iu:OpR X (binaryOp .Add) (rAdd X.K):=nF.or (Wi.or YS)
theorem iw:DY G (rAdd G.K) addD:=by
 intro A H x y dx dy d Q lv rx ry h k;unfold addD at h;split at h
 ·cases h;exact .inl ⟨_,_,rx.int,ry.int,k _ H (Same.refl H) (.int _)⟩
 ·split at h
  ·rename_i hz;cases h;exact .inr (.inl ⟨_,_,rx.str,ry.str,hz,k _ H (Same.refl H) (.str _)⟩)
  ·cases h
 ·split at h
  ·rename_i hz;cases h;obtain⟨l,xs,rfl,h1,r1⟩:=rx.lst;obtain⟨m,zs,rfl,h2,r2⟩:=ry.lst;exact .inr (.inr ⟨l,m,xs,zs,rfl,rfl,h1,h2,by rw[r1.1,r2.1];exact hz,λ p hp=>k _ _ (Aq hp _) (Bs lv hp (r1.append r2))⟩)
  ·cases h
 ·cases h
theorem oE {op:BoolOp}(h:PF X G a fa):PF X G (.BoolOp op [a] pos) fa:=λ A=>m8 (@h A)
theorem oF {rest:List Expr}(ha:PF X G a fa) (hb:PF X G (.BoolOp .And (b::rest) pos) fb):PF X G (.BoolOp .And (a::b::rest) pos) (andF fa fb):=λ A=>CV (m9 (@ha A) (@hb A)) λ σ H Q ⟨ρ,d,o,e,k⟩=>by
 unfold andF at e;split at e
 ·rename_i e1;refine⟨ρ,_,o,e1,λ v H1 s1 r1=>?_⟩;cases r1;refine⟨true,rfl,?_⟩;rw[if_pos rfl];exact⟨ρ,d,o.mono s1,e,λ v H2 s2 r2=>k v H2 (s1.trans s2) r2⟩
 ·rename_i e1;refine⟨ρ,_,o,e1,λ v H1 s1 r1=>?_⟩;cases r1;refine⟨false,rfl,?_⟩;rw[if_neg z0r];cases e;exact k _ H1 s1 (.bl false)
 ·cases e
variable {ga gb:FT}
theorem PFW.pt (h:PFW X G a ga):PFT X G a ga:=λ A=>(@h A).pt
theorem Eb (h:PFT X G a ga):PFW X G (.BoolOp .And [a] pos) ga:=λ A=>gr (@h A)
theorem Eh (h:PFT X G a ga):PFW X G (.BoolOp .Or [a] pos) ga:=λ A=>aZ (@h A)
theorem Gq {rest:List Expr}(ha:PFT X G a ga) (hb:PFW X G (.BoolOp .And (b::rest) pos) gb):PFW X G (.BoolOp .And (a::b::rest) pos) (andT ga gb):=λ A=>bz (m6 (@ha A) (@hb A)) λ σ H Q ⟨ρ,d,o,e,k⟩=>by
 unfold andT at e;split at e
 ·rename_i e1;exact⟨ρ,_,o,e1,λ H1 s1=>iteT ⟨ρ,d,o.mono s1,e,λ H2 s2=>k H2 (s1.trans s2)⟩⟩
 ·rename_i e1;cases e;exact⟨ρ,_,o,e1,λ H1 s1=>iteF (k H1 s1)⟩
 ·cases e
theorem H_ {rest:List Expr}(ha:PFT X G a ga) (hb:PFW X G (.BoolOp .Or (b::rest) pos) gb):PFW X G (.BoolOp .Or (a::b::rest) pos) (orT ga gb):=λ A=>bz (kO (@ha A) (@hb A)) λ σ H Q ⟨ρ,d,o,e,k⟩=>by
 unfold orT at e;split at e
 ·rename_i e1;cases e;exact⟨ρ,_,o,e1,λ H1 s1=>iteT (k H1 s1)⟩
 ·rename_i e1;exact⟨ρ,_,o,e1,λ H1 s1=>iteF ⟨ρ,d,o.mono s1,e,λ H2 s2=>k H2 (s1.trans s2)⟩⟩
 ·cases e
theorem JT (ha:PFT X G a ga):PFT X G (.UnaryOp .Not a pos) (notT ga):=λ A=>Vf (m7 (@ha A)) λ σ H Q ⟨ρ,d,o,e,k⟩=>by
 unfold notT at e;cases e1:ga ρ with
 | none=>rw[e1] at e;cases e
 | some b=>rw[e1] at e;cases e;exact⟨ρ,b,o,e1,λ H1 s1=>k H1 s1⟩
theorem Oa {α β:Type}{xs:List α}{ys:List β}(h:xs.length=ys.length):xs.isEmpty=ys.isEmpty:=by
 cases xs<;>cases ys<;>simp at h ⊢
theorem Cw (ha:PU X G a fa) (hG:G.K=X.K) (he:∀ whole,isTrue a X.env whole=(do let v <-whole;standAt a.pos;holding [v] (truthy v)):=by intro _;rfl):PFT X G a (λ ρ=>(fa ρ).bind truD):=λ A=>Vf (aq (@ha A) he) λ σ H Q ⟨ρ,b,o,e,k⟩=>by
 cases e1:fa ρ with
 | none=>simp[e1] at e
 | some d=>
  have e':truD d=some b:=by simpa [e1] using e
  refine⟨ρ,d,o,e1,λ v H1 s1 r1=>⟨b,?_,k H1 s1⟩⟩;rw[<-hG];cases d with
  | non=>rw[r1.non];exact (z0e e').symm
  | bl b'=>rw[r1.bl];exact (z0e e').symm
  | int i=>rw[r1.int];exact (z0e e').symm
  | str y=>
   rw[r1.str];simp only[truD] at e';split at e'
   ·rename_i hz;exact⟨hz,(z0e e').symm⟩
   ·cases e'
  | lst ds=>
   obtain⟨p,xs,rfl,h1,h2⟩:=r1.lst;refine .inl ⟨xs,h1,?_⟩;rw[Oa h2.1];exact (z0e e').symm
  | tup ds=>
   obtain⟨p,xs,rfl,h1,h2⟩:=r1.tup;refine .inr (.inl ⟨xs,h1,?_⟩);rw[Oa h2.1];exact (z0e e').symm
  | _=>cases e'
variable {fs:FA}
theorem Ac:PFA X G [] nilA:=λ A=>lF Fi λ σ H Q ⟨ρ,ds,o,e,k⟩=>by cases e;exact k [] H (Same.refl H) RepL.nil
theorem Af (ha:PF X G a fa) (hr:PFA X G es fs) (hs:starEach (a::es) X.env=(false,eval a X.env)::starEach es X.env:=by rfl):PFA X G (a::es) (Aa fa fs):=λ A=>lF (Cu (@ha A) (@hr A) hs) λ σ H Q ⟨ρ,ds,o,e,k⟩=>by
 unfold Aa at e;cases e1:fa ρ with
 | none=>simp[e1] at e
 | some d=>
  cases e2:fs ρ with
  | none=>simp[e1,e2] at e
  | some ds'=>
   simp[e1,e2] at e;subst e;exact⟨ρ,d,o,e1,λ v H1 s1 r1=>⟨ρ,ds',o.mono s1,e2,λ vs H2 s2 r2=>k _ H2 (s1.trans s2) (.cons (r1.mono (Ar s2)) r2)⟩⟩
theorem JV {x1} (h:PFA X G es fs):PF X G (.Tuple es x1 pos) (tupF fs):=λ A=>CV (Wq (@h A)) λ σ H Q ⟨ρ,d,o,e,k⟩=>by
 unfold tupF at e;cases e1:fs ρ with
 | none=>simp[e1] at e
 | some ds=>
  rw[e1] at e;have e':(if ds.length<=sizeLine then some (D.tup ds) else none)=some d:=e;split at e'
  ·rename_i hz;cases e';exact⟨ρ,ds,o,e1,λ vs H1 s1 r1=>⟨by rw[r1.1];exact hz,λ p hp=>k _ _ (s1.trans (Aq hp _)) (J3 (o.mono s1).live hp r1)⟩⟩
  ·cases e'
theorem Ec (h:PFA X G es fs):PF X G (.List es pos) (lstF fs):=λ A=>CV (bB (@h A)) λ σ H Q ⟨ρ,d,o,e,k⟩=>by
 unfold lstF at e;cases e1:fs ρ with
 | none=>simp[e1] at e
 | some ds=>
  rw[e1] at e;have e':(if ds.length<=sizeLine then some (D.lst ds) else none)=some d:=e;split at e'
  ·rename_i hz;cases e';exact⟨ρ,ds,o,e1,λ vs H1 s1 r1=>⟨by rw[r1.1];exact hz,λ p hp=>k _ _ (s1.trans (Aq hp _)) (Bs (o.mono s1).live hp r1)⟩⟩
  ·cases e'
theorem cC:DY G (rIx G.K) ixD:=by
 intro A H x y dx dy d Q lv rx ry h k;unfold ixD at h;split at h
 ·obtain⟨p,xs,rfl,h1,r1⟩:=rx.lst;obtain⟨v,h2,r2⟩:=r1.atI h;exact .inl ⟨p,xs,_,v,rfl,ry.int,h1,h2,k v H (Same.refl H) r2⟩
 ·obtain⟨p,xs,rfl,h1,r1⟩:=rx.tup;obtain⟨v,h2,r2⟩:=r1.atI h;exact .inr (.inl ⟨p,xs,_,v,rfl,ry.int,h1,h2,k v H (Same.refl H) r2⟩)
 ·split at h
  ·rename_i z i hz;cases e:atI z.cps.toList i with
   | none=>rw[e] at h;cases h
   | some c=>
    rw[e] at h;cases h;exact .inr (.inr ⟨z,i,c,rx.str,ry.int,hz,e,k _ H (Same.refl H) (.str _)⟩)
  ·cases h
 ·cases h
theorem ql (hG:G.K=X.K) (ha:PU X G a fa) (hb:PU X G b fb) (hs:Lh b):PF X G (.Subscript a b pos) (bF ixD fa fb):=
 λ A=>CV (km (r:=rIx X.K) bJ (@ha A) (@hb A) hs) λ _ _ _ h=>K9 (by rw[<-hG];exact cC) h
def tFO (G:Gx) (A:List Addr) (f:FO):TO:=λ σ H Q=>∃ ρ o,Okp G A σ H ρ/\f ρ=some o/\∀ H',Same H H'->Q o H'
def PFO (X:Cx) (G:Gx) (e:Option Expr) (f:FO):Prop:=∀ ⦃A⦄,PO X e (tFO G A f)
theorem qm {e:Option Expr}{t t':TO}(h:PO X e t) (w:∀ σ H Q,t' σ H Q->t σ H Q):PO X e t':=λ π s σ H Q I q=>h π s σ H Q I (w σ H Q q)
theorem Ls (h:PU X G a fa):PFO X G (some a) (someO fa):=λ A=>qm (iJ (@h A)) λ σ H Q ⟨ρ,o,ok,e,k⟩=>by
 unfold someO at e;split at e
 ·rename_i i e1;cases e;exact⟨ρ,_,ok,e1,λ v H1 s1 r1=>⟨i,r1.int,k H1 s1⟩⟩
 ·cases e
theorem RepL.cut {ds:List D}(r:RepL G H xs ds) (lo hi:Option Int):RepL G H (cutV xs lo hi) (cutD ds lo hi):=by
 unfold cutV cutD;rw[r.1];exact (r.drop _).take _
end
end PV
theorem L2.Room.unitsW {k:Nat}{A:PySem.Around}(r:L2.Room k A):A.units+190<PySem.cLine:=by have:=r.un;omega
namespace PV
open PySem PySem.Spec L2
open PyProof.Rows hiding St
section
variable {G:Gx}{a b c:Expr}{fa fb fc:FE}{p2:Pos}
section
open Builtin.Str
theorem Vh (n:Nat) (v:Option Int) (d:Nat) (hd:d<=n):(match v with | none=>(d:Int) | some i=>max 0 (min (if i<0 then i+(n:Int) else i) (n:Int)))=(HT.sIx n d v:Int):=by
 cases v with
 | none=>rfl
 | some i=>
  simp only[HT.sIx];split<;>omega
theorem iy (n d:Nat) (v:Option Int) (hd:d<=n):HT.sIx n d v<=n:=by
 cases v with
 | none=>exact hd
 | some i=>simp only[HT.sIx];split<;>omega
theorem Wz (lo hi:Option Int) (n:Nat):strSliceIndices lo hi 1 n=(List.range (HT.sIx n n hi-HT.sIx n 0 lo)).map (λ k=>HT.sIx n 0 lo+k):=by
 have h1:=Vh n lo 0 (z0s _);have h2:=Vh n hi n (z01 _);have hp:((1:Int) > 0):=by decide
 have e:strSliceIndices lo hi 1 n=sliceRange (HT.sIx n 0 lo:Int) (HT.sIx n n hi:Int) 1:=by
  unfold strSliceIndices;simp only[hp,if_true];exact congrFun (congr (congrArg sliceRange h1) h2) 1
 rw[e];unfold sliceRange;simp only[hp,if_true];generalize HT.sIx n 0 lo=a;generalize HT.sIx n n hi=b;have hc:(if (a:Int)<(b:Int) then ((b:Int)-a+1-1)/1 else 0).toNat=b-a:=by
  split
  ·rw[Int.ediv_one];omega
  ·omega
 rw[hc];apply List.map_congr_left;intro k _;omega
theorem Z2 (x:Str) (lo hi:Option Int):Txt.slice x lo hi=cutS x lo hi:=by
 have hb:=iy x.length x.length hi (z01 _);have hn:x.cps.toList.length=x.length:=by simp[Str.length]
 unfold Txt.slice cutS cutD;rw[Wz,hn];generalize HT.sIx x.length 0 lo=a at *;generalize HT.sIx x.length x.length hi=b at *;rw[z00,List.length_range];split
 ·rename_i h;simp only[z0C,z0J] at h;have hab:b-a=x.length:=h.2
  by_cases h0:x.length=0
  ·have:x.cps.toList=[]:=List.length_eq_zero_iff.mp (by omega);cases x with
   | mk c=>
    simp at this;subst this;simp
  ·have ha:a=0:=by omega
   subst ha;have:b=x.length:=by omega
   subst this;rw[List.drop_zero,Nat.sub_zero,List.take_of_length_le (by omega)]
 ·congr 1;apply congrArg;apply List.ext_getElem?;intro i;rw[List.filterMap_map];have key:∀ m,m<=b-a->(List.filterMap ((λ k=>x.cps[k]?) ∘ λ k=>a+k) (List.range m))=((x.cps.toList.drop a).take m):=by
   intro m
   induction m with
   | zero=>intro _;simp
   | succ m ih=>
    intro hm;rw[List.range_succ,List.filterMap_append,ih (by omega)];have hlt:a+m<x.cps.size:=by have:x.length=x.cps.size:=rfl;omega
    rw[List.take_succ_eq_append_getElem (by simp;omega)];simp[hlt]
  rw[key _ (z01 _)]
end
def rSlS:V->Option Int->Option Int->Hp->VK->Prop:=λ x lo hi H Q=>∃ z,x=.str z/\z.length<=sizeLine/\Q (.str (Txt.slice z lo hi)) H
theorem oG:SlR X rSlS:=by
 intro π s σ H x v vl vu lo hi sl Q I rx hs pl pu h;obtain⟨z,rfl,hz,q⟩:=h;obtain⟨t,rfl⟩:=rx;obtain⟨o,e1,e2,e3⟩:=hs;have fin:∀ t' k,EP X π σ Q (.str (Txt.slice z lo hi) t') { s with toks:=k }:=λ t' k=>⟨.str _,H,I.tok _,⟨t',rfl⟩,q⟩;have hl:=z0t (Txt.slice_le z lo hi) hz;refine⟨"str",_,PySem.F.slot_str_getitem.lookup,typeIs_str _ _ _,?_⟩;cases pl with
 | none=>
  cases pu with
  | none=>exact wpAny_getItem_str_slice (l:=none) (u:=none) (st:=none) ⟨o,e1,e2,e3⟩ rfl (post_val_or_str ⟨hl,fin⟩)
  | int j uj=>exact wpAny_getItem_str_slice (l:=none) (u:=some (j,uj)) (st:=none) ⟨o,e1,e2,e3⟩ rfl (post_val_or_str ⟨hl,fin⟩)
 | int i ui=>
  cases pu with
  | none=>exact wpAny_getItem_str_slice (l:=some (i,ui)) (u:=none) (st:=none) ⟨o,e1,e2,e3⟩ rfl (post_val_or_str ⟨hl,fin⟩)
  | int j uj=>exact wpAny_getItem_str_slice (l:=some (i,ui)) (u:=some (j,uj)) (st:=none) ⟨o,e1,e2,e3⟩ rfl (post_val_or_str ⟨hl,fin⟩)
def rSl (K:zFr):V->Option Int->Option Int->Hp->VK->Prop:=λ x lo hi H Q=>rSlL K x lo hi H Q∨(rSlT K x lo hi H Q∨rSlS x lo hi H Q)
theorem oH:SlR X (rSl X.K):=iQ.or (nO.or oG)
theorem Vi {lo hi:Option Expr}{gl gh:FO}(hG:G.K=X.K) (ha:PU X G a fa) (hl:PFO X G lo gl) (hh:PFO X G hi gh):PF X G (.Subscript a (.Slice lo hi none p2) pos) (slF fa gl gh):=λ A=>CV (bI (oH (X:=X)) (@ha A) (@hl A) (@hh A)) λ σ H Q ⟨ρ,d,o,e,k⟩=>by
 unfold slF at e;cases e1:fa ρ with
 | none=>simp[e1] at e
 | some x=>
  cases e2:gl ρ with
  | none=>simp[e1,e2] at e
  | some l=>
   cases e3:gh ρ with
   | none=>simp[e1,e2,e3] at e
   | some h=>
    have e':slD x l h=some d:=by simpa [e1,e2,e3] using e
    refine⟨ρ,x,o,e1,λ v H1 s1 r1=>⟨ρ,l,o.mono s1,e2,λ H2 s2=>⟨ρ,h,(o.mono s1).mono s2,e3,λ H3 s3=>?_⟩⟩⟩;have r3:=(r1.mono s2).mono s3;have o3:=((o.mono s1).mono s2).mono s3;have s0:=s1.trans (s2.trans s3);unfold slD at e';split at e'
    ·cases e';obtain⟨p,xs,rfl,h1,r⟩:=r3.lst;exact .inl ⟨p,xs,rfl,by rw[<-hG];exact h1,λ q hq=>k _ _ (s0.trans (Aq hq _)) (Bs o3.live hq (r.cut _ _))⟩
    ·split at e'
     ·cases e'
     ·rename_i hw;cases e';obtain⟨p,xs,rfl,h1,r⟩:=r3.tup;exact .inr (.inl ⟨p,xs,rfl,by rw[<-hG];exact h1,by rw[r.1];exact hw,λ q hq=>k _ _ (s0.trans (Aq hq _)) (J3 o3.live hq (r.cut _ _))⟩)
    ·split at e'
     ·rename_i hz;cases e';refine .inr (.inr ⟨_,r3.str,hz,?_⟩);rw[Z2];exact k _ _ s0 (.str _)
     ·cases e'
    ·cases e'
theorem Uc {u:V}{d:D}(r:RepT G A H v d) (h:flV d=some u):v=u/\Jm v=true:=by
 cases d with
 | non=>cases h;rw[r.non];exact⟨rfl,rfl⟩
 | bl b=>cases h;rw[r.bl];exact⟨rfl,rfl⟩
 | int b=>cases h;rw[r.int];exact⟨rfl,rfl⟩
 | str b=>cases h;rw[r.str];exact⟨rfl,rfl⟩
 | _=>cases h
theorem Vj {H:Hp}:∀ {ds:List D}{xs us:List V},RepL G H xs ds->flVs ds=some us->xs=us/\xs.all Jm=true
 | [],xs,us,r,h=>by cases h;rw[r.nil_inv];exact⟨rfl,rfl⟩
 | d::ds,xs,us,r,h=>by
  obtain⟨x,ys,rfl,r1,r2⟩:=r.uncons;unfold flVs at h;cases e1:flV d with
  | none=>simp[e1] at h
  | some v=>
   cases e2:flVs ds with
   | none=>simp[e1,e2] at h
   | some vs=>
    simp[e1,e2] at h;subst h;have q:Rep G (hid [] H) x d:=r1.mono λ b o z=>z;obtain⟨z1,z2⟩:=Uc (A:=[]) (.inl q) e1;obtain⟨z3,z4⟩:=Vj r2 e2;subst z1;subst z3;exact⟨rfl,by rw[z1d,z2,z4];rfl⟩
def rInA (K:zFr) (neg:Bool):R2:=λ x y H Q=>rIn K neg x y H Q∨∃ i j,x=.str i/\y=.str j/\Q (.bl (if neg then !(!(Builtin.Str.occurrences j i 0 j.length 1).isEmpty) else !(Builtin.Str.occurrences j i 0 j.length 1).isEmpty)) H
theorem cD:OpR X (compareOp .In) (rInA X.K false):=Zw.or Zq
theorem oJ (neg:Bool):DY G (rInA G.K neg) (inD neg):=by
 intro A H x y dx dy d Q lv rx ry h k;have seq:∀ {ds:List D}{p:Addr}{xs:List V},y=.ref p->(SqL G.K H p xs∨SqT G.K H p xs)->RepL G (hid A H) xs ds->((flV dx).bind λ v=>(flVs ds).map λ vs=>D.bl (if neg then !inV v vs else inV v vs))=some d->rIn G.K neg x y H Q:=λ {ds p xs} ey hq r h=>by
  cases e1:flV dx with
  | none=>simp[e1] at h
  | some v=>
   cases e2:flVs ds with
   | none=>simp[e1,e2] at h
   | some vs=>
    rw[e1,e2] at h;cases h;obtain⟨z1,z2⟩:=Uc rx e1;obtain⟨z3,z4⟩:=Vj r e2;subst z1;subst z3;exact⟨p,xs,ey,hq,z2,z4,k _ H (Same.refl H) (.bl _)⟩
 unfold inD at h;split at h
 ·cases h;exact .inr ⟨_,_,rx.str,ry.str,k _ H (Same.refl H) (.bl _)⟩
 ·obtain⟨p,xs,e,h1,r⟩:=ry.lst;exact .inl (seq e (.inl h1) r h)
 ·obtain⟨p,xs,e,h1,r⟩:=ry.tup;exact .inl (seq e (.inr h1) r h)
 ·cases h
def eAt (f:D->D->Option Bool) (xs ys:List D) (j:Nat):Bool:=match xs[j]?,ys[j]? with | some x,some y=>(f x y).getD false | _,_=>false
theorem M9 {f:D->D->Option Bool}:∀ {xs ys:List D}{b:Bool},allO f xs ys=some b->xs.length=ys.length/\(∀ (j:Nat) x y,xs[j]?=some x->ys[j]?=some y->f x y=some (eAt f xs ys j))/\b=(List.range xs.length).all (eAt f xs ys)
 | [],[],b,h=>by cases h;exact⟨rfl,λ j x y h=>by simp at h,rfl⟩
 | [],_::_,b,h=>by cases h
 | _::_,[],b,h=>by cases h
 | x::xs,y::ys,b,h=>by
  unfold allO at h;split at h
  ·rename_i a c e1 e2;cases h;obtain⟨h1,h2,h3⟩:=M9 e2;refine⟨by simp[h1],λ j u v hu hv=>?_,?_⟩
   ·cases j with
    | zero=>simp at hu hv;subst hu;subst hv;rw[e1];simp[eAt,e1]
    | succ j=>
     have:=h2 j u v (by simpa using hu) (by simpa using hv);rw[this];simp[eAt]
   ·rw[z0B,List.range_succ_eq_map,z1d,List.all_map];have z:eAt f (x::xs) (y::ys) 0=a:=by simp[eAt,e1]
    rw[z,h3];rfl
  ·cases h
theorem cF {u:V}(h:Jm u=true):eqV u u=true:=by
 cases u<;>simp[eqV]<;>cases h
theorem Pu {d:D}{u:V}(r:Rep G H v d) (h:flV d=some u):v=u/\Jm v=true:=Uc (A:=[]) (.inl (r.mono λ b o z=>by rw[Av List.not_mem_nil];exact z)) h
section
theorem Vk (I:Inv X π σ H s) (hG:G.K=X.K):∀ (n:Nat) {x y:D}{v:V}{b:Bool},eqK n x y=some b->Rep G H v x->Rep G H v y->b=true:=by
 have flat:∀ {x y:D}{v:V}{b:Bool},flD x y=some b->Rep G H v x->Rep G H v y->b=true:=λ {x y v b} h rx ry=>by
  unfold flD at h;cases e1:flV x with
  | none=>simp[e1] at h
  | some u=>
   cases e2:flV y with
   | none=>simp[e1,e2] at h
   | some w=>
    simp[e1,e2] at h;obtain⟨z1,z2⟩:=Pu rx e1;obtain⟨z3,_⟩:=Pu ry e2;rw[<-h,<-z1,<-z3];exact cF z2
 intro n
 induction n with
 | zero=>intro x y v b h rx ry;exact flat h rx ry
 | succ n ih=>
  have items:∀ {xs:List V}{ds es:List D}{b:Bool},allO (eqK n) ds es=some b->RepL G H xs ds->RepL G H xs es->b=true:=λ {xs ds es b} h r1 r2=>by
   obtain⟨h1,h2,h3⟩:=M9 h;rw[h3,z0x];intro j hj;have hj':j<ds.length:=z0o.mp hj;have hx:xs[j]?=some (xs[j]'(by rw[r1.1];exact hj')):=by simp[r1.1,hj']
   have hd:ds[j]?=some ds[j]:=by simp[hj']
   have he:es[j]?=some (es[j]'(by omega)):=z06 (by omega);exact ih (h2 j _ _ hd he) (r1.2 j _ _ hx hd) (r2.2 j _ _ hx he)
  intro x y v b h rx ry;unfold eqK eqS at h;split at h
  ·split at h
   ·cases rx with
    | lst h1 l1 r1=>
     cases ry with
     | lst h2 l2 r2=>
      have e:=I.list_inj (by rw[<-hG];exact h1) (by rw[<-hG];exact h2);subst e;exact items h ⟨l1,r1⟩ ⟨l2,r2⟩
   ·rename_i hne;cases rx with
    | lst h1 l1 r1=>
     cases ry with
     | lst h2 l2 r2=>
      have e:=I.list_inj (by rw[<-hG];exact h1) (by rw[<-hG];exact h2);subst e;exact absurd (l1.symm.trans l2) hne
  ·split at h
   ·cases rx with
    | tup h1 l1 r1=>
     cases ry with
     | tup h2 l2 r2=>
      have e:=I.tuple_inj (by rw[<-hG];exact h1) (by rw[<-hG];exact h2);subst e;exact items h ⟨l1,r1⟩ ⟨l2,r2⟩
   ·cases h
  ·exact flat h rx ry
theorem Ir {A:Around}{ds es:List D}{b:Bool}{jts:List Value}(ih:∀ {x y:D}{v w:V}{u1 u2:Value}{b:Bool},eqK n x y=some b->Rep G H v x->Rep G H w y->RelV v u1->RelV w u2->SeqAt.EqAt A s u1 u2 b)
  (h:allO (eqK n) ds es=some b) (r1:RepL G H xs ds) (r2:RepL G H ys es) (v1:Vals xs its) (v2:Vals ys jts) :
  its.toArray.size=jts.toArray.size/\b=(List.range its.toArray.size).all (eAt (eqK n) ds es)/\∀ j (h1:j<its.toArray.size) (h2:j<jts.toArray.size),SeqAt.EqAt A s its.toArray[j] jts.toArray[j] (eAt (eqK n) ds es j):=by
 obtain⟨h1,h2,h3⟩:=M9 h;have l1:=v1.length;have l2:=v2.length;have q1:=r1.1;have q2:=r2.1;have z1:its.toArray.size=ds.length:=by rw[z0f];omega
 refine⟨by rw[z0f,z0f];omega,by rw[z1];exact h3,λ j j1 j2=>?_⟩;rw[z0f] at j1 j2;have jx:j<xs.length:=by omega
 have jy:j<ys.length:=by omega
 have hx:xs[j]?=some xs[j]:=by simp[jx]
 have hy:ys[j]?=some ys[j]:=by simp[jy]
 have hd:ds[j]?=some (ds[j]'(by omega)):=z06 (by omega);have he:es[j]?=some (es[j]'(by omega)):=z06 (by omega);obtain⟨u,eu,ru⟩:=v1.get hx;obtain⟨w,ew,rw'⟩:=v2.get hy;have a1:its.toArray[j]=u:=by simpa [z06 j1] using eu
 have a2:jts.toArray[j]=w:=by simpa [z06 j2] using ew
 rw[a1,a2];exact ih (h2 j _ _ hd he) (r1.2 j _ _ hx hd) (r2.2 j _ _ hy he) ru rw'
theorem Ud {ds es:List D}{jts:List Value}(h:ds.length≠es.length) (r1:RepL G H xs ds) (r2:RepL G H ys es) (v1:Vals xs its) (v2:Vals ys jts):(its.toArray.size != jts.toArray.size)=true:=by
 have l1:=v1.length;have l2:=v2.length;have q1:=r1.1;have q2:=r2.1;rw[z0f,z0f];exact bne_iff_ne.mpr (by omega)
theorem K_ (I:Inv X π σ H s) (hG:G.K=X.K):∀ (n:Nat) (A:Around),A.units+n<cLine->∀ {x y:D}{v w:V}{u1 u2:Value}{b:Bool},eqK n x y=some b->Rep G H v x->Rep G H w y->RelV v u1->RelV w u2->SeqAt.EqAt A s u1 u2 b:=by
 have flat:∀ {A:Around}{x y:D}{v w:V}{u1 u2:Value}{b:Bool},flD x y=some b->Rep G H v x->Rep G H w y->RelV v u1->RelV w u2->SeqAt.EqAt A s u1 u2 b:=λ {A x y v w u1 u2 b} h rx ry q1 q2=>by
  unfold flD at h;cases e1:flV x with
  | none=>simp[e1] at h
  | some u=>
   cases e2:flV y with
   | none=>simp[e1,e2] at h
   | some w=>
    simp[e1,e2] at h;obtain⟨z1,z2⟩:=Pu rx e1;obtain⟨z3,z4⟩:=Pu ry e2;rw[<-h,<-z1,<-z3];exact bK q1 q2 z2 z4
 intro n
 induction n with
 | zero=>intro A hu x y v w u1 u2 b h rx ry q1 q2;exact flat h rx ry q1 q2
 | succ n ih=>
  intro A hu x y v w u1 u2 b h rx ry q1 q2;have h':=h;have hu1:A.in1.units+n<cLine:=by show A.units+1+n<cLine;omega
  have hu0:A.units<cLine:=by omega
  unfold eqK eqS at h;split at h
  ·cases rx with
   | @lst a _ _ h1 l1 r1=>
    cases ry with
    | @lst c _ _ h2 l2 r2=>
     obtain rfl:u1=.ref a:=q1;obtain rfl:u2=.ref c:=q2;obtain⟨its,v1,p1,_⟩:=I.list (by rw[<-hG];exact h1);obtain⟨jts,v2,p2,_⟩:=I.list (by rw[<-hG];exact h2)
     by_cases hac:a=c
     ·subst hac;have:=Vk I hG (n+1) h' (.lst h1 l1 r1) (.lst h2 l2 r2);subst this;exact SeqAt.EqAt.same _
     ·split at h
      ·obtain⟨z1,z2,z3⟩:=Ir (λ q=>ih A.in1 hu1 q) h ⟨l1,r1⟩ ⟨l2,r2⟩ v1 v2;rw[z2];exact SeqAt.EqAt.of_refs hac (SeqAt.RcAt.lists p1.isList p2.isList z1 hu0 z3)
      ·rename_i hne;cases h;exact SeqAt.EqAt.of_refs hac (SeqAt.RcAt.lists_lengths p1.isList p2.isList (Ud hne ⟨l1,r1⟩ ⟨l2,r2⟩ v1 v2) hu0)
  ·cases rx with
   | @tup a _ _ h1 l1 r1=>
    cases ry with
    | @tup c _ _ h2 l2 r2=>
     obtain rfl:u1=.ref a:=q1;obtain rfl:u2=.ref c:=q2;obtain⟨its,v1,p1,_⟩:=I.tuple (by rw[<-hG];exact h1);obtain⟨jts,v2,p2,_⟩:=I.tuple (by rw[<-hG];exact h2)
     by_cases hac:a=c
     ·subst hac;have:=Vk I hG (n+1) h' (.tup h1 l1 r1) (.tup h2 l2 r2);subst this;exact SeqAt.EqAt.same _
     ·split at h
      ·obtain⟨z1,z2,z3⟩:=Ir (λ q=>ih A.in1 hu1 q) h ⟨l1,r1⟩ ⟨l2,r2⟩ v1 v2;have q:=SeqAt.RcAt.tuples (show s.heap.IsTuple a its.toArray from p1) (show s.heap.IsTuple c jts.toArray from p2) hu0 z3;rw[z1,Nat.min_self,z1k,Bool.and_true,<-z1,<-z2] at q;exact SeqAt.EqAt.of_refs hac q
      ·cases h
  ·exact flat h rx ry q1 q2
end
def rEqP (G:Gx) (neg:Bool):R2:=λ x y H Q=>∃ (A:List Addr) (ds es:List D) (b:Bool),eqvD (.lst ds) (.lst es)=some b/\((RepT G A H x (.lst ds)/\RepT G A H y (.lst es))∨(ds.length=es.length/\RepT G A H x (.tup ds)/\RepT G A H y (.tup es)))/\Q (.bl (if neg then !b else b)) H
theorem oK (hG:G.K=X.K) (hu:X.A.units+190<cLine):OpR X (compareOp .Eq) (rEqP G false):=by
 intro π s σ H x y v u Q I rx ry h;obtain⟨A,ds,es,b,e,hr,k⟩:=h;have fin:EP X π σ Q (.bool b) s:=⟨.bl b,H,I,rfl,k⟩;simp only[eqvD] at e
 rcases hr with ⟨r1,r2⟩ | ⟨hl,r1,r2⟩
 ·obtain⟨a,xs,rfl,h1,q1⟩:=r1.lst;obtain⟨c,ys,rfl,h2,q2⟩:=r2.lst;cases rx;cases ry;obtain⟨its,v1,p1,_⟩:=I.list (by rw[<-hG];exact h1);obtain⟨jts,v2,p2,_⟩:=I.list (by rw[<-hG];exact h2);split at e
  ·obtain⟨z1,z2,z3⟩:=Ir (λ q=>K_ I hG 180 X.A.in1 (by show X.A.units+1+180<cLine;omega) q) e (q1.mono Am) (q2.mono Am) v1 v2;exact SeqAt.RcAt.lists p1.isList p2.isList z1 (by omega) z3 _ _ _ _ (by rw[<-z2];exact fin)
  ·rename_i hne;cases e;exact SeqAt.RcAt.lists_lengths p1.isList p2.isList (Ud hne q1 q2 v1 v2) (by omega) _ _ _ _ fin
 ·obtain⟨a,xs,rfl,h1,q1⟩:=r1.tup;obtain⟨c,ys,rfl,h2,q2⟩:=r2.tup;cases rx;cases ry;obtain⟨its,v1,p1,_⟩:=I.tuple (by rw[<-hG];exact h1);obtain⟨jts,v2,p2,_⟩:=I.tuple (by rw[<-hG];exact h2);rw[if_pos hl] at e;obtain⟨z1,z2,z3⟩:=Ir (λ q=>K_ I hG 180 X.A.in1 (by show X.A.units+1+180<cLine;omega) q) e (q1.mono Am) (q2.mono Am) v1 v2;have q:=SeqAt.RcAt.tuples (show s.heap.IsTuple a its.toArray from p1) (show s.heap.IsTuple c jts.toArray from p2) (by omega) z3;rw[z1,Nat.min_self,z1k,Bool.and_true,<-z1,<-z2] at q;exact q _ _ _ _ fin
theorem oN (hG:G.K=X.K) (hu:X.A.units+190<cLine):OpR X (compareOp .NotEq) (rEqP G true):=by
 intro π s σ H x y v u Q I rx ry h;obtain⟨A,ds,es,b,e,hr,k⟩:=h;have fin:EP X π σ Q (.bool (!b)) s:=⟨.bl (!b),H,I,rfl,k⟩;simp only[eqvD] at e
 rcases hr with ⟨r1,r2⟩ | ⟨hl,r1,r2⟩
 ·obtain⟨a,xs,rfl,h1,q1⟩:=r1.lst;obtain⟨c,ys,rfl,h2,q2⟩:=r2.lst;cases rx;cases ry;obtain⟨its,v1,p1,_⟩:=I.list (by rw[<-hG];exact h1);obtain⟨jts,v2,p2,_⟩:=I.list (by rw[<-hG];exact h2);split at e
  ·obtain⟨z1,z2,z3⟩:=Ir (λ q=>K_ I hG 180 X.A.in1 (by show X.A.units+1+180<cLine;omega) q) e (q1.mono Am) (q2.mono Am) v1 v2;exact SeqAt.RcNeAt.lists p1.isList p2.isList z1 (by omega) z3 _ _ _ _ (by rw[<-z2];exact fin)
  ·rename_i hne;cases e;exact SeqAt.RcNeAt.lists_lengths p1.isList p2.isList (Ud hne q1 q2 v1 v2) (by omega) _ _ _ _ fin
 ·obtain⟨a,xs,rfl,h1,q1⟩:=r1.tup;obtain⟨c,ys,rfl,h2,q2⟩:=r2.tup;cases rx;cases ry;obtain⟨its,v1,p1,_⟩:=I.tuple (by rw[<-hG];exact h1);obtain⟨jts,v2,p2,_⟩:=I.tuple (by rw[<-hG];exact h2);rw[if_pos hl] at e;obtain⟨z1,z2,z3⟩:=Ir (λ q=>K_ I hG 180 X.A.in1 (by show X.A.units+1+180<cLine;omega) q) e (q1.mono Am) (q2.mono Am) v1 v2;have q:=SeqAt.RcNeAt.tuples (show s.heap.IsTuple a its.toArray from p1) (show s.heap.IsTuple c jts.toArray from p2) (by omega) z3;rw[z1,Nat.min_self,z1k,Bool.and_true,<-z1,<-z2] at q;exact q _ _ _ _ fin
def rEqA (G:Gx) (neg:Bool):R2:=λ x y H Q=>(λ x y H Q=>scal x y=true/\Q (.bl (if neg then !decide (x=y) else decide (x=y))) H) x y H Q∨rEqP G neg x y H Q
theorem W0 (hG:G.K=X.K) (hu:X.A.units+190<cLine):OpR X (compareOp .Eq) (rEqA G false):=qP.or (oK hG hu)
theorem W2 (hG:G.K=X.K) (hu:X.A.units+190<cLine):OpR X (compareOp .NotEq) (rEqA G true):=qQ.or (oN hG hu)
theorem Ue {α β:Type} [DecidableEq α] [DecidableEq β] {f:α->β}(h:∀ a b,f a=f b->a=b) (a b:α):decide (f a=f b)=decide (a=b):=by
 by_cases e:a=b
 ·subst e;simp
 ·rw[z0a e,z0a λ z=>e (h a b z)]
theorem M_ (neg:Bool):DY G (rEqA G neg) (eqD neg):=by
 intro A H x y dx dy d Q lv rx ry h k;unfold eqD at h;cases e:eqvD dx dy with
 | none=>simp[e] at h
 | some b=>
  simp only[e,z0E] at h;cases h;unfold eqvD at e;split at e
  ·cases e;rw[rx.int,ry.int];refine .inl ⟨rfl,?_⟩;rw[Ue (f:=V.int) (λ a b z=>by cases z;rfl)];exact k _ H (Same.refl H) (.bl _)
  ·cases e;rw[rx.str,ry.str];refine .inl ⟨rfl,?_⟩;rw[Ue (f:=V.str) (λ a b z=>by cases z;rfl)];exact k _ H (Same.refl H) (.bl _)
  ·cases e;rw[rx.bl,ry.bl];refine .inl ⟨rfl,?_⟩;rw[Ue (f:=V.bl) (λ a b z=>by cases z;rfl)];exact k _ H (Same.refl H) (.bl _)
  ·exact .inr ⟨A,_,_,b,e,.inl ⟨rx,ry⟩,k _ H (Same.refl H) (.bl _)⟩
  ·split at e
   ·rename_i hl;exact .inr ⟨A,_,_,b,(by simp only[eqvD];rw[if_pos hl];exact e),.inr ⟨hl,rx,ry⟩,k _ H (Same.refl H) (.bl _)⟩
   ·cases e
  ·cases e
def SndC (G:Gx) (r:List V->Hp->VK->Prop) (g:D->Option D):Prop:=∀ (A:List Addr) (H:Hp) (x:V) (dx d:D) (Q:VK),(∀ a∈A,Nt (H a))->RepT G A H x dx->g dx=some d->(∀ v H',Same H H'->Rep G (hid A H') v d->Q v H')->r [x] H Q
theorem JW {g:D->Option D}{ρ:Rho}{d:D}(h:uF g fa ρ=some d):∃ x,fa ρ=some x/\g x=some d:=by
 unfold uF at h;cases e:fa ρ with
 | none=>simp[e] at h
 | some x=>exact⟨x,rfl,by simpa [e] using h⟩
theorem cG {g:D->Option D}(s:SndC G r g) {A:List Addr}{σ:St}{H:Hp}{Q:VK}(h:tF G A (uF g fa) σ H Q):tCB r (kZ (tT G A fa) tNil) σ H Q:=by
 obtain⟨ρ,d,o,e,k⟩:=h;obtain⟨x,e1,e2⟩:=JW e;exact⟨ρ,x,o,e1,λ v H1 s1 r1=>s A H1 v x d Q (o.mono s1).live r1 e2 λ w H2 s2 r2=>k w H2 (s1.trans s2) r2⟩
theorem Ax {x:Str}{p:Pos}{id:String}{g:D->Option D}(hc:Do X (.builtin id) r) (s:SndC G r g) (hg:Gl X x) (hm:X.mg x=none) (hv:bootBuiltins x=some (.builtin id)) (ha:PU X G a fa)
  (hn:x≠"__name__":=by decide) (hdb:(x==("__debug__":Str))=false:=by decide) (he:starEach [a] X.env=[(false,eval a X.env)]:=by rfl):PF X G (.Call (.Name x p) [a] [] pos) (uF g fa):=
 λ A=>CV (VP hc hg hm hv (Cu (@ha A) Fi he) hn hdb he rfl) λ _ _ _ h=>cG s h
theorem Fo {x:Str}{p:Pos}{T:String}{g:D->Option D}(hc:Do X (.type T) r) (s:SndC G r g) (hg:Gl X x) (hm:X.mg x=none) (hv:bootBuiltins x=some (.type T)) (ha:PU X G a fa)
  (hn:x≠"__name__":=by decide) (hdb:(x==("__debug__":Str))=false:=by decide) (he:starEach [a] X.env=[(false,eval a X.env)]:=by rfl):PF X G (.Call (.Name x p) [a] [] pos) (uF g fa):=
 λ A=>CV (Kc hc hg hm hv (Cu (@ha A) Fi he) hn hdb he rfl) λ _ _ _ h=>cG s h
theorem Px:SndC G (λ xs H Q=>∃ x n,xs=[x]/\LenV G.K x H n/\Q (.int n) H) lenD:=by
 intro A H x dx d Q lv rx h k;unfold lenD at h;split at h
 ·split at h
  ·rename_i hz;cases h;rw[rx.str];exact⟨_,_,rfl,⟨hz,rfl⟩,k _ H (Same.refl H) (.int _)⟩
  ·cases h
 ·cases h;obtain⟨p,xs,rfl,h1,r⟩:=rx.lst;exact⟨_,_,rfl,.inl ⟨xs,h1,rfl⟩,by rw[r.1];exact k _ H (Same.refl H) (.int _)⟩
 ·cases h;obtain⟨p,xs,rfl,h1,r⟩:=rx.tup;exact⟨_,_,rfl,.inr ⟨xs,h1,rfl⟩,by rw[r.1];exact k _ H (Same.refl H) (.int _)⟩
 ·cases h
theorem BW (hG:G.K=X.K):Do X (.builtin "len") (λ xs H Q=>∃ x n,xs=[x]/\LenV G.K x H n/\Q (.int n) H):=by rw[hG];exact au
theorem cH:SndC G (λ xs H Q=>∃ p ys,xs=[.ref p]/\(SqL G.K H p ys∨SqT G.K H p ys)/\∀ l,H l=none->Q (.ref l) (upd H l (.lst ys))) bY:=by
 intro A H x dx d Q lv rx h k;unfold bY at h;split at h
 ·cases h;obtain⟨p,xs,rfl,h1,r⟩:=rx.lst;exact⟨p,xs,rfl,.inl h1,λ l hl=>k _ _ (Aq hl _) (Bs lv hl r)⟩
 ·cases h;obtain⟨p,xs,rfl,h1,r⟩:=rx.tup;exact⟨p,xs,rfl,.inr h1,λ l hl=>k _ _ (Aq hl _) (Bs lv hl r)⟩
 ·cases h
theorem YT:SndC G (λ xs H Q=>(∃ i,xs=[.int i]/\Q (.int i) H)∨∃ k,xs=[.bl k]/\Q (.int (if k then 1 else 0)) H) intD:=by
 intro A H x dx d Q lv rx h k;unfold intD at h;split at h
 ·cases h;exact .inl ⟨_,by rw[rx.int],k _ H (Same.refl H) (.int _)⟩
 ·cases h;exact .inr ⟨_,by rw[rx.bl],k _ H (Same.refl H) (.int _)⟩
 ·cases h
end
def lH (G:Gx) (F2 H H':Hp) (x:V) (d:D):Prop:=Same H H'/\∀ B:List Addr,(∀ a∈B,Nt (H a))->Same F2 (hid B H)->Rep G (hid B H') x d
theorem NB {G:Gx}{x:V}{d:D}(h:H'=H/\Rep G F2 x d):lH G F2 H H' x d:=by
 obtain⟨rfl,r⟩:=h;exact⟨Same.refl _,λ B _ sm=>r.mono sm⟩
structure Src (G:Gx) (J:It) (ds:List D) (F1 F2:Hp):Prop where
 go:∀ i H,Same F1 H->i<ds.length->J.go i H
 yld:∀ i H x H' d,Same F1 H->ds[i]?=some d->J.yld i H x H'->lH G F2 H H' x d
 stop:∀ i H,Same F1 H->ds.length<=i->J.stop i H
def tI (G:Gx) (A:List Addr) (top:Bool) (f:FI):TI:=λ σ H R=>∃ ρ ds,Okp G A σ H ρ/\f ρ=some ds/\∀ J H1,Same H H1->Src G J ds (if top then H1 else hid A H1) (hid A H1)->R J H1
def PFI (X:Cx) (G:Gx) (top:Bool) (tg e:Expr) (f:FI):Prop:=∀ ⦃A⦄,PI X tg e (tI G A top f)
theorem Ql {t t':TI}(h:PI X tg e t) (w:∀ σ H Q,t' σ H Q->t σ H Q):PI X tg e t':=λ π s σ H Q I q=>h π s σ H Q I (w σ H Q q)
theorem piOr {t t':TI}(h:PI X tg e t) (h':PI X tg e t'):PI X tg e (λ σ H R=>t σ H R∨t' σ H R):=λ π s σ H Q I q=>by
 rcases q with q | q
 ·exact h π s σ H Q I q
 ·exact h' π s σ H Q I q
section
variable {G:Gx}{a b c:Expr}{fa fb fc:FE}{p2:Pos}
theorem iz {ds:List D}(h:SqT G.K F1 p xs) (r:RepL G F2 xs ds):Src G (Itt G.K p) ds F1 F2 where
 go:=λ i H s hi=>⟨xs,xs[i]'(by rw[r.1];exact hi),Ga s h,by simp[r.1,hi]⟩
 yld:=λ i H x H' d s hd y=>NB ⟨y.1,r.2 i x d (y.2 xs (Ga s h)) hd⟩
 stop:=λ i H s hi=>⟨xs,Ga s h,by rw[r.1];exact hi⟩
theorem i_ (hG:G.K=X.K) (h:PF X G a fa):PFI X G false tg a (seqI fa):=λ A=>Ql (piOr (g8 (@h A)) (nD (@h A))) λ σ H R ⟨ρ,ds,o,e,k⟩=>by
 unfold seqI at e;split at e
 ·rename_i ds' e1;cases e;refine .inl ⟨ρ,_,o,e1,λ v H1 s1 r1=>?_⟩;cases r1 with
  | lst h l r=>exact⟨_,rfl,⟨_,by rw[<-hG];exact Am.seq h⟩,by rw[<-hG];exact k _ H1 s1 { go:=λ i H s hi=>⟨_,_,s.seq h,by simp[l,hi];rfl⟩,yld:=λ i H x H' d s hd y=>NB ⟨y.1,r i x d (y.2 _ (s.seq h)) hd⟩,stop:=λ i H s hi=>⟨_,s.seq h,by rw[l];exact hi⟩ }⟩
 ·rename_i ds' e1;cases e;refine .inr ⟨ρ,_,o,e1,λ v H1 s1 r1=>?_⟩;cases r1 with
  | tup h l r=>exact⟨_,rfl,⟨_,by rw[<-hG];exact Ga Am h⟩,by rw[<-hG];exact k _ H1 s1 (iz h ⟨l,r⟩)⟩
 ·cases e
theorem cI {d:D}(h:(rngD n)[i]?=some d):d=.int i:=by
 unfold rngD at h;rw[z04] at h;cases e:(List.range n)[i]? with
 | none=>rw[e] at h;cases h
 | some j=>
  rw[e] at h;have:=(z0m.mp e);obtain⟨hi,ej⟩:=this;rw[List.getElem_range] at ej;subst ej;exact (z0e h).symm
theorem jA:Src G (Itr 0 n) (rngD n) F1 F2 where
 go:=λ i H s hi=>by unfold rngD at hi;show i<n;simpa using hi
 yld:=λ i H x H' d s hd y=>by
  obtain⟨y1,y2⟩:=y;rw[cI hd,y2,Int.zero_add];exact NB ⟨y1,.int _⟩
 stop:=λ i H s hi=>by unfold rngD at hi;show n<=i;simpa using hi
theorem Dt {top:Bool}{p:Pos}(hg:Gl X "range") (hm:X.mg "range"=none) (h:PU X G a fa) (hs:starEach [a] X.env=[(false,eval a X.env)]:=by rfl):PFI X G top tg (.Call (.Name "range" p) [a] [] pos) (rngI fa):=λ A=>Ql (Zn hg hm (Cu (@h A) Fi hs) hs) λ σ H R ⟨ρ,ds,o,e,k⟩=>by
 unfold rngI at e;split at e
 ·rename_i j e1;split at e
  ·rename_i hj;cases e;exact⟨ρ,_,o,e1,λ v H1 s1 r1=>⟨j,by rw[r1.int],hj.1,hj.2,k _ H1 s1 jA⟩⟩
  ·cases e
 ·cases e
end
structure OkW (G:Gx) (A0:List Addr) (He:Hp) (A:List Addr) (σ:St) (H:Hp) (ρ:Rho):Prop where
 same:Same He H
 sub:∀ a∈A0,a∈A
 fr:∀ a∈A,a∈A0∨He a=none
 l0:∀ a∈A0,He a≠none
 ok:Okp G A σ H ρ
 ow0:∀ (i:Nat) (d:D) (a:Addr),ρ[i]?=some (.ow d)->σ[i]?=some (some (.ref a))->a∉A0
 lt:∀ (x:Addr) (d:D),G.lent=some x->ρ[0]?=some (.ow d)->σ[0]?=some (some (.ref x))
def OkS (G:Gx) (A0:List Addr) (He:Hp) (σ:St) (H:Hp) (ρ:Rho):Prop:=∃ A,OkW G A0 He A σ H ρ
def Ob (G:Gx) (A0:List Addr) (He:Hp) (D:Ends):Out->Prop
 | .nx ρ=>∀ σ H,OkS G A0 He σ H ρ->D.nx σ H
 | .rt d ρ=>∀ v σ H A,OkW G A0 He A σ H ρ->Rep G (hid A H) v d->D.rt v H
 | .bk ρ=>∀ σ H,OkS G A0 He σ H ρ->D.bk σ H
 | .ct ρ=>∀ σ H,OkS G A0 He σ H ρ->D.ct σ H
def tS (G:Gx) (A0:List Addr) (He:Hp) (g:FS):TS:=λ D σ H=>∃ ρ o,OkS G A0 He σ H ρ/\g ρ=some o/\Ob G A0 He D o
def PSD (X:Cx) (G:Gx) (st:Stmt) (g:FS):Prop:=∀ ⦃A0⦄ He,PS X st (tS G A0 He g)
def PSDs (X:Cx) (G:Gx) (st:List Stmt) (g:FS):Prop:=∀ ⦃A0⦄ He,PSs X st (tS G A0 He g)
theorem Okp.set {G:Gx}{A:List Addr}{σ:St}{H:Hp}{ρ:Rho}{v:V}{d:D}(o:Okp G A σ H ρ) (r:Rep G (hid A H) v d) (i:Nat):Okp G A (σ.set i (some v)) H (ρ.set i (.fz d)):=by
 have key:∀ (j:Nat) (z:Slot),(ρ.set i (.fz d))[j]?=some z->(j=i/\z=.fz d/\i<ρ.length)∨(j≠i/\ρ[j]?=some z):=λ j z h=>by
  by_cases hj:j=i
  ·subst hj
   by_cases hl:j<ρ.length
   ·rw[z10 hl] at h;exact .inl ⟨rfl,(z0e h).symm,hl⟩
   ·rw[z19 (by simpa using z0Z.mp hl)] at h;cases h
  ·rw[z0D (Ne.symm hj)] at h;exact .inr ⟨hj,h⟩
 have keyS:∀ (j:Nat),j≠i->(σ.set i (some v))[j]?=σ[j]?:=λ j hj=>z0D (Ne.symm hj);refine⟨by rw[z13,z13];exact o.len,o.live,λ j e h=>?_,λ j e h=>?_,λ j k e f p h1 h2 h3 h4=>?_⟩
 ·rcases key j _ h with ⟨hj,hz,hl⟩ | ⟨hj,hz⟩
  ·cases hz;subst hj;exact⟨v,by rw[z10 (by rw[o.len];exact hl)],r⟩
  ·obtain⟨u,q1,q2⟩:=o.fz j e hz;exact⟨u,by rw[keyS j hj];exact q1,q2⟩
 ·rcases key j _ h with ⟨hj,hz,hl⟩ | ⟨hj,hz⟩
  ·cases hz
  ·obtain⟨u,q1,q2⟩:=o.ow j e hz;exact⟨u,by rw[keyS j hj];exact q1,q2⟩
 ·rcases key j _ h1 with ⟨_,hz,_⟩ | ⟨hj,hz⟩
  ·cases hz
  ·rcases key k _ h2 with ⟨_,hz',_⟩ | ⟨hk,hz'⟩
   ·cases hz'
   ·rw[keyS j hj] at h3;rw[keyS k hk] at h4;exact o.inj j k e f p hz hz' h3 h4
theorem OkW.mono {G:Gx}{A0:List Addr}{He:Hp}{A:List Addr}{σ:St}{H H':Hp}{ρ:Rho}(o:OkW G A0 He A σ H ρ) (s:Same H H'):OkW G A0 He A σ H' ρ:=⟨o.same.trans s,o.sub,o.fr,o.l0,o.ok.mono s,o.ow0,o.lt⟩
theorem OkW.set {G:Gx}{A0:List Addr}{He:Hp}{A:List Addr}{σ:St}{H:Hp}{ρ:Rho}{v:V}{d:D}(o:OkW G A0 He A σ H ρ) (r:Rep G (hid A H) v d) (i:Nat):OkW G A0 He A (σ.set i (some v)) H (ρ.set i (.fz d)):=⟨o.same,o.sub,o.fr,o.l0,o.ok.set r i,λ j e a h1 h2=>by
  have hj:j≠i:=by
   intro z;subst z
   by_cases hl:j<ρ.length
   ·rw[z10 hl] at h1;cases h1
   ·rw[z19 (by simpa using z0Z.mp hl)] at h1;cases h1
  rw[z0D (Ne.symm hj)] at h1 h2;exact o.ow0 j e a h1 h2,λ x e hx h0=>by
  by_cases hi:i=0
  ·subst hi;cases ρ with
   | nil=>cases h0
   | cons a r=>cases h0
  ·rw[z0D hi] at h0 ⊢;exact o.lt x e hx h0⟩
theorem OkW.base {G:Gx}{ρ:Rho}(o:OkW G A0 Hf A σ H ρ) (s:Same He Hf) (l0:∀ a∈A0,He a≠none):OkW G A0 He A σ H ρ:=
 ⟨s.trans o.same,o.sub,λ a ha=>(o.fr a ha).imp id λ z=>s.free z,l0,o.ok,o.ow0,o.lt⟩
theorem OkW.here {G:Gx}{ρ:Rho}(o:OkW G A0 He A σ H ρ):Same He (hid (A.filter λ a=>decide (a∉A0)) H)/\OkW G A0 (hid (A.filter λ a=>decide (a∉A0)) H) A σ H ρ:=by
 have hb:∀ b,b∈(A.filter λ a=>decide (a∉A0))↔b∈A/\b∉A0:=λ b=>by simp[z0q]
 have s1:Same He (hid (A.filter λ a=>decide (a∉A0)) H):=λ b u h=>by
  rw[Av]
  ·exact o.same b u h
  ·intro z;obtain⟨z1,z2⟩:=(hb b).mp z
   rcases o.fr b z1 with q | q
   ·exact z2 q
   ·rw[q] at h;cases h
 refine⟨s1,Am,o.sub,λ a ha=>?_,λ a ha h=>?_,o.ok,o.ow0,o.lt⟩
 ·by_cases hz:a∈A0
  ·exact .inl hz
  ·right;unfold hid;rw[if_pos ((hb a).mpr ⟨ha,hz⟩)]
 ·rw[Av (λ z=>((hb a).mp z).2 ha)] at h;exact (o.ok.live a (o.sub a ha)).ne h
theorem OkW.plain {G:Gx}{ρ:Rho}(sub:∀ a∈A0,a∈B) (o:OkW G A0 (hid (B.filter λ a=>decide (a∉A0)) H1) A σ H ρ):Same (hid B H1) (hid A H):=λ b u h=>by
 unfold hid at h;split at h
 ·cases h
 ·rename_i hb;have e:hid (B.filter λ a=>decide (a∉A0)) H1 b=some u:=by
   rw[Av (λ z=>hb (z0q.mp z).1)];exact h
  rw[Av]
  ·exact o.same b u e
  ·intro z
   rcases o.fr b z with q | q
   ·exact hb (sub b q)
   ·rw[q] at e;cases e
section
variable {G:Gx}{a b c:Expr}{fa fb fc:FE}{ga:FT}{p2:Pos}{rest:List Stmt}{g gs gb:FS}
theorem Bp:PSDs X G [] nxF:=λ A0 He π s σ H D I ⟨ρ,o,ok,e,k⟩=>by
 cases e;exact O2 π s σ H D I (k σ H ok)
theorem Ad (h1:PSD X G st g) (h2:PSDs X G rest gs):PSDs X G (st::rest) (seqF g gs):=λ A0 He π s σ H D I ⟨ρ,o,ok,e,k⟩=>by
 refine Lf (@h1 A0 He) (@h2 A0 He) π s σ H D I ?_;unfold seqF at e;split at e
 ·rename_i ρ' e1;exact⟨ρ,_,ok,e1,λ σ' H' ok'=>⟨ρ',o,ok',e,k⟩⟩
 ·rename_i hno;refine⟨ρ,o,ok,e,?_⟩;cases o with
  | nx ρ'=>exact absurd e (hno ρ')
  | rt d ρ'=>exact k
  | bk ρ'=>exact k
  | ct ρ'=>exact k
theorem Ae (h1:PSD X G st g):PSDs X G [st] g:=λ A0 He=>S6 (@h1 A0 He)
theorem Bv (ht:PFT X G c ga) (h1:PSDs X G s1 g) (h2:PSDs X G s2 gs):PSD X G (.If c s1 s2 pos) (ifS ga g gs):=λ A0 He π s σ H D I ⟨ρ,o,⟨A,w⟩,e,k⟩=>by
 refine VJ (@ht A) (@h1 A0 He) (@h2 A0 He) π s σ H D I ?_;unfold ifS at e;split at e
 ·rename_i e1;exact⟨ρ,_,w.ok,e1,λ H1 s1=>iteT ⟨ρ,o,⟨A,w.mono s1⟩,e,k⟩⟩
 ·rename_i e1;exact⟨ρ,_,w.ok,e1,λ H1 s1=>iteF ⟨ρ,o,⟨A,w.mono s1⟩,e,k⟩⟩
 ·cases e
theorem oO {ρ:Rho}{o:Out}{D:Ends}(w:OkW G A0 He A σ H ρ) (e:setF i fa ρ=some o) (k:Ob G A0 He D o):tAsg (tF G A fa) (GR i) D σ H:=by
 unfold setF at e;cases e1:fa ρ with
 | none=>simp[e1] at e
 | some d=>
  simp only[e1,z0E] at e;cases e;exact⟨ρ,d,w.ok,e1,λ v H1 s1 r1=>k _ _ ⟨A,(w.mono s1).set r1 i⟩⟩
theorem jB {x:Str}{p:Pos}(h:∀ te,PE X a te->PS X (.Assign [.Name x p] a pos) (tAsg te (GR i))) (ha:PF X G a fa):PSD X G (.Assign [.Name x p] a pos) (setF i fa):=λ A0 He π s σ H D I ⟨ρ,o,⟨A,w⟩,e,k⟩=>
 h _ (@ha A) π s σ H D I (oO w e k)
theorem Ak (ha:PF X G a fa):PSD X G (.Return (some a) pos) (retF fa):=λ A0 He π s σ H D I ⟨ρ,o,⟨A,w⟩,e,k⟩=>by
 refine aa (@ha A) π s σ H D I ?_;unfold retF at e;cases e1:fa ρ with
 | none=>simp[e1] at e
 | some d=>
  simp only[e1,z0E] at e;cases e;exact⟨ρ,d,w.ok,e1,λ v H1 s1 r1=>k v σ H1 A (w.mono s1) r1⟩
theorem cJ:PSD X G (.Return none pos) retN:=λ A0 He π s σ H D I ⟨ρ,o,⟨A,w⟩,e,k⟩=>by
 cases e;exact gw π s σ H D I (k _ σ H A w .non)
theorem Dq (ha:PF X G a fa) (hs:swapsWith a none pos.line X.env=pure false:=by rfl):PSD X G (.Expr a pos) (Ff fa):=λ A0 He π s σ H D I ⟨ρ,o,⟨A,w⟩,e,k⟩=>by
 refine O3 (@ha A) hs π s σ H D I ?_;unfold Ff at e;cases e1:fa ρ with
 | none=>simp[e1] at e
 | some d=>
  simp only[e1,z0E] at e;cases e;exact⟨ρ,d,w.ok,e1,λ v H1 s1 r1=>k _ _ ⟨A,w.mono s1⟩⟩
theorem Iu:PSD X G st badF:=λ A0 He π s σ H D I ⟨ρ,o,ok,e,k⟩=>by cases e
def tGD (G:Gx) (A0:List Addr) (He:Hp) (g:FG):TG:=λ v σ H Q=>∃ A ρ d ρ',OkW G A0 He A σ H ρ/\Rep G (hid A H) v d/\g d ρ=some ρ'/\∀ σ' H',OkS G A0 He σ' H' ρ'->Q σ' H'
def PGD (X:Cx) (G:Gx) (tg:Expr) (g:FG):Prop:=∀ ⦃A0⦄ He,PG X tg (tGD G A0 He g)
theorem BX (h:PG X tg (GR i)):PGD X G tg (Ay i):=λ A0 He π s σ H v u Q I r ⟨A,ρ,d,ρ',w,rv,e,k⟩=>by
 cases e;exact h π s σ H v u Q I r (k _ _ ⟨A,w.set rv i⟩)
theorem Ob.base {A0:List Addr}{He Hf:Hp}{D:Ends}{o:Out}(k:Ob G A0 He D o) (s:Same He Hf) (l0:∀ a∈A0,He a≠none):Ob G A0 Hf D o:=by
 cases o with
 | nx ρ=>exact λ σ H ⟨A,w⟩=>k σ H ⟨A,w.base s l0⟩
 | rt d ρ=>exact λ v σ H A w r=>k v σ H A (w.base s l0) r
 | bk ρ=>exact λ σ H ⟨A,w⟩=>k σ H ⟨A,w.base s l0⟩
 | ct ρ=>exact λ σ H ⟨A,w⟩=>k σ H ⟨A,w.base s l0⟩
theorem Bl {it:Expr}{src:FI}{fg:FG}(hp:PassesOwn (model X.prog X.w) X.A X.env X.xe) (hc:X.calm=true) (hi:PFI X G false tg it src) (hg:PGD X G tg fg) (hb:PSDs X G body gb)
  (hs:∀ x,foldedSetIterable it X.env x=pure x:=by intro _;rfl):PSD X G (.For tg it body [] pos) (forS src fg gb):=λ A0 He π s σ H D I ⟨ρ,o,⟨A,w⟩,e,k⟩=>by
 cases e1:src ρ with
 | none=>simp[forS,e1] at e
 | some ds=>
  have e':forF (λ d ρ=>(fg d ρ).bind gb) ds ρ=some o:=by
   have e2:forF (tgB fg gb) ds ρ=some o:=by simpa [forS,e1] using e
   exact e2
  have hb':PSs X body (λ D σ H=>∃ A0 He,tS G A0 He gb D σ H):=λ π s σ H D I ⟨A0,He,q⟩=>@hb A0 He π s σ H D I q;have hg':PG X tg (λ v σ H Q=>∃ A0 He,tGD G A0 He fg v σ H Q):=λ π s σ H v u Q I r ⟨A0,He,q⟩=>@hg A0 He π s σ H v u Q I r q;refine Wg hp hc (@hi A) hg' hb' hs π s σ H D I ⟨ρ,ds,w.ok,e1,λ J H1 s1 sr=>?_⟩;obtain⟨sHe,w2⟩:=(w.mono s1).here;have k2:=k.base sHe w.l0;generalize hHf:hid (A.filter λ a=>decide (a∉A0)) H1=Hf at sHe w2 k2;refine⟨λ i m σ' H'=>m=ds.length-i/\i<=ds.length/\∃ ρ',OkS G A0 Hf σ' H' ρ'/\forF (λ d ρ=>(fg d ρ).bind gb) (ds.drop i) ρ'=some o,⟨ds.length,by simp,z0s _,ρ,⟨A,w2⟩,by simpa using e'⟩,?_⟩;rintro i m σ3 H3 ⟨rfl,hil,ρ3,⟨B,w3⟩,e3⟩;have pl:Same (hid A H1) (hid B H3):=by rw[<-hHf] at w3;exact OkW.plain w.sub w3
  by_cases hlt:i<ds.length
  ·right;have hd:ds[i]?=some ds[i]:=by simp[hlt]
   have ed:ds.drop i=ds[i]::ds.drop (i+1):=z1l hlt;rw[ed] at e3;unfold forF at e3;refine⟨sr.go i H3 (pl.trans Am) hlt,λ σ' H'=>∃ ρ',OkS G A0 Hf σ' H' ρ'/\forF (λ d ρ=>(fg d ρ).bind gb) (ds.drop (i+1)) ρ'=some o,λ σ' H' q=>⟨ds.length-(i+1),by omega,rfl,hlt,q⟩,λ x H' y=>?_⟩;obtain⟨sy,rx⟩:=sr.yld i H3 x H' _ (pl.trans Am) hd y;refine⟨A0,Hf,B,ρ3,ds[i],?_⟩;cases e4:fg ds[i] ρ3 with
   | none=>simp[e4] at e3
   | some ρ4=>
    refine⟨ρ4,w3.mono sy,rx B w3.ok.live pl,rfl,λ σ5 H5 ok5=>⟨A0,Hf,ρ4,?_⟩⟩;cases e5:gb ρ4 with
    | none=>simp[e4,e5] at e3
    | some o5=>
     refine⟨o5,ok5,rfl,?_⟩;cases o5 with
     | nx ρ5=>
      simp only[e4,e5,z0p] at e3;exact λ σ' H' ok'=>⟨ρ5,ok',e3⟩
     | ct ρ5=>
      simp only[e4,e5,z0p] at e3;exact λ σ' H' ok'=>⟨ρ5,ok',e3⟩
     | bk ρ5=>
      simp only[e4,e5,z0p] at e3;cases e3;exact λ σ' H' ok'=>k2 σ' H' ok'
     | rt d5 ρ5=>
      simp only[e4,e5,z0p] at e3;cases e3;exact k2
  ·left;have ei:i=ds.length:=by omega
   subst ei;rw[List.drop_length] at e3;cases e3;exact⟨sr.stop _ H3 (pl.trans Am) (z01 _),k2 σ3 H3 ⟨B,w3⟩⟩
theorem Z3 (n:Nat) (hp:PassesOwn (model X.prog X.w) X.A X.env X.xe) (ht:PFT X G c ga) (hb:PSDs X G body gb):PSD X G (.While c body [] pos) (Fj ga gb n):=λ A0 He π s σ H D I ⟨ρ,o,ok,e,k⟩=>by
 have ht':PT X c (λ σ H Q=>∃ A,tFT G A ga σ H Q):=λ π s σ H Q I ⟨A,q⟩=>@ht A π s σ H Q I q;refine VM hp ht' (@hb A0 He) π s σ H D I ⟨λ m σ' H'=>∃ ρ',OkS G A0 He σ' H' ρ'/\Fj ga gb m ρ'=some o,⟨n,ρ,ok,e⟩,?_⟩;rintro m σ1 H1 ⟨ρ1,⟨A,w1⟩,e1⟩;cases m with
 | zero=>cases e1
 | succ m=>
  unfold Fj at e1;cases e2:ga ρ1 with
  | none=>simp[e2] at e1
  | some t=>
   refine⟨A,ρ1,t,w1.ok,e2,λ H2 s2=>?_⟩;cases t with
   | false=>
    refine iteF ?_;simp only[e2] at e1;cases e1;exact k σ1 H2 ⟨A,w1.mono s2⟩
   | true=>
    refine iteT ⟨λ σ' H'=>∃ ρ',OkS G A0 He σ' H' ρ'/\Fj ga gb m ρ'=some o,λ σ' H' q=>⟨m,Nat.lt_succ_self m,q⟩,ρ1,?_⟩;simp only[e2] at e1;cases e3:gb ρ1 with
    | none=>simp[e3] at e1
    | some o3=>
     refine⟨o3,⟨A,w1.mono s2⟩,rfl,?_⟩;cases o3 with
     | nx ρ5=>simp only[e3] at e1;exact λ σ' H' ok'=>⟨ρ5,ok',e1⟩
     | ct ρ5=>simp only[e3] at e1;exact λ σ' H' ok'=>⟨ρ5,ok',e1⟩
     | bk ρ5=>simp only[e3] at e1;cases e1;exact λ σ' H' ok'=>k σ' H' ok'
     | rt d5 ρ5=>simp only[e3] at e1;cases e1;exact k
end
def spD (G:Gx) (g:List D->Option D):Sp:=λ vs H Q _=>∃ A ds d,(∀ a∈A,Nt (H a))/\RepL G (hid A H) vs ds/\g ds=some d/\∀ v H',Same H H'->Rep G (hid A H') v d->Q v H'
section
variable {G:Gx}{a:Expr}{fs:FA}{p:Pos}
theorem qp {k:Nat}{g:List D->Option D}{x:Str}(F:FnOk X.prog X.w X.K X.mg X.base CX0 k f fd ps (spD G g)) (hr:Room k X.A) (hg:Gl X x) (hm:X.mg x=some (.ref f)) (hk:PySem.W.keepIn X.K (.ref f)=true)
  (hb:Binds X.K fd ps []) (ha:PFA X G (a::es) fs) (hdb:(x==("__debug__":Str))=false:=by decide) (he:starEach (a::es) X.env=(false,eval a X.env)::starEach es X.env:=by rfl) (hpl:(backTo pos (starEach es X.env)).any (·.1)=false:=by rfl) :
  PF X G (.Call (.Name x p) (a::es) [] pos) (An g fs):=λ A=>CV (S8 F hr hg hm hk hb .nil Ry (@ha A) hdb he hpl) λ σ H Q ⟨ρ,d,o,e,k⟩=>by
 unfold An at e;cases e1:fs ρ with
 | none=>simp[e1] at e
 | some ds=>
  have e':g ds=some d:=by simpa [e1] using e
  refine⟨ρ,ds,o,e1,λ vs H1 s1 r1=>⟨A,ds,d,(o.mono s1).live,by rw[z0w];exact r1,e',λ v H2 s2 r2=>k v H2 (s1.trans s2) r2⟩⟩
end
theorem Lw {G:Gx}{ds:List D}(live:∀ a∈A,Nt (H a)) (r:RepL G (hid A H) vs ds) (hn:vs.length<=N.length):OkS G A H (start N vs) H (CN N.length ds):=by
 have key:∀ (i:Nat) (z:Slot),(CN N.length ds)[i]?=some z->(∃ d,z=.fz d/\ds[i]?=some d)∨z=.un:=λ i z h=>by
  unfold CN at h
  by_cases hi:i<ds.length
  ·rw[z0Y (by simpa using hi),z04] at h;cases e:ds[i]? with
   | none=>rw[e] at h;cases h
   | some d=>rw[e] at h;exact .inl ⟨d,(z0e h).symm,rfl⟩
  ·rw[z0X (by simpa using z0Z.mp hi),List.getElem?_replicate] at h;split at h
   ·exact .inr (z0e h).symm
   ·cases h
 refine⟨A,Same.refl H,λ _ h=>h,λ a h=>.inl h,λ a ha=>(live a ha).ne,⟨?_,live,λ i d h=>?_,λ i d h=>?_,λ i j d e a h _ _ _=>?_⟩,λ i d a h _=>?_,λ x d _ h=>?_⟩
 ·unfold L2.start CN;rw[z0j,z0j,z00,z00,List.length_replicate,List.length_replicate,r.1]
 ·rcases key i _ h with ⟨d',e,hd⟩ | e
  ·cases e;obtain⟨v,h1,h2⟩:=r.get hd;refine⟨v,?_,h2⟩;unfold L2.start;rw[z0Y (by rw[z00];exact (z0m.mp h1).1),z04,h1];rfl
  ·cases e
 ·rcases key i _ h with ⟨d',e,hd⟩ | e
  ·cases e
  ·cases e
 ·rcases key i _ h with ⟨d',e,hd⟩ | e
  ·cases e
  ·cases e
 ·rcases key i _ h with ⟨d',e,hd⟩ | e
  ·cases e
  ·cases e
 ·rcases key 0 _ h with ⟨d',e,hd⟩ | e
  ·cases e
  ·cases e
theorem fn_D {G:Gx}{base:Heap}{x:Str}{k:Nat}{b:FS}(F:Fun G.K x qual st f fd) (S:FnScope N ps (Ab st)) (hl:ps.length<=N.length)
  (hb:∀ (cdv:Value) (A:Around) (outer:List Env) (s:Shared) (H:Hp) (E:XK),Room k (A.deeper (envOfC qual (Ab st) s.heap.objs.size f cdv))->PSDs (cxOf CX0 P w G.K mg base N qual (Ab st) f cdv A outer s H E).nox G (Bb st) b) :
  FnOk P w G.K mg base CX0 (k+1) f fd ps (spD G (runF N.length ps.length b)):=by
 refine F.ok S (λ vs H Q E h=>?_) (λ cdv A outer s H vs Q E hr h=>?_)
 ·obtain⟨A,ds,d,lv,r,e,_⟩:=h;unfold runF at e;split at e
  ·rename_i hz;rw[r.1];exact hz
  ·cases e
 ·obtain⟨A0,ds,d,lv,r,e,k⟩:=h;unfold runF at e;split at e
  ·rename_i hz;have hzz:=hb cdv A outer s H E hr;refine⟨_,@hzz A0 H,CN N.length ds,?_⟩;cases e1:b (CN N.length ds) with
   | none=>simp[e1] at e
   | some o=>
    refine⟨o,Lw lv r (by rw[r.1,hz];exact hl),rfl,?_⟩;cases o with
    | nx ρ=>
     simp only[e1] at e;cases e;exact λ σ H' ⟨A,w⟩=>k _ H' w.same .non
    | rt d' ρ'=>
     simp only[e1] at e;cases e;exact λ v σ H' A w r'=>k v H' w.same (r'.mono (Cv w.sub))
    | bk ρ=>simp[e1] at e
    | ct ρ=>simp[e1] at e
  ·cases e
section
variable {G:Gx}{a b c:Expr}{fa fb fc:FE}{p2 px:Pos}{t:Str}{elt iter:Expr}{ifs:List Expr}{ga:FT}{fe:FE}{src:FI}
def PFTs (X:Cx) (G:Gx) (ifs:List Expr) (f:FT):Prop:=∀ ⦃A⦄,PTs X ifs (tFT G A f)
theorem J4:PFTs X G [] allT:=λ A π s σ H Q I ⟨ρ,b,o,e,k⟩=>by
 cases e;exact iU π s σ H Q I (k H (Same.refl H))
theorem G9 (h:PFT X G a ga):PFTs X G [a] ga:=λ A=>iV (@h A)
theorem Okp.fill {Hc:Hp}{ρ:Rho}(o:Okp G A σ H ρ) (s:Same H Hc) (hp:H p=none) (hc:Nt (Hc p)):Okp G (p::A) σ Hc ρ:=by
 have sm:Same (hid A H) (hid (p::A) Hc):=λ b u h=>by
  unfold hid at h;split at h
  ·cases h
  ·rename_i hb;rw[Av]
   ·exact s b u h
   ·intro z
    rcases z08.mp z with z | z
    ·rw[z,hp] at h;cases h
    ·exact hb z
 refine⟨o.len,λ a ha=>?_,λ i d h=>?_,λ i d h=>?_,o.inj⟩
 ·rcases z08.mp ha with z | z
  ·rw[z];exact hc
  ·exact (o.mono s).live a z
 ·obtain⟨v,h1,h2⟩:=o.fz i d h;exact⟨v,h1,h2.mono sm⟩
 ·obtain⟨a,h1,h2,h3⟩:=o.ow i d h;refine⟨a,h1,z0b _ h2,?_⟩;cases d with
  | lst ds=>obtain⟨xs,q1,q2⟩:=h3;exact⟨xs,s _ _ q1,q2.mono sm⟩
  | dk ds=>obtain⟨xs,q1,q2,q3⟩:=h3;exact⟨xs,s _ _ q1,q2,q3.mono sm⟩
  | dt ds=>obtain⟨xs,q1,q2,q3⟩:=h3;exact⟨xs,s _ _ q1,q2,q3.mono sm⟩
  | ob c gs=>obtain⟨C,dx,xs,q1,q2,q3⟩:=h3;exact⟨C,dx,xs,s _ _ q1,q2,q3.mono sm⟩
  | _=>exact h3.elim
theorem Okp.snoc {ρ:Rho}{d:D}(o:Okp G A σ H ρ) (r:Rep G (hid A H) v d):Okp G A (σ++[some v]) H (ρ++[.fz d]):=by
 have key:∀ (j:Nat) (z:Slot),(ρ++[.fz d])[j]?=some z->(j=ρ.length/\z=.fz d)∨(j<ρ.length/\ρ[j]?=some z):=λ j z h=>by
  by_cases hj:j<ρ.length
  ·rw[z0Y hj] at h;exact .inr ⟨hj,h⟩
  ·rw[z0X (z0Z.mp hj)] at h;cases q:j-ρ.length with
   | zero=>rw[q] at h;exact .inl ⟨by omega,(z0e h).symm⟩
   | succ n=>rw[q] at h;cases h
 have keyS:∀ (j:Nat),j<ρ.length->(σ++[some v])[j]?=σ[j]?:=λ j hj=>z0Y (by rw[o.len];exact hj);refine⟨by rw[z0j,z0j,o.len];rfl,o.live,λ j e h=>?_,λ j e h=>?_,λ j k e f p h1 h2 h3 h4=>?_⟩
 ·rcases key j _ h with ⟨hj,hz⟩ | ⟨hj,hz⟩
  ·cases hz;subst hj;exact⟨v,by rw[z0X (by rw[o.len];exact z01 _),o.len,Nat.sub_self];rfl,r⟩
  ·obtain⟨u,q1,q2⟩:=o.fz j e hz;exact⟨u,by rw[keyS j hj];exact q1,q2⟩
 ·rcases key j _ h with ⟨hj,hz⟩ | ⟨hj,hz⟩
  ·cases hz
  ·obtain⟨u,q1,q2⟩:=o.ow j e hz;exact⟨u,by rw[keyS j hj];exact q1,q2⟩
 ·rcases key j _ h1 with ⟨_,hz⟩ | ⟨hj,hz⟩
  ·cases hz
  ·rcases key k _ h2 with ⟨_,hz'⟩ | ⟨hk,hz'⟩
   ·cases hz'
   ·rw[keyS j hj] at h3;rw[keyS k hk] at h4;exact o.inj j k e f p hz hz' h3 h4
theorem Okp.snocs {A:List Addr}{H:Hp}:∀ {vs:List V}{es:List D}{σ:St}{ρ:Rho},Okp G A σ H ρ->RepL G (hid A H) vs es->Okp G A (σ++vs.map some) H (ρ++es.map .fz)
 | [],[],σ,ρ,o,_=>by simpa using o
 | [],_::_,_,_,_,r=>by have:=r.1;simp at this
 | _::_,[],_,_,_,r=>by have:=r.1;simp at this
 | v::vs,e::es,σ,ρ,o,r=>by
  obtain⟨x,ys,h,r1,r2⟩:=r.uncons;cases h;simpa using (o.snoc r1).snocs r2
def Dp (bd:D->Option (List D)) (ρ:Rho) (ga:FT) (fe:FE):List D->Option (List D)
 | []=>some []
 | d::r=>(bd d).bind λ es=>match ga (ρ++es.map .fz) with
  | some true=>(fe (ρ++es.map .fz)).bind λ y=>(Dp bd ρ ga fe r).map (y::·)
  | some false=>Dp bd ρ ga fe r
  | none=>none
def IK (bd:D->Option (List D)) (src:FI) (ga:FT) (fe:FE):FE:=λ ρ=>(src ρ).bind λ ds=>if ds.length<=sizeLine then (Dp bd ρ ga fe ds).map .lst else none
def bd1 (d:D):Option (List D):=some [d]
theorem Vl (ρ:Rho) (ga:FT) (fe:FE):∀ ds,Io ρ ga fe ds=Dp bd1 ρ ga fe ds
 | []=>rfl
 | d::r=>by
  unfold Io Dp;rw[Vl ρ ga fe r];rfl
theorem Vm (src:FI) (ga:FT) (fe:FE):CK src ga fe=IK bd1 src ga fe:=by
 funext ρ;unfold CK IK;congr 1;funext ds;rw[Vl]
def Bnd (G:Gx) (N n:Nat) (bd:D->Option (List D)) (g:TG):Prop:=∀ (A:List Addr) (σ os:St) (H:Hp) (x:V) (d:D) (es:List D) (Q:St->Hp->Prop),σ.length=N->os.length=n->bd d=some es->Rep G (hid A H) x d->(∀ vs,vs.length=n->RepL G (hid A H) vs es->Q (σ++vs.map some) H)->g x (σ++os) H Q
theorem bnd1 {N:Nat}:Bnd G N 1 bd1 (GR N):=λ A σ os H x d es Q hl ho e r k=>by
 cases e;obtain⟨o,rfl⟩:=List.length_eq_one_iff.mp ho;have z:(σ++[o]).set N (some x)=σ++[some x]:=by rw[<-hl,List.set_append_right _ _ (z01 _),Nat.sub_self];rfl
 show Q ((σ++[o]).set N (some x)) H;rw[z];exact k [x] rfl (.cons r .nil)
def tN (G:Gx) (A:List Addr) (f:FE):TE:=λ σ H Q=>∃ ρ d,Okp G A σ H ρ/\f ρ=some d/\∀ p H',Same H H'->H p=none->Top G (p::A) H' p d->Q (.ref p) H'
theorem cL {N:Nat}{bd:D->Option (List D)}{g:TG}(hX:X.N.length=N) (hB:Bnd G N n bd g) {A:List Addr}{σ:St}{H:Hp}{Q:VK}(h:tN G A (IK bd src ga fe) σ H Q):bw n (lE X (tI G A true src)) g (λ σ H Q=>∃ A,tFT G A ga σ H Q) (λ σ H Q=>∃ A,tF G A fe σ H Q) σ H Q:=by
 obtain⟨ρ,d,o,e,k⟩:=h;unfold IK at e;cases e1:src ρ with
 | none=>simp[e1] at e
 | some ds=>
  rw[e1] at e;have e':(if ds.length<=sizeLine then (Dp bd ρ ga fe ds).map D.lst else none)=some d:=e;split at e'
  ·rename_i hz;cases e2:Dp bd ρ ga fe ds with
   | none=>simp[e2] at e'
   | some out=>
    simp only[e2,z0E] at e';cases e';refine⟨λ J H1=>Same H H1/\Src G J ds H1 (hid A H1),⟨ρ,ds,o,e1,λ J H1 s1 sr=>⟨s1,sr⟩⟩,λ J H1 hlen ⟨s1,sr⟩ p hp=>?_⟩;have o1:=o.mono s1;refine⟨λ i m ys Hc=>m=ds.length-i/\i<=ds.length/\Hc p=some (.lst ys)/\Same H1 Hc/\ys.length<=i/\∃ es rest,RepL G (hid (p::A) Hc) ys es/\Dp bd ρ ga fe (ds.drop i)=some rest/\es++rest=out,
     ⟨ds.length,by simp,z0s _,Ag,Aq hp _,z01 _,[],out,RepL.nil,by simpa using e2,rfl⟩,?_⟩
    rintro i m ys Hc ⟨rfl,hil,hpc,sc,hy,es,rest,rr,er,eo⟩
    by_cases hlt:i<ds.length
    ·right;have hd:ds[i]?=some ds[i]:=by simp[hlt]
     have ed:ds.drop i=ds[i]::ds.drop (i+1):=z1l hlt;rw[ed] at er;unfold Dp at er;refine⟨sr.go i Hc sc hlt,λ x H' y os ho=>?_⟩;obtain⟨sy,rx⟩:=sr.yld i Hc x H' _ sc hd y;have okc:Okp G (p::A) σ Hc ρ:=o1.fill sc hp (by rw[hpc];exact Nt.lst);have sm:Same (hid A H1) (hid (p::A) Hc):=λ b u h=>by
      unfold hid at h;split at h
      ·cases h
      ·rename_i hb;rw[Av]
       ·exact sc b u h
       ·intro z
        rcases z08.mp z with z | z
        ·rw[z,hp] at h;cases h
        ·exact hb z
     cases ebd:bd ds[i] with
     | none=>simp[ebd] at er
     | some bs=>
     simp only[ebd,z0p] at er;refine hB (p::A) σ os H' x ds[i] bs _ (hlen.trans hX) ho ebd (rx _ okc.live sm) λ vs hvs rvs=>⟨⟨_,rfl,by rw[z00];exact hvs⟩,?_⟩;have ok2:=(okc.mono sy).snocs rvs;have hpc:=sy _ _ hpc;have rr:=rr.mono (Ar sy);have sc:=sc.trans sy;cases eg:ga (ρ++bs.map .fz) with
     | none=>simp[eg] at er
     | some b=>
      refine⟨p::A,_,b,ok2,eg,λ H2 s2=>?_⟩;cases b with
      | false=>
       refine iteF ⟨ds.length-(i+1),by omega,rfl,hlt,s2 _ _ hpc,sc.trans s2,Nat.le_succ_of_le hy,es,rest,rr.mono (Ar s2),by simpa [eg] using er,eo⟩
      | true=>
       simp only[eg] at er;cases ee:fe (ρ++bs.map .fz) with
       | none=>simp[ee] at er
       | some yd=>
        cases ec:Dp bd ρ ga fe (ds.drop (i+1)) with
        | none=>simp[ee,ec] at er
        | some rest'=>
         simp only[ee,ec,z0p,z0E] at er;cases er;refine iteT ⟨p::A,_,yd,ok2.mono s2,ee,λ yv H3 s3 r3=>?_⟩;have hp3:=s3 _ _ (s2 _ _ hpc);refine⟨hp3,by omega,ds.length-(i+1),by omega,rfl,hlt,Ag,λ b u q=>?_,by rw[z0j];simp;omega,es++[yd],rest',?_,ec,by rw[z14];exact eo⟩
         ·have hb:b≠p:=Ck q hp;rw[Al hb];exact s3 _ _ (s2 _ _ (sc _ _ q))
         ·rw[Bc z0h];exact (rr.mono (Ar (s2.trans s3))).append (.cons r3 .nil)
    ·left;have ei:i=ds.length:=by omega
     subst ei;rw[List.drop_length] at er;simp only[Dp] at er;cases er;rw[z0w] at eo;subst eo;exact⟨sr.stop _ Hc sc (z01 _),k p Hc (s1.trans sc) (s1.free hp) ⟨ys,hpc,rr⟩⟩
  ·cases e'
theorem qt {bd:D->Option (List D)}{Q:VK}(h:tF G A (IK bd src ga fe) σ H Q):tN G A (IK bd src ga fe) σ H Q:=by
 obtain⟨ρ,d,o,e,k⟩:=h;have e':=e;unfold IK at e';cases e1:src ρ with
 | none=>simp[e1] at e'
 | some ds=>
  rw[e1] at e';have e2:(if ds.length<=sizeLine then (Dp bd ρ ga fe ds).map D.lst else none)=some d:=e';split at e2
  ·cases e3:Dp bd ρ ga fe ds with
   | none=>rw[e3] at e2;cases e2
   | some out=>
    rw[e3] at e2;cases e2;refine⟨ρ,_,o,e,λ p H' sm hp ⟨xs,h1,h2⟩=>k _ H' sm ?_⟩;have q:=h2.mono (Cv (A:=A) λ a ha=>z0b _ ha);exact .lst (.of (by rw[Av (λ z=>(o.live p z).ne hp)];exact h1)) q.1 q.2
  ·cases e2
section
variable {bd:D->Option (List D)}{g:TG}{ts:List Str}
theorem Qm (N':List Str) (eN:Cp ts X.N++ts=N') (c:CompOkL X scope ts) (hc:X.calm=true) (hi:PFI X G true tg iter src) (hG:∀ s2 H2 fp,PG (CT X scope N' s2 H2 fp) tg g) (hB:Bnd G X.N.length ts.length bd g)
  (hI:∀ s2 H2 fp,PFTs (CT X scope N' s2 H2 fp) G ifs ga) (hE:∀ s2 H2 fp,PF (CT X scope N' s2 H2 fp) G elt fe) (hs:∀ x,foldedSetIterable iter X.env x=pure x:=by intro _;rfl) (A:List Addr):PE X (.ListComp elt [⟨tg,iter,ifs,0⟩] scope pos) (tN G A (IK bd src ga fe)):=by
 subst eN;refine CV (bx (tc:=λ σ H Q=>∃ A,tFT G A ga σ H Q) (te:=λ σ H Q=>∃ A,tF G A fe σ H Q) c hc (iW (@hi A)) hG (λ s2 H2 fp=>?_) (λ s2 H2 fp=>?_) hs) λ _ _ _ h=>cL rfl hB h
 ·exact λ π s σ H Q I ⟨A,q⟩=>hI s2 H2 fp π s σ H Q I q
 ·exact λ π s σ H Q I ⟨A,q⟩=>hE s2 H2 fp π s σ H Q I q
end
theorem lJ {N':List Str}(eN:GZ t X.N++[t]=N') (c:M7 X scope t) (s2:Shared) (H2:Hp) (fp:List Addr):PG (CT X scope N' s2 H2 fp) (.Name t px) (GR X.N.length):=by
 subst eN;exact gOne c s2 H2 fp
theorem Fw (N':List Str) (eN:GZ t X.N++[t]=N') (c:M7 X scope t) (hc:X.calm=true) (hi:PFI X G true (.Name t px) iter src) (hI:∀ s2 H2 fp,PFTs { Qh X scope t s2 H2 fp with N:=N' } G ifs ga) (hE:∀ s2 H2 fp,PF { Qh X scope t s2 H2 fp with N:=N' } G elt fe)
  (hs:∀ x,foldedSetIterable iter X.env x=pure x:=by intro _;rfl):PF X G (.ListComp elt [⟨.Name t px,iter,ifs,0⟩] scope pos) (CK src ga fe):=λ A=>by
 rw[Vm];exact CV (Qm N' eN c hc hi (lJ eN c) bnd1 hI hE hs A) λ _ _ _ h=>qt h
end
section
variable {A:Around}{R:Result->Shared->Prop}{I:Addr}{wr:List Addr}{P:Nat->Value->Prop}{Sx:Nat->Heap->Prop}
end
section
variable {A:Around}{l:Addr}{xs:Array (Int×Tok)}
end
section
variable {G:Gx}{a b:Expr}{fa fb:FE}{p kpos:Pos}
theorem Vn {H:Hp}:∀ {ds:List D}{xs:List V}{ns:List Str},RepL G H xs ds->Ks ds=some ns->xs=ns.map V.str
 | [],xs,ns,r,h=>by cases h;rw[r.nil_inv];rfl
 | d::ds,xs,ns,r,h=>by
  obtain⟨x,ys,rfl,r1,r2⟩:=r.uncons;cases d with
  | str i=>
   simp only[Ks] at h;cases e:Ks ds with
   | none=>simp[e] at h
   | some ms=>
    simp only[e,z0E] at h;cases h;cases r1;rw[Vn r2 e];rfl
  | _=>simp[Ks] at h
theorem jC (K:zFr) (n T:String):PySem.W.kitOne K (.type n) (.type T)=PySem.W.kitOne [] (.type n) (.type T):=rfl
def TyX (K:zFr) (H:Hp) (x:V) (n:String):Prop:=
 TyOf K H x (.type n)∨(n="list"/\∃ a xs,x=.ref a/\SqL K H a xs)∨(n="tuple"/\∃ a xs,x=.ref a/\SqT K H a xs)
theorem oR {d:D}{n:String}(r:RepT G A H v d) (h:tyD d=some n):TyX G.K H v n:=by
 cases d with
 | non=>cases h;rw[r.non];exact .inl .non
 | bl b=>cases h;rw[r.bl];exact .inl (.bl b)
 | int b=>cases h;rw[r.int];exact .inl (.int b)
 | str b=>cases h;rw[r.str];exact .inl (.str b)
 | lst ds=>cases h;obtain⟨a,xs,e,q,_⟩:=r.lst;exact .inr (.inl ⟨rfl,a,xs,e,q⟩)
 | tup ds=>cases h;obtain⟨a,xs,e,q,_⟩:=r.tup;exact .inr (.inr ⟨rfl,a,xs,e,q⟩)
 | _=>cases h
theorem cM (T:String):Do X (.builtin "isinstance") (λ xs H Q=>∃ x n b,xs=[x,.ty T]/\TyX X.K H x n/\PySem.W.kitOne X.K (.type n) (.type T)=some b/\Q (.bl b) H):=by
 intro π s σ H xs us Q I r h;obtain⟨x,n,b,rfl,ty,e,k⟩:=h;obtain⟨u,c,rfl,ru,rc⟩:=vals2 r;cases rc
 rcases ty with ty | ⟨rfl,a,ys,rfl,q⟩ | ⟨rfl,a,ys,rfl,q⟩
 ·exact Zu I ru ty e λ tk=>⟨.bl b,H,I.tok _,rfl,k⟩
 ·cases ru;obtain⟨its,_,p,_⟩:=I.list q;obtain⟨o,ho,hc,_⟩:=p.isList;exact z0S PySem.W.kitx_list I.kIn ⟨o,ho,hc⟩ e (λ z=>nomatch z) λ tk=>⟨.bl b,H,I.tok _,rfl,k⟩
 ·cases ru;obtain⟨its,_,p,_⟩:=I.tuple q;obtain⟨o,ho,hc,_⟩:=(show s.heap.IsTuple a its.toArray from p);exact z0S PySem.W.kitx_tuple I.kIn ⟨o,ho,hc⟩ e (λ z=>nomatch z) λ tk=>⟨.bl b,H,I.tok _,rfl,k⟩
def NK (T:String):Bool:=(["NoneType","bool","int","str","list","tuple"]:List String).all λ n=>PySem.W.kitOne [] (.type n) (.type T)==some (n==T||(n=="bool"&&T=="int"))
theorem Z4 {T:String}(h:NK T=true) {d:D}{n:String}(e:tyD d=some n):PySem.W.kitOne [] (.type n) (.type T)=some (n==T||(n=="bool"&&T=="int")):=by
 unfold NK at h;rw[z0x] at h;have m:n∈(["NoneType","bool","int","str","list","tuple"]:List String):=by
  cases d<;>simp[tyD] at e<;>subst e<;>simp
 simpa using h n m
theorem W3 {x t:Str}{T:String}(hT:NK T=true) (hG:G.K=X.K) (hg:Gl X x) (hm:X.mg x=none) (hv:bootBuiltins x=some (.builtin "isinstance")) (ht:Gl X t) (hmt:X.mg t=none) (hvt:bootBuiltins t=some (.type T)) (ha:PU X G a fa)
  (hn:x≠"__name__":=by decide) (hdb:(x==("__debug__":Str))=false:=by decide) (hnt:t≠"__name__":=by decide) (hdt:(t==("__debug__":Str))=false:=by decide) (he:starEach [a,.Name t tp] X.env=(false,eval a X.env)::starEach [.Name t tp] X.env:=by rfl) (he2:starEach [.Name t tp] X.env=[(false,eval (.Name t tp) X.env)]:=by rfl) :
  PF X G (.Call (.Name x p) [a,.Name t tp] [] pos) (uF (isiD T) fa):=λ A=>CV (VP (cM T) hg hm hv (Cu (@ha A) (Cu (gk (v:=.ty T) ht hmt hvt rfl hnt hdt) Fi he2) he) hn hdb he (by rw[he2];rfl)) λ σ H Q ⟨ρ,d,o,e,k⟩=>by
 obtain⟨dx,e1,e2⟩:=JW e;unfold isiD at e2;cases et:tyD dx with
 | none=>simp[et] at e2
 | some n=>
  simp only[et,z0E] at e2;cases e2;exact⟨ρ,dx,o,e1,λ v H1 s1 r1=>⟨v,n,_,rfl,by rw[<-hG];exact oR r1 et,by rw[jC];exact Z4 hT et,k _ H1 s1 (.bl _)⟩⟩
theorem jD:NK "int"=true:=by decide +kernel
theorem cP:NK "bool"=true:=by decide +kernel
theorem cR:NK "list"=true:=by decide +kernel
end
theorem Dc:bootBuiltins "len"=some (.builtin "len"):=by decide +kernel
theorem IV:bootBuiltins "isinstance"=some (.builtin "isinstance"):=by decide +kernel
theorem Iv:bootBuiltins "sorted"=some (.builtin "sorted"):=by decide +kernel
theorem W4:bootBuiltins "int"=some (.type "int"):=by decide +kernel
theorem jE:bootBuiltins "bool"=some (.type "bool"):=by decide +kernel
theorem Hl:bootBuiltins "list"=some (.type "list"):=by decide +kernel
def Lx (N:List Str) (sc scope:Scope) (ts:List Str):Bool:=
 scope.names.all (λ y=>y.2 != .cell)&&scope.kind==.function&&scope.names.all (λ y=>y.2 != .local ||scope.names.lookup y.1==some .local)&&ts.all (λ t=>scope.names.lookup t==some .local)
  && scope.names.all (λ y=>y.2 != .local ||ts.contains y.1||!N.contains y.1)&&scope.names.all (λ y=>y.2 != .free ||sc.names.lookup y.1==some .cell ||sc.names.lookup y.1==some .free)&&scope.names.all (λ y=>y.1 != Str.empty)&&decide (Cp ts N++ts).Nodup
theorem Qn {ts:List Str}(hN:X.N=N) (hs:X.env.scope=sc) (h:Lx N sc scope ts=true):CompOkL X scope ts:=by
 unfold Lx at h;simp only[z0C,z0x,z1q,z0J,bne_iff_ne,Bool.or_eq_true,ne_eq] at h;obtain⟨⟨⟨⟨⟨⟨⟨h1,h2⟩,h3⟩,h4⟩,h5⟩,h6⟩,h7⟩,h8⟩:=h;refine⟨h1,h2,λ y hy e=>?_,h4,λ y hy e=>?_,λ y hy e=>?_,h7,by rw[hN];exact h8⟩
 ·rcases h3 y hy with z | z
  ·exact absurd e z
  ·exact z
 ·rcases h5 y hy with (z | z) | z
  ·exact absurd e z
  ·exact .inl (by simpa using z)
  ·right;rw[hN];simpa using z
 ·have hk:∀ x,X.env.kindOf x=sc.names.lookup x:=λ x=>by rw[<-hs];rfl
  rw[hk]
  rcases h6 y hy with (z | z) | z
  ·exact absurd e z
  ·exact .inl z
  ·exact .inr z
abbrev YW (N:List Str) (sc scope:Scope) (t:Str):Bool:=Lx N sc scope [t]
theorem Z5 {t:Str}(hN:X.N=N) (hs:X.env.scope=sc) (h:YW N sc scope t=true):M7 X scope t:=Qn hN hs h
theorem Z6 {G:Gx}{sl:Array (Option Value)}{its:Array Value}{xs:List Str}(h:G.K.lookup a=some ⟨.type "tuple",od,.seq its n,sl⟩) (hz:its.size<=sizeLine) (r:Vals (xs.map V.str) its.toList):Rep G (λ _=>none) (.ref a) (.tup (xs.map .str)):=by
 refine .tup (xs:=xs.map V.str) (.inr ⟨_,its,n,h,rfl,rfl,hz,r⟩) (by simp) λ i x d h1 h2=>?_;rw[z04] at h1 h2;cases e:xs[i]? with
 | none=>rw[e] at h1;cases h1
 | some z=>rw[e] at h1 h2;cases h1;cases h2;exact .str z
end PV
namespace PySem
end PySem
namespace PV
open PySem PySem.Spec L2
open PyProof.Rows hiding St
section
variable {G:Gx}{a b c:Expr}{fa fb fc:FE}{p2 px:Pos}{fs:FA}
def PN (X:Cx) (G:Gx) (e:Expr) (f:FE):Prop:=∀ ⦃A⦄,PE X e (tN G A f)
theorem Iw (s:Same H H') (hp:H p=none):Same (hid A H) (hid (p::A) H'):=λ b u h=>by
 unfold hid at h;split at h
 ·cases h
 ·rename_i hb;rw[Av]
  ·exact s b u h
  ·intro z
   rcases z08.mp z with z | z
   ·rw[z,hp] at h;cases h
   ·exact hb z
theorem NP (h:PFA X G es fs):PN X G (.List es pos) (lstF fs):=λ A=>CV (bB (@h A)) λ σ H Q ⟨ρ,d,o,e,k⟩=>by
 unfold lstF at e;cases e1:fs ρ with
 | none=>simp[e1] at e
 | some ds=>
  rw[e1] at e;have e':(if ds.length<=sizeLine then some (D.lst ds) else none)=some d:=e;split at e'
  ·rename_i hz;cases e';exact⟨ρ,ds,o,e1,λ vs H1 s1 r1=>⟨by rw[r1.1];exact hz,λ p hp=>k p _ (s1.trans (Aq hp _)) (s1.free hp) ⟨vs,Ag,r1.mono (Iw (Aq hp _) hp)⟩⟩⟩
  ·cases e'
theorem Top.fill {d:D}(t:Top G A H q d) (s:Same H H') (hp:H p=none):Top G (p::A) H' q d:=by
 have sm:=Iw (A:=A) s hp;cases d with
 | lst ds=>obtain⟨xs,q1,q2⟩:=t;exact⟨xs,s _ _ q1,q2.mono sm⟩
 | dk ds=>obtain⟨xs,q1,q2,q3⟩:=t;exact⟨xs,s _ _ q1,q2,q3.mono sm⟩
 | dt ds=>obtain⟨xs,q1,q2,q3⟩:=t;exact⟨xs,s _ _ q1,q2,q3.mono sm⟩
 | ob c gs=>obtain⟨C,dx,xs,q1,q2,q3⟩:=t;exact⟨C,dx,xs,s _ _ q1,q2,q3.mono sm⟩
 | _=>exact t.elim
theorem Top.live {d:D}(t:Top G A H q d):Nt (H q):=by
 cases d with
 | lst ds=>obtain⟨xs,q1,q2⟩:=t;rw[q1];exact Nt.lst
 | dk ds=>obtain⟨xs,q1,q2,q3⟩:=t;rw[q1];exact Nt.dK
 | dt ds=>obtain⟨xs,q1,q2,q3⟩:=t;rw[q1];exact Nt.dT
 | ob c gs=>obtain⟨C,dx,xs,q1,q2,q3⟩:=t;rw[q1];exact Nt.ins
 | _=>exact t.elim
theorem Bg {α:Type}{l:List α}{x z:α}(h:(l.set i x)[j]?=some z):(j=i/\z=x/\i<l.length)∨(j≠i/\l[j]?=some z):=by
 by_cases hj:j=i
 ·subst hj
  by_cases hl:j<l.length
  ·rw[z10 hl] at h;exact .inl ⟨rfl,(z0e h).symm,hl⟩
  ·rw[z19 (by simpa using z0Z.mp hl)] at h;cases h
 ·rw[z0D (Ne.symm hj)] at h;exact .inr ⟨hj,h⟩
theorem OkW.setW {ρ:Rho}{d:D}(w:OkW G A0 He A σ H ρ) (s:Same H H') (hp:H p=none) (t:Top G (p::A) H' p d) (i:Nat) (hi0:i≠0):OkW G A0 He (p::A) (σ.set i (some (.ref p))) H' (ρ.set i (.ow d)):=by
 have hf:=w.ok.fill (Hc:=H') s hp t.live;have hep:He p=none:=w.same.free hp;have npA:p∉A:=λ z=>(w.ok.live p z).ne hp;refine⟨w.same.trans s,λ a ha=>z0b _ (w.sub a ha),λ a ha=>?_,w.l0,⟨by rw[z13,z13];exact hf.len,hf.live,λ j e h=>?_,λ j e h=>?_,λ j k e f q h1 h2 h3 h4=>?_⟩,λ j e q h1 h2=>?_,λ x e hx h0=>by rw[z0D hi0] at h0 ⊢;exact w.lt x e hx h0⟩
 ·rcases z08.mp ha with z | z
  ·rw[z];exact .inr hep
  ·exact w.fr a z
 ·rcases Bg h with ⟨_,hz,_⟩ | ⟨hj,hz⟩
  ·cases hz
  ·obtain⟨v,q1,q2⟩:=hf.fz j e hz;exact⟨v,by rw[z0D (Ne.symm hj)];exact q1,q2⟩
 ·rcases Bg h with ⟨hj,hz,hl⟩ | ⟨hj,hz⟩
  ·cases hz;subst hj;exact⟨p,by rw[z10 (by rw[w.ok.len];exact hl)],z0h,t⟩
  ·obtain⟨v,q1,q2,q3⟩:=hf.ow j e hz;exact⟨v,by rw[z0D (Ne.symm hj)];exact q1,q2,q3⟩
 ·have no:∀ (m:Nat) (g:D),ρ[m]?=some (.ow g)->σ[m]?=some (some (.ref q))->q≠p:=λ m g a1 a2 z=>by
   obtain⟨v,b1,b2,_⟩:=w.ok.ow m g a1;rw[a2] at b1;cases b1;exact npA (z▸b2)
  rcases Bg h1 with ⟨hj,_,hl⟩ | ⟨hj,hz⟩
  ·rcases Bg h2 with ⟨hk,_,_⟩ | ⟨hk,hz'⟩
   ·rw[hj,hk]
   ·exfalso;subst hj;rw[z10 (by rw[w.ok.len];exact hl)] at h3;cases h3;rw[z0D (Ne.symm hk)] at h4;exact no k f hz' h4 rfl
  ·rcases Bg h2 with ⟨hk,_,hl⟩ | ⟨hk,hz'⟩
   ·exfalso;subst hk;rw[z10 (by rw[w.ok.len];exact hl)] at h4;cases h4;rw[z0D (Ne.symm hj)] at h3;exact no j e hz h3 rfl
   ·rw[z0D (Ne.symm hj)] at h3;rw[z0D (Ne.symm hk)] at h4;exact w.ok.inj j k e f q hz hz' h3 h4
 ·rcases Bg h1 with ⟨hj,_,hl⟩ | ⟨hj,hz⟩
  ·subst hj;rw[z10 (by rw[w.ok.len];exact hl)] at h2;cases h2;exact λ z=>w.l0 p z hep
  ·rw[z0D (Ne.symm hj)] at h2;exact w.ow0 j e q hz h2
theorem jF {ρ:Rho}{o:Out}{D:Ends}(hi0:i≠0) (w:OkW G A0 He A σ H ρ) (e:setW i fa ρ=some o) (k:Ob G A0 He D o):tAsg (tN G A fa) (GR i) D σ H:=by
 unfold setW at e;cases e1:fa ρ with
 | none=>simp[e1] at e
 | some d=>
  simp only[e1,z0E] at e;cases e;exact⟨ρ,d,w.ok,e1,λ p H1 s1 hp t=>k _ _ ⟨p::A,w.setW s1 hp t i hi0⟩⟩
theorem cT {x:Str}{p:Pos}(h:∀ te,PE X a te->PS X (.Assign [.Name x p] a pos) (tAsg te (GR i))) (ha:PN X G a fa) (hi0:i≠0:=by decide):PSD X G (.Assign [.Name x p] a pos) (setW i fa):=λ A0 He π s σ H D I ⟨ρ,o,⟨A,w⟩,e,k⟩=>
 h _ (@ha A) π s σ H D I (jF hi0 w e k)
theorem OkW.wr {ρ:Rho}{d0 d:D}(w:OkW G A0 He A σ H ρ) (hi:ρ[i]?=some (.ow d0)) (hs:σ[i]?=some (some (.ref p))) (t:Top G A (upd H p o) p d):OkW G A0 He A σ (upd H p o) (ρ.set i (.ow d)):=by
 obtain⟨q,h1,hA,_⟩:=w.ok.ow i d0 hi;rw[hs] at h1;cases h1;have hep:He p=none:=by
  rcases w.fr p hA with z | z
  ·exact absurd z (w.ow0 i d0 p hi hs)
  ·exact z
 have eh:hid A (upd H p o)=hid A H:=Bc hA;refine⟨λ b u h=>by rw[Al (Ck h hep)];exact w.same b u h,w.sub,w.fr,w.l0,⟨by rw[z13];exact w.ok.len,λ b hb=>?_,λ j e h=>?_,λ j e h=>?_,λ j k e f q g1 g2 g3 g4=>?_⟩,λ j e q g1 g2=>?_,λ x e hx h0=>?_⟩
 ·by_cases z:b=p
  ·rw[z];exact t.live
  ·rw[Al z];exact w.ok.live b hb
 ·rcases Bg h with ⟨_,hz,_⟩ | ⟨hj,hz⟩
  ·cases hz
  ·rw[eh];exact w.ok.fz j e hz
 ·rcases Bg h with ⟨hj,hz,hl⟩ | ⟨hj,hz⟩
  ·cases hz;subst hj;exact⟨p,hs,hA,t⟩
  ·obtain⟨q,q1,q2,q3⟩:=w.ok.ow j e hz;have nq:q≠p:=λ z=>hj (w.ok.inj j i e d0 p hz hi (z▸q1) hs);refine⟨q,q1,q2,?_⟩;cases e with
   | lst ds=>obtain⟨xs,a1,a2⟩:=q3;exact⟨xs,by rw[Al nq];exact a1,by rw[eh];exact a2⟩
   | dk ds=>obtain⟨xs,a1,a2,a3⟩:=q3;exact⟨xs,by rw[Al nq];exact a1,a2,by rw[eh];exact a3⟩
   | dt ds=>obtain⟨xs,a1,a2,a3⟩:=q3;exact⟨xs,by rw[Al nq];exact a1,a2,by rw[eh];exact a3⟩
   | ob c gs=>obtain⟨C,dx,xs,a1,a2,a3⟩:=q3;exact⟨C,dx,xs,by rw[Al nq];exact a1,a2,by rw[eh];exact a3⟩
   | _=>exact q3.elim
 ·have up:∀ (m:Nat) (g:D),(ρ.set i (.ow d))[m]?=some (.ow g)->∃ g',ρ[m]?=some (.ow g'):=λ m g z=>by
   rcases Bg z with ⟨hm,_,_⟩ | ⟨_,hz⟩
   ·exact⟨d0,by rw[hm];exact hi⟩
   ·exact⟨g,hz⟩
  obtain⟨e',z1⟩:=up j e g1;obtain⟨f',z2⟩:=up k f g2;exact w.ok.inj j k e' f' q z1 z2 g3 g4
 ·rcases Bg g1 with ⟨hj,_,_⟩ | ⟨hj,hz⟩
  ·subst hj;exact w.ow0 j d0 q hi g2
  ·exact w.ow0 j e q hz g2
 ·rcases Bg h0 with ⟨hj,_,_⟩ | ⟨_,hz⟩
  ·exact w.lt x d0 hx (by rw[hj];exact hi)
  ·exact w.lt x e hx hz
theorem G6 {ρ:Rho}{d:D}(h:ownO ρ i=some d):ρ[i]?=some (.ow d):=by
 unfold ownO at h;split at h
 ·rename_i e;cases h;exact e
 ·cases h
theorem Z7 {g:D->D->Option D}{ρ:Rho}{o:Out}(h:mutF g i fa ρ=some o):∃ v x y,fa ρ=some v/\ρ[i]?=some (.ow x)/\g x v=some y/\o=.nx (ρ.set i (.ow y)):=by
 unfold mutF at h;cases e1:fa ρ with
 | none=>simp[e1] at h
 | some v=>
  cases e2:ownO ρ i with
  | none=>simp[e1,e2] at h
  | some x=>
   cases e3:g x v with
   | none=>simp[e1,e2,e3] at h
   | some y=>
    simp[e1,e2,e3] at h;exact⟨v,x,y,rfl,G6 e2,e3,h.symm⟩
theorem Ly {x:Str}(hv:PE X (.Name x xpos) (tVar i)) (ha:PF X G a fa)
  (hbase:attributeBase (.Name x xpos) "append" X.env (eval (.Name x xpos) X.env)=eval (.Name x xpos) X.env:=by rfl)
  (hfew:((backTo pos (starEach [a] X.env)).all (λ x=>!x.1)&&(backToKw pos (keywordEach [] X.env)).all (λ x=>x.1.isSome)&&decide ([a].length+([]:List Keyword).length+(if ([]:List Keyword).isEmpty then 0 else 1)<30))=true:=by rfl)
  (hline:(apos.endLine==pos.line)=true:=by rfl) (hs:starEach [a] X.env=[(false,eval a X.env)]:=by rfl) (hsw:swapsWith (.Call (.Attribute (.Name x xpos) "append" apos) [a] [] pos) none p2.line X.env=pure false:=by rfl) :
  PSD X G (.Expr (.Call (.Attribute (.Name x xpos) "append" apos) [a] [] pos) p2) (mutF appL i fa):=λ A0 He π s σ H D I ⟨ρ,o,⟨A,w⟩,e,k⟩=>by
 obtain⟨v,x0,y,e1,hi,e2,rfl⟩:=Z7 e;refine O3 (Xm z1m PySem.F.slot_list_append PySem.F.type_list_append Kd hv (Cu (@ha A) Fi hs) hbase hfew hline hs rfl) hsw π s σ H D I ?_;unfold appL at e2;split at e2
 ·rename_i ds;split at e2
  ·rename_i hz;cases e2;obtain⟨p,h1,hA,xs,h2,r⟩:=w.ok.ow i _ hi;refine⟨_,h1,.inl ⟨rfl,xs,.of h2⟩,ρ,v,w.ok,e1,λ u H1 s1 r1=>⟨p,xs,u,rfl,rfl,s1 _ _ h2,by rw[r.1];exact hz,?_⟩⟩;have w1:=w.mono s1;refine k _ _ ⟨A,w1.wr hi h1 ⟨xs++[u],Ag,?_⟩⟩;rw[Bc hA];exact (r.mono (Ar s1)).append (.cons r1 .nil)
  ·cases e2
 ·cases e2
theorem Inv.frzK {kvs:List (Key×V)}(I:Inv X π σ H s) (e:H p=some (.dK kvs)):∃ o,Inv X π σ (upd H p (.frz o (.dK kvs))) s:=by
 obtain⟨z,hd,vs,rel,dd⟩:=lA I.hok e;obtain⟨o,es,ep,ho,h2⟩:=id dd;exact⟨o,O6 (h':=s.heap) (t':=s.toks) I (by rw[e];exact True.intro) ⟨rfl,λ _ _=>rfl⟩ ⟨o,ho⟩ ⟨ho,z,hd,vs,rel,dd⟩⟩
theorem Inv.frzT (I:Inv X π σ H s) (e:H p=some (.dT kvs)):∃ o,Inv X π σ (upd H p (.frz o (.dT kvs))) s:=by
 obtain⟨z,hd,vs,rel,o,es,ep,ho,h3,h4,h5,h6⟩:=I.hok p _ e;refine⟨o,O6 (h':=s.heap) (t':=s.toks) I (by rw[e];exact True.intro) ⟨rfl,λ _ _=>rfl⟩ ⟨o,ho⟩ ⟨ho,z,hd,vs,KT.keeps rel λ c ys ec=>?_,o,es,ep,ho,h3,h4,h5,h6⟩⟩;rw[Al (kJ ec e (λ z=>nomatch z))];exact ec
theorem OkW.frzC {ρ:Rho}{d:D}(w:OkW G A0 He A σ H ρ) (hi:ρ[i]?=some (.ow d)) (h1:σ[i]?=some (some (.ref p))) (hA:p∈A) (hh:∀ b,b≠p->H' b=H b)
  (rp:Same (hid A H) (hid (A.filter λ b=>decide (b≠p)) H')->hid (A.filter λ b=>decide (b≠p)) H' p=H' p->Rep G (hid (A.filter λ b=>decide (b≠p)) H') (.ref p) d):OkS G A0 He σ H' (ρ.set i (.fz d)):=by
 have hn:=w.ow0 i d p hi h1;have hmem:∀ b,b∈A.filter (λ b=>decide (b≠p))↔b∈A/\b≠p:=λ b=>by simp[z0q]
 have sm:Same (hid A H) (hid (A.filter λ b=>decide (b≠p)) H'):=λ b o h=>by
  unfold hid at h ⊢;split at h
  ·cases h
  ·rename_i hb;have hbp:b≠p:=λ z=>hb (z▸hA);rw[if_neg (λ z=>hb ((hmem b).mp z).1),hh b hbp];exact h
 have rp:=rp sm (Av λ z=>((hmem p).mp z).2 rfl);have hep:He p=none:=(w.fr p hA).resolve_left hn;refine⟨A.filter λ b=>decide (b≠p),λ b o h=>?_,λ b hb=>(hmem b).mpr ⟨w.sub b hb,λ z=>hn (z▸hb)⟩,λ b hb=>w.fr b ((hmem b).mp hb).1,w.l0,⟨by rw[z13];exact w.ok.len,λ b hb=>?_,λ j e h=>?_,λ j e h=>?_,λ j k e f q g1 g2 g3 g4=>?_⟩,λ j e q g1 g2=>?_,λ x e hx h0=>?_⟩
 ·have hbp:b≠p:=λ z=>by rw[z,hep] at h;cases h
  rw[hh b hbp];exact w.same b o h
 ·obtain⟨z1,z2⟩:=(hmem b).mp hb;rw[hh b z2];exact w.ok.live b z1
 ·rcases Bg h with ⟨hj,hz,_⟩ | ⟨hj,hz⟩
  ·cases hz;subst hj;exact⟨_,h1,rp⟩
  ·obtain⟨v,q1,q2⟩:=w.ok.fz j e hz;exact⟨v,q1,q2.mono sm⟩
 ·rcases Bg h with ⟨_,hz,_⟩ | ⟨hj,hz⟩
  ·cases hz
  ·obtain⟨q,q1,q2,q3⟩:=w.ok.ow j e hz;have nq:q≠p:=λ z=>hj (w.ok.inj j i e d p hz hi (z▸q1) h1);refine⟨q,q1,(hmem q).mpr ⟨q2,nq⟩,?_⟩;cases e with
   | lst ds=>obtain⟨xs,a1,a2⟩:=q3;exact⟨xs,by rw[hh q nq];exact a1,a2.mono sm⟩
   | dk ds=>obtain⟨xs,a1,a2,a3⟩:=q3;exact⟨xs,by rw[hh q nq];exact a1,a2,a3.mono sm⟩
   | dt ds=>obtain⟨xs,a1,a2,a3⟩:=q3;exact⟨xs,by rw[hh q nq];exact a1,a2,a3.mono sm⟩
   | ob c gs=>obtain⟨C,dx,xs,a1,a2,a3⟩:=q3;exact⟨C,dx,xs,by rw[hh q nq];exact a1,a2,a3.mono sm⟩
   | _=>exact q3.elim
 ·rcases Bg g1 with ⟨_,hz,_⟩ | ⟨_,z1⟩
  ·cases hz
  ·rcases Bg g2 with ⟨_,hz,_⟩ | ⟨_,z2⟩
   ·cases hz
   ·exact w.ok.inj j k e f q z1 z2 g3 g4
 ·rcases Bg g1 with ⟨_,hz,_⟩ | ⟨_,z1⟩
  ·cases hz
  ·exact w.ow0 j e q z1 g2
 ·rcases Bg h0 with ⟨_,hz,_⟩ | ⟨_,z1⟩
  ·cases hz
  ·exact w.lt x e hx z1
theorem OkS.frz {π:zP}{s:Shared}{A0:List Addr}{He:Hp}{σ:St}{H:Hp}{ρ:Rho}(I:Inv X π σ H s) (w:OkS G A0 He σ H ρ) (i:Nat):∃ H',Inv X π σ H' s/\OkS G A0 He σ H' (frz1 ρ i):=by
 unfold frz1;split
 ·rename_i d hi;obtain⟨A,w⟩:=w;obtain⟨p,h1,hA,t⟩:=w.ok.ow i d hi;cases d with
  | lst ds=>
   obtain⟨xs,a1,a2⟩:=t;exact⟨H,I,w.frzC hi h1 hA (λ _ _=>rfl) λ sm hp=>.lst (.of (by rw[hp];exact a1)) (a2.mono sm).1 (a2.mono sm).2⟩
  | dk ds=>
   obtain⟨xs,a1,a2,a3⟩:=t;obtain⟨o,I'⟩:=Inv.frzK I a1;exact⟨_,I',w.frzC hi h1 hA (λ b hb=>Al hb) λ sm hp=>.dk (by rw[hp];exact Ag) a2 (a3.mono sm).2⟩
  | dt ds=>
   obtain⟨xs,a1,a2,a3⟩:=t;obtain⟨o,I'⟩:=Inv.frzT I a1;exact⟨_,I',w.frzC hi h1 hA (λ b hb=>Al hb) λ sm hp=>.dt (by rw[hp];exact Ag) a2 (a3.mono sm).2⟩
  | ob c gs=>
   obtain⟨C,dx,xs,a1,a2,a3⟩:=t;exact⟨H,I,w.frzC hi h1 hA (λ _ _=>rfl) λ sm hp=>.ob a2.1 (by rw[hp];exact a1) a2.2 (a3.mono sm).2⟩
  | _=>exact t.elim
 ·exact⟨H,I,w⟩
theorem YX {π:zP}{s:Shared}{A0:List Addr}{He:Hp}{σ:St}:∀ (is:List Nat) {H:Hp}{ρ:Rho},Inv X π σ H s->OkS G A0 He σ H ρ->∃ H',Inv X π σ H' s/\OkS G A0 He σ H' (is.foldl frz1 ρ)
 | [],H,_,I,w=>⟨H,I,w⟩
 | i::r,_,_,I,w=>let ⟨_,I1,w1⟩:=w.frz I i;YX r I1 w1
theorem G_ {g:FS}(is:List Nat) (h:PSD X G st g):PSD X G st (fzS is g):=λ A0 He π s σ H D I ⟨ρ,o,ok,e,k⟩=>
 let ⟨H',I',ok'⟩:=YX is I ok
 @h A0 He π s σ H' D I' ⟨is.foldl frz1 ρ,o,ok',e,k⟩
end
section
variable {G:Gx}{a b c:Expr}{fa fb fc:FE}{p2 px:Pos}{t:Str}{elt iter:Expr}{ifs:List Expr}{ga:FT}{fe:FE}{src:FI}
end
end PV
namespace PV
open PySem PySem.Spec
section
variable {A:Around}
def btx (w:World):Bool:=w.params.followText "set-order"
def keyOf (e:Int×Value):Str:=match e.2 with | .str k _=>k | _=>Str.empty
def EntS (w:World) (e:Int×Value) (k:Str):Prop:=e.1=hashStr w k/\∃ t,e.2=.str k t
structure FX (w:World) (es:Array (Int×Value)) (t:SetTable) (ks:List Str):Prop where
 ent:∀ e∈es.toList,EntS w e (keyOf e)
 perm:(es.toList.map keyOf).Perm ks
 nd:ks.Nodup
 sz:es.size<scanBound
 fits:t.fits es.size=true
 led:btx w=false->t.led=true
 plain:es.size≠0->t.plain=false
def ObX (h:Heap) (a:Addr) (es:Array (Int×Value)) (t:SetTable):Prop:=∃ o ep,h.get? a=some o/\o.ExactSet/\o.data=.set es ep t
def SetX (w:World) (h:Heap) (a:Addr) (ks:List Str):Prop:=∃ es t,ObX h a es t/\FX w es t ks
theorem SetX.keep (x:SetX w h a ks) (e:∀ o,h.get? a=some o->h'.get? a=some o):SetX w h' a ks:=by
 obtain⟨es,t,⟨o,ep,g,q⟩,f⟩:=x;exact⟨es,t,⟨o,ep,e o g,q⟩,f⟩
theorem SetX.typeIs (x:SetX w s.heap a ks):s.TypeIs (.ref a) "set":=
 let ⟨_,_,⟨o,_,g,q,_⟩,_⟩:=x;⟨o,g,q.1⟩
theorem FX.len {es:Array (Int×Value)}{t:SetTable}(f:FX w es t ks):es.size=ks.length:=by simpa using f.perm.length_eq
def addK (ks:List Str) (k:Str):List Str:=if k∈ks then ks else ks++[k]
theorem FX.more {es es1:Array (Int×Value)}{t t1:SetTable}{k:Str}{u:Tok}(f:FX w es t ks) (nk:k∉ks) (p:es1.toList.Perm (es.toList++[(hashStr w k,.str k u)])) (r:ks.length+1<scanBound) (q1:t1.fits es1.size=true) (q2:t1.led=t.led) (q3:t1.plain=false):FX w es1 t1 (addK ks k):=by
 have l:es1.size=es.size+1:=by simpa using p.length_eq
 unfold addK;rw[if_neg nk];refine⟨λ e m=>(z0L.mp (p.mem_iff.mp m)).elim (f.ent e) λ m=>?_,?_,z0u.mpr ⟨f.nd,by simp,λ x hx y hy e=>nk ?_⟩,by rw[l,f.len];exact r,q1,λ b=>q2.trans (f.led b),λ _=>q3⟩
 ·cases z1h.mp m;exact⟨rfl,u,rfl⟩
 ·have:=p.map keyOf;rw[z0y] at this;exact this.trans (f.perm.append_right _)
 ·cases z1h.mp hy;rw[<-e];exact hx
end
section
variable {A:Around}{R:Result->Shared->Prop}{I:Addr}{wr:List Addr}{P:Nat->Value->Prop}{Sx:Nat->Heap->Prop}
end
section
variable {A:Around}
end
section
variable {A:Around}{I T:Addr}{first:Value}{es:Array (Int×Value)}{t:SetTable}
def ItX (h:Heap) (I q:Addr) (first:Value) (j n ep:Nat):Prop:=∃ o,h.get? I=some o/\o.cls=.type "set_iterator"/\o.data=.fields #[first,.int j 0,.ref q,.int n 0,.int ep 0]
def cU (h:Heap) (q:Addr) (es:Array (Int×Value)) (ep:Nat) (t:SetTable):Prop:=∃ o,h.get? q=some o/\o.ExactSet/\o.data=.set es ep t
theorem ItX.ty (x:ItX s.heap I q first j n ep):s.TypeIs (.ref I) "set_iterator":=let ⟨o,g,c,_⟩:=x;⟨o,g,c⟩
end
section
variable {A:Around}{I T:Addr}{first:Value}{es:Array (Int×Value)}{t:SetTable}
theorem JX {α:Type}:∀ {l:List α}{i:Nat}(h:i<l.length),(l[i]::l.eraseIdx i).Perm l
 | x::r,0,_=>List.Perm.refl _
 | x::r,i+1,h=>(List.Perm.swap x (r[i]'(by simpa using h)) _).trans (List.Perm.cons x (JX (by simpa using h)))
theorem cV {src:Source}{Q:Nat->Shared->Prop}(hn:n≠0) (k:∀ i d,i<n->Q i { s with drawn:=d }):wpAny M A (choose src n) Q E s:=λ Γ p _=>by
 show Sem.wp M Γ (.choose src n .pure) _ _ p s;rw[Sem.wp_choose];exact⟨hn,k _ _ (Nat.mod_lt _ (Nat.pos_of_ne_zero hn))⟩
theorem Qo {α:Type}{M:Model}:∀ (m:Nat) (xs:List α) (s:Shared) {Q:List α->Shared->Prop},xs.length=m->(∀ ys d,ys.Perm xs->Q ys { s with drawn:=d })->wpAny M A (drawOrder m xs) Q E s
 | 0,xs,s,Q,hl,k=>by
  have:xs=[]:=List.length_eq_zero_iff.mp hl;subst this;exact z09 (k [] s.drawn (List.Perm.refl _))
 | m+1,[],s,Q,hl,k=>by simp at hl
 | m+1,x::r,s,Q,hl,k=>by
  show wpAny M A (choose .order (x::r).length >>= _) Q E s;refine z02 (cV (by simp) λ i d hi=>?_);have hg:(x::r)[i]?=some (x::r)[i]:=by simp
  simp only[hg];refine z02 (Qo m ((x::r).eraseIdx i) _ (by rw[List.length_eraseIdx,if_pos hi];simp at hl ⊢;omega) λ ys d2 hp=>z09 (k _ d2 ?_));exact (List.Perm.cons _ hp).trans (JX hi)
theorem cU.keep (y:cU h q es ep t) (e:∀ o,h.get? q=some o->h'.get? q=some o):cU h' q es ep t:=let ⟨o,g,r⟩:=y;⟨o,e o g,r⟩
theorem ItX.keep (x:ItX h I q first j n ep) (e:∀ o,h.get? I=some o->h'.get? I=some o):ItX h' I q first j n ep:=let ⟨o,g,r⟩:=x;⟨o,e o g,r⟩
end
section
variable {A:Around}{I T:Addr}{first:Value}{es:Array (Int×Value)}{t:SetTable}
end
section
variable {A:Around}{I T:Addr}
end
theorem Lz:∀ {r:List Str}{p:Str},PyProof.Rows.risingS p r=true->(p::r).Nodup->Up (p::r)
 | [],p,_,_=>by simp[Up]
 | x::r,p,h,nd=>by
  unfold PyProof.Rows.risingS at h;rw[z0C] at h;obtain⟨h1,h2⟩:=h;obtain⟨n1,n2⟩:=z0G.mp nd;have u:=Lz h2 n2;have lt:ltS p x=true:=YK (by unfold ltS;simpa [PyProof.Rows.ltCps_eq] using h1) (λ e=>n1 (by rw[<-e];exact z0h));refine z1g.mpr ⟨λ y m=>?_,u⟩
  rcases z08.mp m with e | m
  ·rw[e];exact lt
  ·exact M5 lt ((z1g.mp u).1 y m)
theorem Ug (h:PyProof.Rows.sortedS l=true) (nd:l.Nodup):Up l:=by
 cases l with
 | nil=>exact List.Pairwise.nil
 | cons p r=>exact Lz h nd
section
variable {A:Around}
end
open L2
section
variable {G:Gx}{a:Expr}{fa:FE}
theorem R6:∀ {xs:List Str}{us:List Value},PyProof.Rows.StrsAre us xs->Vals (xs.map V.str) us
 | _,_,.nil=>.nil
 | _,_,.cons _ u r=>.cons ⟨u,rfl⟩ (R6 r)
theorem cW {ds:List D}{zs:List Str}(r:RepL G H xs ds) (h:Ks ds=some zs):xs=zs.map V.str:=Vn r h
end
end PV
namespace PV
open PySem PySem.Spec L2
open PyProof.Rows hiding St
def getK {κ:Type} [DecidableEq κ] (k:κ):List (κ×D)->Option D
 | []=>none
 | p::r=>if p.1=k then some p.2 else getK k r
def repK {κ:Type} [DecidableEq κ] (k:κ) (v:D):List (κ×D)->List (κ×D)
 | []=>[]
 | p::r=>(p.1,if p.1=k then v else p.2)::repK k v r
def putL {κ:Type} [DecidableEq κ] (k:κ) (v:D) (kds:List (κ×D)):List (κ×D):=if (getK k kds).isSome then repK k v kds else kds++[(k,v)]
def keyD:D->Option Key
 | .int i=>some (.inl i)
 | .str x=>some (.inr x)
 | _=>none
def J5:List D->Option (List Key)
 | []=>some []
 | d::r=>(keyD d).bind λ k=>(J5 r).map (k::·)
section
variable {κ:Type} [DecidableEq κ] {G:Gx}
theorem Ke {k:κ}:∀ {kds:List (κ×D)}{kvs:List (κ×V)},kvs.map (·.1)=kds.map (·.1)->RepL G H (kvs.map (·.2)) (kds.map (·.2))->(∀ d,getK k kds=some d->∃ v,valV kvs k=some v/\Rep G H v d)/\(valV kvs k).isSome=(getK k kds).isSome
 | [],kvs,e,r=>by
  cases kvs with
  | nil=>exact⟨λ d h=>by simp[getK] at h,rfl⟩
  | cons p q=>simp at e
 | p::kds,kvs,e,r=>by
  cases kvs with
  | nil=>simp at e
  | cons q kvs=>
   rw[z03,z03] at e;injection e with e1 e2
   rw[z03,z03] at r;obtain⟨x,ys,e3,r1,r2⟩:=r.uncons;injection e3 with e4 e5
   subst e4 e5;have ih:=Ke (k:=k) e2 r2
   by_cases h:p.1=k
   ·have h':q.1=k:=e1.trans h;rw[Li h'];refine⟨λ d hd=>?_,?_⟩
    ·simp only[getK,if_pos h] at hd;cases hd;exact⟨_,rfl,r1⟩
    ·simp[getK,if_pos h]
   ·have h':¬ q.1=k:=λ z=>h (e1.symm.trans z);rw[Lj h'];simp only[getK,if_neg h];exact ih
theorem YZ {k:κ}{v:V}{d:D}(rv:Rep G H v d):∀ {kds:List (κ×D)}{kvs:List (κ×V)},kvs.map (·.1)=kds.map (·.1)->RepL G H (kvs.map (·.2)) (kds.map (·.2)) ->
  (kvs.map λ kv=>if kv.1=k then (kv.1,v) else kv).map (·.1)=(repK k d kds).map (·.1)/\RepL G H ((kvs.map λ kv=>if kv.1=k then (kv.1,v) else kv).map (·.2)) ((repK k d kds).map (·.2))
 | [],kvs,e,r=>by
  cases kvs with
  | nil=>exact⟨rfl,RepL.nil⟩
  | cons p q=>simp at e
 | p::kds,kvs,e,r=>by
  cases kvs with
  | nil=>simp at e
  | cons q kvs=>
   rw[z03,z03] at e;injection e with e1 e2
   rw[z03,z03] at r;obtain⟨x,ys,e3,r1,r2⟩:=r.uncons;injection e3 with e4 e5
   subst e4 e5;have ih:=YZ rv (k:=k) e2 r2
   by_cases h:p.1=k
   ·have h':q.1=k:=e1.trans h;refine⟨?_,?_⟩
    ·simp only[z03,if_pos h',repK];rw[ih.1,e1]
    ·simp only[z03,if_pos h',repK,if_pos h];exact .cons rv ih.2
   ·have h':¬ q.1=k:=λ z=>h (e1.symm.trans z);refine⟨?_,?_⟩
    ·simp only[z03,if_neg h',repK];rw[ih.1,e1]
    ·simp only[z03,if_neg h',repK,if_neg h];exact .cons r1 ih.2
theorem Py {k:κ}{d:D}(rv:Rep G H v d) {kds:List (κ×D)}{kvs:List (κ×V)}(e:kvs.map (·.1)=kds.map (·.1)) (r:RepL G H (kvs.map (·.2)) (kds.map (·.2))) :
  (putK kvs k v).map (·.1)=(putL k d kds).map (·.1)/\RepL G H ((putK kvs k v).map (·.2)) ((putL k d kds).map (·.2)):=by
 unfold putK putL;rw[QZ,(Ke (k:=k) e r).2];split
 ·exact YZ rv e r
 ·rw[z0y,z0y,z0y,z0y,e];exact⟨rfl,r.append (.cons rv .nil)⟩
end
theorem Vo {G:Gx}{d:D}{k:Key}(r:RepT G A H v d) (h:keyD d=some k):v=kV k:=by
 cases d with
 | int i=>cases h;exact r.int
 | str x=>cases h;exact r.str
 | _=>cases h
theorem Iz {G:Gx}{d:D}{k:Key}(r:Rep G H v d) (h:keyD d=some k):v=kV k:=by
 cases d with
 | int i=>cases h;cases r;rfl
 | str x=>cases h;cases r;rfl
 | _=>cases h
theorem NQ {G:Gx}{H:Hp}:∀ {ds:List D}{vs:List V}{ks:List Key},RepL G H vs ds->J5 ds=some ks->vs=ks.map kV
 | [],vs,ks,r,h=>by cases h;exact r.nil_inv
 | d::ds,vs,ks,r,h=>by
  obtain⟨x,ys,rfl,r1,r2⟩:=r.uncons;cases e1:keyD d with
  | none=>simp[J5,e1] at h
  | some k=>
   cases e2:J5 ds with
   | none=>simp[J5,e1,e2] at h
   | some ks'=>
    simp[J5,e1,e2] at h;subst h;rw[Iz r1 e1,NQ r2 e2];rfl
section
variable {G:Gx}{a b c:Expr}{fa fb fc:FE}{p2 px:Pos}{fs:FA}
theorem Jo:PN X G (.Dict [] [] pos) (kF (.dk [])):=λ A=>CV bU λ σ H Q ⟨ρ,d,o,e,k⟩=>by
 cases e;exact λ p hp=>k p _ (Aq hp _) hp ⟨[],Ag,rfl,RepL.nil⟩
theorem qu:PN X G (.Dict [] [] pos) (kF (.dt [])):=λ A=>CV bV λ σ H Q ⟨ρ,d,o,e,k⟩=>by
 cases e;exact λ p hp=>k p _ (Aq hp _) hp ⟨[],Ag,rfl,RepL.nil⟩
theorem PN.pf (h:PN X G a fa):PF X G a fa:=λ A π s σ H Q I ⟨ρ,d,o,e,k⟩=>
 thn (@h A π s σ H (λ v H'=>∃ p,v=.ref p/\Same H H'/\H p=none/\Top G (p::A) H' p d) I ⟨ρ,d,o,e,λ p H' sm hp t=>⟨p,rfl,sm,hp,t⟩⟩) λ u s1 ⟨v,H1,I1,r1,p,ev,sm,hp,t⟩=>by
  subst ev;have hpA:p∉A:=λ z=>(o.live p z).ne hp;have up:∀ ob,Same (hid (p::A) H1) (hid A (upd H1 p ob)):=λ ob=>by
   rw[<-Bc (A:=p::A) (H:=H1) (o:=ob) (z0h ..)];exact Cv λ b hb=>z0b _ hb
  have sm':∀ ob,Same H (upd H1 p ob):=λ ob b u hb=>by
   rw[Al (λ z:b=p=>by rw[z,hp] at hb;cases hb)];exact sm b u hb
  cases d with
  | lst ds=>
   obtain⟨xs,a1,a2⟩:=t;have q:=a2.mono (Cv (A:=A) (B:=p::A) (H:=H1) λ b hb=>z0b _ hb);exact⟨_,H1,I1,r1,k _ H1 sm (.lst (.of (by rw[Av hpA];exact a1)) q.1 q.2)⟩
  | dk ds=>
   obtain⟨xs,a1,a2,a3⟩:=t;obtain⟨ob,I2⟩:=Inv.frzK I1 a1;exact⟨_,_,I2,r1,k _ _ (sm' _) (.dk (by rw[Av hpA];exact Ag) a2 (a3.mono (up _)).2)⟩
  | dt ds=>
   obtain⟨xs,a1,a2,a3⟩:=t;obtain⟨ob,I2⟩:=Inv.frzT I1 a1;exact⟨_,_,I2,r1,k _ _ (sm' _) (.dt (by rw[Av hpA];exact Ag) a2 (a3.mono (up _)).2)⟩
  | ob c gs=>
   obtain⟨C,dx,xs,a1,a2,a3⟩:=t;have q:=a3.mono (Cv (A:=A) (B:=p::A) (H:=H1) λ b hb=>z0b _ hb);exact⟨_,H1,I1,r1,k _ H1 sm (.ob a2.1 (by rw[Av hpA];exact a1) a2.2 q.2)⟩
  | _=>exact t.elim
theorem lK:PF X G (.Dict [] [] pos) (kF (.dk [])):=PN.pf Jo
def rDIn (neg:Bool):R2:=λ x y H Q=>∃ a kvs k,y=.ref a/\Rd H a (.dK kvs)/\x=kV k/\Q (.bl (if neg then !(valV kvs k).isSome else (valV kvs k).isSome)) H
theorem W5 (hu:X.A.units+1<cLine):OpR X (compareOp .In) (rDIn false):=by
 intro π s σ H x y v u Q I rx ry h;obtain⟨a,kvs,k,rfl,e,rfl,q⟩:=h;cases ry;exact d_in hu I (.inl ⟨kvs,k,e,rfl,rfl⟩) rx λ s' I'=>⟨.bl _,H,I',rfl,q⟩
def inE (neg:Bool) (x y:D):Option D:=match y with
 | .dk kds=>(keyD x).map λ k=>.bl (if neg then !(getK k kds).isSome else (getK k kds).isSome)
 | _=>inD neg x y
theorem jG (neg:Bool):DY G (λ x y H Q=>rInA G.K neg x y H Q∨rDIn neg x y H Q) (inE neg):=by
 intro A H x y dx dy d Q lv rx ry h k;unfold inE at h;split at h
 ·rename_i kds;cases e:keyD dx with
  | none=>simp[e] at h
  | some q=>
   obtain⟨p,kvs,rfl,h1,h2,r⟩:=ry.dk;have h3:=(Ke (k:=q) h2 r).2;rw[e] at h;cases h;refine .inr ⟨p,kvs,q,rfl,h1,Vo rx e,?_⟩;rw[h3];exact k _ H (Same.refl H) (.bl _)
 ·exact .inl (oJ neg A H x y dx dy d Q lv rx ry h k)
def rDIx:R2:=λ x y H Q=>∃ a kvs k v,x=.ref a/\Rd H a (.dK kvs)/\y=kV k/\valV kvs k=some v/\Q v H
theorem qw (hu:X.A.units+1<cLine):IxR X rDIx:=by
 intro value slice π s σ H x y v u Q I rx ry h hs;obtain⟨a,kvs,k,z,rfl,e,rfl,l,q⟩:=h;cases rx;have g:DGet H a (kV k) (some z):=.inl ⟨kvs,k,e,rfl,l.symm⟩;have hT:=VR I g;unfold subscriptTail;refine z02 ?_;rw[getitemInPython_of_ne hT.not_modules];refine z02 (wpAny_specialOf hT PySem.F.slot_dict_getitem.lookup ?_);have fin:wpAny (model X.prog X.w) X.A (subscripted slice false (.ref a) u) (λ r s₃=>wpAny (model X.prog X.w) X.A (letTemporaryGo value (.ref a) r >>= λ _=>pure r) (EP X π σ Q) X.xe s₃) X.xe s:=by
  rw[hs];exact wpAny_operating (Zx hu I g ry λ w' s3 I3 rw'=>z02 (wpAny_letTemporaryGo (z09 ⟨z,H,I3,rw',q⟩)))
 first
  | exact z09 (z02 fin)
  | exact z02 (z09 (z02 fin))
  | exact z02 fin
def ixE (x y:D):Option D:=match x with
 | .dk kds=>(keyD y).bind λ k=>getK k kds
 | _=>ixD x y
theorem jH:DY G (λ x y H Q=>rIx G.K x y H Q∨rDIx x y H Q) ixE:=by
 intro A H x y dx dy d Q lv rx ry h k;unfold ixE at h;split at h
 ·rename_i kds;cases e:keyD dy with
  | none=>simp[e] at h
  | some q=>
   obtain⟨p,kvs,rfl,h1,h2,r⟩:=rx.dk;simp[e] at h;obtain⟨v,h3,r3⟩:=(Ke (k:=q) h2 r).1 d h;exact .inr ⟨p,kvs,q,v,rfl,h1,Vo ry e,h3,k v H (Same.refl H) r3⟩
 ·exact .inl (cC A H x y dx dy d Q lv rx ry h k)
theorem oU (hu:X.A.units+1<cLine) (hG:G.K=X.K) (ha:PU X G a fa) (hb:PU X G b fb) (hs:Lh b):PF X G (.Subscript a b pos) (bF ixE fa fb):=
 λ A=>CV (km (r:=λ x y H Q=>rIx X.K x y H Q∨rDIx x y H Q) (bJ.or (qw hu)) (@ha A) (@hb A) hs) λ _ _ _ h=>K9 (by rw[<-hG];exact jH) h
def Cq (x y v:D):Option D:=match x with
 | .dk kds=>(keyD y).bind λ k=>if kds.length<sizeLine then some (.dk (putL k v kds)) else none
 | _=>none
def putF (i:Nat) (fk fv:FE):FS:=λ ρ=>(fv ρ).bind λ v=>(fk ρ).bind λ y=>(ownO ρ i).bind λ x=>(Cq x y v).map λ z=>.nx (ρ.set i (.ow z))
theorem Z8 {ρ:Rho}{o:Out}(h:putF i fa fb ρ=some o):∃ v y x z,fb ρ=some v/\fa ρ=some y/\ρ[i]?=some (.ow x)/\Cq x y v=some z/\o=.nx (ρ.set i (.ow z)):=by
 unfold putF at h;cases e1:fb ρ with
 | none=>simp[e1] at h
 | some v=>
  cases e2:fa ρ with
  | none=>simp[e1,e2] at h
  | some y=>
   cases e3:ownO ρ i with
   | none=>simp[e1,e2,e3] at h
   | some x=>
    cases e4:Cq x y v with
    | none=>simp[e1,e2,e3,e4] at h
    | some z=>
     simp[e1,e2,e3,e4] at h;exact⟨v,y,x,z,rfl,rfl,G6 e3,e4,h.symm⟩
theorem JZ {x:Str}(hu:X.A.units+1<cLine) (hv:PE X (.Name x xpos) (tVar i)) (ha:PF X G a fa) (hb:PF X G b fb)
  (hs:swapsWith b (some (.Subscript (.Name x xpos) a spos)) pos.line X.env=pure false:=by rfl):PSD X G (.Assign [.Subscript (.Name x xpos) a spos] b pos) (putF i fa fb):=λ A0 He π s σ H D I ⟨ρ,o,⟨A,w⟩,e,k⟩=>by
 obtain⟨v,y,x0,z,e1,e2,hi,e3,rfl⟩:=Z8 e;refine O7 hu hv (@ha A) (@hb A) hs π s σ H D I ?_;unfold Cq at e3;split at e3
 ·rename_i kds;cases e4:keyD y with
  | none=>simp[e4] at e3
  | some q=>
   simp only[e4,z0p] at e3;split at e3
   ·rename_i hz;cases e3;obtain⟨p,h1,hA,kvs,h2,hk,r⟩:=w.ok.ow i _ hi;refine⟨ρ,v,w.ok,e1,λ u H1 s1 r1=>⟨_,h1,ρ,y,(w.mono s1).ok,e2,λ yv H2 s2 r2=>?_⟩⟩;have ek:=Iz r2 e4;subst ek;have hl:kvs.length<sizeLine:=by
     have:=congrArg List.length hk;rw[z00,z00] at this;omega
    refine⟨p,_,rfl,DPut.k (s2 _ _ (s1 _ _ h2)) hl,?_⟩;have w2:=(w.mono s1).mono s2;have pk:=Py (k:=q) (r1.mono (Ar s2)) hk (r.mono (Ar (s1.trans s2)));refine k _ _ ⟨A,w2.wr hi h1 ⟨_,Ag,pk.1,?_⟩⟩;rw[Bc hA];exact pk.2
   ·cases e3
 ·cases e3
end
theorem Gr {α β:Type}{R:α->β->Prop}:∀ {xs:List α}{ys:List β}{i:Nat}{x:α}{y:β},Paired R xs ys->xs[i]?=some x->ys[i]?=some y->R x y
 | _,_,i,x,y,.nil,h,_=>by simp at h
 | _,_,0,x,y,.cons r _,h1,h2=>by
  simp at h1 h2;rw[<-h1,<-h2];exact r
 | _,_,i+1,x,y,.cons _ t,h1,h2=>Gr t (by simpa using h1) (by simpa using h2)
def Itd (a:Addr) (o:Obj) (kvs:List (Key×V)):It:=
 ⟨λ i H=>H a=some (.frz o (.dK kvs))/\i<kvs.length,λ i H x H'=>H'=H/\∃ p,kvs[i]?=some p/\x=kV p.1,λ i H=>H a=some (.frz o (.dK kvs))/\kvs.length<=i⟩
theorem relK {k:Key}(h:(Aw P w).is k u=true):RelV (kV k) u:=by
 rcases Br h with ⟨i,t,rfl,rfl⟩ | ⟨x,t,rfl,rfl⟩
 ·exact⟨t,rfl⟩
 ·exact⟨t,rfl⟩
theorem NT {o:Obj}{kvs:List (Key×V)}{es:Array DictEntry}(I:Inv X π σ H s) (e:H a=some (.frz o (.dK kvs))) (hd:o.data=.dict es ep) :
  (a==sysModules)=false/\∃ vs,KV kvs vs/\s.heap.DictAt (Aw X.prog X.w) a vs ep:=by
 obtain⟨ho,z,hm,vs,rel,o',es',ep',ho',h1,h2,h3⟩:=(show BK X.prog X.w H s.heap a (.frz o (.dK kvs)) from I.hok a _ e);rw[ho] at ho';cases ho';rw[hd] at h2;cases h2;exact⟨hm,vs,rel,o,es,ho,h1,hd,h3⟩
theorem Z9 {K:zFr}(a it:Addr) {o:Obj}{es:Array DictEntry}{ep:Nat}(hd:o.data=.dict es ep) (kvs:List (Key×V)):Turn P w K tg (Itd a o kvs) [it] it (λ i h=>h.IsKeyIter it a i kvs.length ep) where
 mem:=by simp
 obj:=λ i h st b hb=>by
  have e:b=it:=by simpa using hb
  subst e;obtain⟨o,e,c,d⟩:=st;exact⟨o,e,λ v z=>by rw[d] at z;cases z⟩
 keep:=λ i h h' st k=>let ⟨o,e,c,d⟩:=st;⟨o,k it (by simp) o e,c,d⟩
 item:=by
  intro X hP hw hK hc i π s σ H E I hf st hg;subst hP hw hK;obtain⟨he,hi⟩:=hg;obtain⟨hm,vs,rel,dd⟩:=NT I he hd;have hl:kvs.length=vs.length:=rel.length;obtain⟨f0,f1,f2,f3,f4,f5⟩:=hf it (by simp);have hv:vs[i]?=some (vs[i]'(by omega)):=by simp[show i<vs.length by omega]
  have hk:kvs[i]?=some (kvs[i]'hi):=by simp[hi]
  have hkk:(kvs[i]'hi).1=(vs[i]'(by omega)).1:=(Gr rel hk hv).1;refine wpAny_pyNext_dict_item (knd:=Aw X.prog X.w) (kvs:=vs) (k:=(vs[i]'(by omega)).1) (v:=(vs[i]'(by omega)).2) (by rw[<-hl];exact st) dd hv λ key h' hkey st' sb=>?_;rw[<-hl] at st';have I1:Inv X π σ H { s with heap:=h' }:=I.turned (t':=s.toks) (λ b o hb e=>(sb.2 b hb).trans e) f0 f1 f3 f4 f5;obtain⟨o1,e1,c1,d1⟩:=id st';exact⟨key,rfl,Rp (s:={ s with heap:=h' }) e1 c1 d1 (by decide) ⟨kV (kvs[i]'hi).1,H,I1,by rw[hkk];exact relK hkey,⟨rfl,_,hk,rfl⟩,st',λ b hb=>(hf b hb).1⟩⟩
 done:=by
  intro X hP hw hK hc i π s σ H E I hf st hg;subst hP hw hK;obtain⟨he,hi⟩:=hg;obtain⟨hm,vs,rel,dd⟩:=NT I he hd;have hl:kvs.length=vs.length:=rel.length;obtain⟨f0,f1,f2,f3,f4,f5⟩:=hf it (by simp);exact wpAny_pyNext_dict_end (I.ok.hd hc) (by rw[<-hl];exact st) dd (by rw[z19];omega) λ h' eb=>⟨rfl,I.turned (t':=s.toks) (λ b o hb e=>eb b o hb e) f0 f1 f3 f4 f5⟩
 self:=λ _ _ _ _ _ st h=>wpAny_pyIter_keyiter st h
section
variable {G:Gx}{a b c:Expr}{fa fb fc:FE}{p2:Pos}{tl:TE}
def qx (tl:TE):TI:=λ σ H R=>tl σ H λ x H1=>∃ a o kvs,x=.ref a/\H1 a=some (.frz o (.dK kvs))/\R (Itd a o kvs) H1
theorem jJ {l:Expr}(hl:PE X l tl):PI X tg l (qx tl):=by
 intro π s σ H R I h;refine thn (hl π s σ H _ I h) λ v s1 ⟨x,H1,I1,r1,q1⟩=>?_;obtain⟨a,o,kvs,e,hq,q⟩:=q1;subst e;cases r1;obtain⟨_,_,_,_,_,o',es,ep,ho',h1,h2,_⟩:=(show BK X.prog X.w H1 s1.heap a (.frz o (.dK kvs)) from I1.hok a _ hq);obtain⟨ho,_⟩:=(show BK X.prog X.w H1 s1.heap a (.frz o (.dK kvs)) from I1.hok a _ hq);rw[ho] at ho';cases ho';obtain⟨hm,vs,rel,dd⟩:=NT I1 hq h2;have hl':kvs.length=vs.length:=rel.length;refine wpAny_pyIter_dict hm dd ?_;refine⟨s1.heap.objs.size,[s1.heap.objs.size],_,_,H1,rfl,I1.kept (t':=s1.toks) λ b o e=>z0c _ e,Z9 a _ h2 kvs,⟨_,z0i _ rfl,rfl,by rw[hl'];rfl⟩,λ b hb=>?_,q⟩;have e:b=s1.heap.objs.size:=by simpa using hb
 subst e;exact I1.fpOk (z01 _) (I1.hok.fresh (z01 _))
def kDt:Key->D
 | .inl i=>.int i
 | .inr x=>.str x
theorem Pz (k:Key):Rep G H (kV k) (kDt k):=by
 cases k with
 | inl i=>exact .int i
 | inr x=>exact .str x
def seqE (f:FE):FI:=λ ρ=>match f ρ with | some (.lst ds)=>some ds | some (.tup ds)=>some ds | some (.dk kds)=>some (kds.map λ p=>kDt p.1) | _=>none
theorem cX {o:Obj}{kvs:List (Key×V)}{kds:List (Key×D)}(h:F1 p=some (.frz o (.dK kvs))) (e:kvs.map (·.1)=kds.map (·.1)):Src G (Itd p o kvs) (kds.map λ p=>kDt p.1) F1 F2:=by
 have hl:kvs.length=kds.length:=by have:=congrArg List.length e;rwa [z00,z00] at this
 refine⟨λ i H s hi=>⟨s _ _ h,by rw[hl];rwa [z00] at hi⟩,λ i H x H' d s hd y=>?_,λ i H s hi=>⟨s _ _ h,by rw[hl];rwa [z00] at hi⟩⟩;obtain⟨y1,q,y2,y3⟩:=y;refine NB ⟨y1,?_⟩;have e1:(kvs.map (·.1))[i]?=some q.1:=by rw[z04,y2];rfl
 rw[e,z04] at e1;rw[z04] at hd;cases e2:kds[i]? with
 | none=>rw[e2] at hd;cases hd
 | some z=>
  rw[e2] at e1 hd;cases hd;injection e1 with e1
  rw[y3,<-e1];exact Pz _
theorem cY (hG:G.K=X.K) (h:PF X G a fa):PFI X G false tg a (seqE fa):=λ A=>Ql (piOr (i_ hG h (A:=A)) (jJ (@h A))) λ σ H R ⟨ρ,ds,o,e,k⟩=>by
 unfold seqE at e;split at e
 ·rename_i ds' e1;cases e;exact .inl ⟨ρ,_,o,by unfold seqI;rw[e1],k⟩
 ·rename_i ds' e1;cases e;exact .inl ⟨ρ,_,o,by unfold seqI;rw[e1],k⟩
 ·rename_i kds e1;cases e;refine .inr ⟨ρ,_,o,e1,λ v H1 s1 r1=>?_⟩;cases r1 with
  | dk h l r=>exact⟨_,_,_,rfl,Am _ _ h,k _ H1 s1 (cX h l)⟩
 ·cases e
end
section
variable {A:Around}
theorem qy {l:Addr}{its:Array Value}(ne:l≠it):∀ (m i:Nat) (s:Shared) (Q:List Value->Shared->Prop),s.heap.IsListIter it l i->s.heap.IsList l its->i+m=its.size ->
  (∀ h',h'.IsListIter it l its.size->Heap.SameBut it s.heap h'->Q (its.toList.drop i) { s with heap:=h' })->wpAny (model prog w) A (draw (.ref it) m) Q E s:=by
 intro m
 induction m with
 | zero=>
  intro i s Q hi hl hm k;refine z09 ?_;have hz:i=its.size:=by omega
  have e:its.toList.drop i=[]:=by rw[List.drop_eq_nil_iff];simp[hz]
  rw[<-e];exact k s.heap (hz▸hi) (Heap.SameBut.refl ..)
 | succ m ih=>
  intro i s Q hi hl hm k;have lt:i<its.size:=by omega
  refine z02 (m:=pyNext (.ref it)) (wpAny_pyNext_list_item hi hl (x:=its[i]) (by simp[lt]) λ h1 hi1 sb1=>?_);have hl1:h1.IsList l its:=let ⟨o,e,r⟩:=hl;⟨o,(sb1.2 l ne).trans e,r⟩;refine z02 (wpAny_holding (ih (i+1) _ _ hi1 hl1 (by omega) λ h2 hi2 sb2=>z09 ?_));have e:its.toList.drop i=its[i]::its.toList.drop (i+1):=by simp[z1l,lt]
  rw[<-e];exact k h2 hi2 (sb1.trans sb2)
theorem jK {l:Addr}{its:Array Value}{Q:List Value->Shared->Prop}(hh:A.handled=none) (hl:s.heap.IsList l its)
  (k:∀ h',Heap.ExtBut s.heap.objs.size s.heap h'->Q its.toList { s with heap:=h' }):wpAny (model prog w) A (unpackItems (.ref l) its.size none) Q E s:=by
 have ne:l≠s.heap.objs.size:=by obtain⟨o,ho,_⟩:=hl;exact z0l (z07 ho)
 have ty:s.TypeIs (.ref l) "list":=let ⟨o,e,c,_⟩:=hl;⟨o,e,c⟩;unfold unpackItems notIterableAtAll;refine z02 (z02 (wpAny_specialOf ty PySem.F.slot_list_iter.lookup (z09 ?_)));simp only[Bool.false_eq_true,if_false];refine z02 (wpAny_holding (wpAny_pyIter_list hl ?_));have hl0:(s.heap.push { cls:=.type "list_iterator",data:=.fields #[.ref l,.int 0 0] }).IsList l its:=let ⟨o,e,r⟩:=hl;⟨o,z0c _ e,r⟩;refine z02 (wpAny_holding (qy ne its.size 0 _ _ ⟨_,z0i _ rfl,rfl,rfl⟩ hl0 (by omega) λ h1 hi1 sb1=>?_));rw[List.drop_zero,if_neg (by simp)];have hl1:h1.IsList l its:=let ⟨o,e,r⟩:=hl0;⟨o,(sb1.2 l ne).trans e,r⟩;refine z02 (wpAny_holding (wpAny_pyNext_list_end hh hi1 hl1 (by simp) λ h2 eb=>?_));simp only[Option.isSome_none,Bool.false_eq_true,if_false];exact z09 (k h2 λ b o hb e=>eb b o hb ((sb1.2 b hb).trans (z0c _ e)))
end
section
variable {G:Gx}{a b c:Expr}{fa fb fc:FE}{p2:Pos}
def gLst (K:zFr) (n:Nat) (t:TGs):TG:=λ v σ H Q=>∃ a xs,v=.ref a/\SqL K H a xs/\xs.length=n/\t xs σ H Q
theorem oV {k:Nat}{t:TGs}(hc:X.calm=true) (h:PGs X es t)
  (hn:(assignEach es X.env).length=n:=by rfl) (hst:(assignEach es X.env).findIdx? (·.1)=none:=by rfl):PG X (.Tuple es k pos) (gLst X.K n t):=by
 intro π s σ H v u Q I r hw;obtain⟨a,xs,rfl,hq,hl,hw⟩:=hw;cases r;obtain⟨its,rv,ht,hz⟩:=I.list hq;rw[assign_Tuple];refine z02 (wpAny_standAt ?_);unfold unpack;have e:(assignEach es X.env).length=its.toArray.size:=by simp[hn,<-hl,rv.length]
 rw[e,hst];refine z02 (wpAny_holding (jK (I.ok.hd hc) ht.isList λ h' hx=>?_));have I1:Inv X π σ H { s with heap:=h' }:=I.kept (t':=s.toks) λ b o e=>hx b o (z0l (z07 e)) e;exact h π _ σ H xs _ Q I1 (by simpa using rv) hw
theorem PG.or {t t':TG}(h:PG X tg t) (h':PG X tg t'):PG X tg (λ v σ H Q=>t v σ H Q∨t' v σ H Q):=λ π s σ H v u Q I r q=>by
 rcases q with q | q
 ·exact h π s σ H v u Q I r q
 ·exact h' π s σ H v u Q I r q
abbrev FGs:=List D->Rho->Option Rho
def nilG:FGs:=λ ds ρ=>match ds with | []=>some ρ | _=>none
def BZ (i:Nat) (g:FGs):FGs:=λ ds ρ=>match ds with | d::r=>g r (ρ.set i (.fz d)) | []=>none
def tupG (n:Nat) (g:FGs):FG:=λ d ρ=>match d with
 | .tup ds=>if ds.length=n then g ds ρ else none
 | .lst ds=>if ds.length=n then g ds ρ else none
 | _=>none
def tGDs (G:Gx) (A0:List Addr) (He:Hp) (g:FGs):TGs:=λ vs σ H Q=>∃ A ρ ds ρ',OkW G A0 He A σ H ρ/\RepL G (hid A H) vs ds/\g ds ρ=some ρ'/\∀ σ' H',OkS G A0 He σ' H' ρ'->Q σ' H'
def PGDs (X:Cx) (G:Gx) (es:List Expr) (g:FGs):Prop:=∀ ⦃A0⦄ He,PGs X es (tGDs G A0 He g)
theorem I_:PGDs X G [] nilG:=λ A0 He π s σ H vs us Q I r ⟨A,ρ,ds,ρ',w,rv,e,k⟩=>by
 unfold nilG at e;split at e
 ·cases e;exact Xg π s σ H vs us Q I r ⟨rv.nil_inv,k _ _ ⟨A,w⟩⟩
 ·cases e
theorem Bt {g:FGs}(h1:PG X e (GR i)) (h2:PGDs X G es g)
  (hs:(assignEach (e::es) X.env).map (·.2)=assign e X.env::(assignEach es X.env).map (·.2):=by rfl):PGDs X G (e::es) (BZ i g):=λ A0 He π s σ H vs us Q I r ⟨A,ρ,ds,ρ',w,rv,e,k⟩=>by
 unfold BZ at e;split at e
 ·rename_i d ds';obtain⟨x,ys,rfl,r1,r2⟩:=rv.uncons;exact QQ h1 (@h2 A0 He) hs π s σ H _ us Q I r ⟨x,ys,rfl,A,_,ds',ρ',w.set r1 i,r2,e,k⟩
 ·cases e
theorem Kf {k:Nat}{g:FGs}(hG:G.K=X.K) (hc:X.calm=true) (h:PGDs X G es g)
  (hn:(assignEach es X.env).length=n:=by rfl) (hst:(assignEach es X.env).findIdx? (·.1)=none:=by rfl):PGD X G (.Tuple es k pos) (tupG n g):=λ A0 He π s σ H v u Q I r ⟨A,ρ,d,ρ',w,rv,e,k⟩=>by
 refine PG.or (aj hc (@h A0 He) hn hst) (oV hc (@h A0 He) hn hst) π s σ H v u Q I r ?_;unfold tupG at e;split at e
 ·rename_i ds;split at e
  ·rename_i hl;cases rv with
   | tup h1 l1 r1=>exact .inl ⟨_,_,rfl,by rw[<-hG];exact Ga Am h1,by rw[l1];exact hl,A,ρ,ds,ρ',w,⟨l1,r1⟩,e,k⟩
  ·cases e
 ·rename_i ds;split at e
  ·rename_i hl;cases rv with
   | lst h1 l1 r1=>exact .inr ⟨_,_,rfl,by rw[<-hG];exact Am.seq h1,by rw[l1];exact hl,A,ρ,ds,ρ',w,⟨l1,r1⟩,e,k⟩
  ·cases e
 ·cases e
def asgF (f:FE) (g:FG):FS:=λ ρ=>(f ρ).bind λ d=>(g d ρ).map .nx
theorem jL {g:FG}(hg:PGD X G tg g) (ha:PF X G a fa) (hs:swapsWithSole [tg] a pos.line X.env=pure false:=by rfl) (hw:swappedStores [tg] a X.env=pure none:=by rfl)
  (h1:(assignEach [tg] X.env).map (·.2)=[assign tg X.env]:=by rfl):PSD X G (.Assign [tg] a pos) (asgF fa g):=λ A0 He π s σ H D I ⟨ρ,o,⟨A,w⟩,e,k⟩=>by
 unfold asgF at e;cases e1:fa ρ with
 | none=>simp[e1] at e
 | some d=>
  cases e2:g d ρ with
  | none=>simp[e1,e2] at e
  | some ρ'=>
   simp[e1,e2] at e;subst e;exact m_ (@ha A) (@hg A0 He) hs hw h1 π s σ H D I ⟨ρ,d,w.ok,e1,λ v H1 s1 r1=>⟨A,ρ,d,ρ',w.mono s1,r1,e2,λ σ' H' ok=>k σ' H' ok⟩⟩
theorem Bd:Do X (.builtin "len") (λ xs H Q=>∃ a kvs,xs=[V.ref a]/\Rd H a (.dK kvs)/\Q (.int kvs.length) H):=by
 intro π s σ H xs us Q I rs h;obtain⟨a,kvs,rfl,e,q⟩:=h;obtain⟨u,rfl,ru⟩:=rs.one;cases ru;exact qg I e λ t s' I'=>⟨.int kvs.length,H,I',⟨t,rfl⟩,q⟩
def lenE:D->Option D
 | .dk kds=>some (.int kds.length)
 | d=>lenD d
theorem CW:SndC G (λ xs H Q=>(∃ x n,xs=[x]/\LenV G.K x H n/\Q (.int n) H)∨∃ a kvs,xs=[V.ref a]/\Rd H a (.dK kvs)/\Q (.int kvs.length) H) lenE:=by
 intro A H x dx d Q lv rx h k;unfold lenE at h;split at h
 ·cases h;obtain⟨p,kvs,rfl,h1,h2,r⟩:=rx.dk;have hl:=congrArg List.length h2;rw[z00,z00] at hl;refine .inr ⟨p,kvs,rfl,h1,?_⟩;rw[hl];exact k _ H (Same.refl H) (.int _)
 ·exact .inl (Px A H x dx d Q lv rx h k)
end
def Iti (a:Addr) (o:Obj) (kvs:List (Key×V)):It:=
 ⟨λ i H=>H a=some (.frz o (.dK kvs))/\i<kvs.length,λ i H x H'=>∃ T p,H T=none/\kvs[i]?=some p/\x=.ref T/\H'=upd H T (.tup [kV p.1,p.2]),λ i H=>H a=some (.frz o (.dK kvs))/\kvs.length<=i⟩
theorem W6 {K:zFr}(a it:Addr) {o:Obj}{es:Array DictEntry}{ep:Nat}(hd:o.data=.dict es ep) (kvs:List (Key×V)) :
  Turn P w K (.Tuple elts x1 tp) (Iti a o kvs) [it] it (λ i h=>∃ ok ov,IsItemIter h it a i kvs.length ep ok ov) where
 mem:=by simp
 obj:=λ i h st b hb=>by
  have e:b=it:=by simpa using hb
  subst e;obtain⟨ok,ov,e⟩:=st;exact⟨_,e,λ v z=>by
   have z':Data.fields _=Data.cell v:=z;cases z'⟩
 keep:=λ i h h' st k=>let ⟨ok,ov,e⟩:=st;⟨ok,ov,k it (by simp) _ e⟩
 item:=by
  intro X hP hw hK hc i π s σ H E I hf st hg;subst hP hw hK;obtain⟨he,hi⟩:=hg;obtain⟨ok,ov,st⟩:=st;obtain⟨hm,vs,rel,dd⟩:=NT I he hd;have hl:kvs.length=vs.length:=rel.length;obtain⟨f0,f1,f2,f3,f4,f5⟩:=hf it (by simp);have hv:vs[i]?=some (vs[i]'(by omega)):=by simp[show i<vs.length by omega]
  have hk:kvs[i]?=some (kvs[i]'hi):=by simp[hi]
  obtain⟨hkk,hvv⟩:=Gr rel hk hv;have hlt:it<s.heap.objs.size:=z07 st;refine wpAny_pyNext_items_item (knd:=Aw X.prog X.w) (kvs:=vs) (k:=(vs[i]'(by omega)).1) (v:=(vs[i]'(by omega)).2) (by rw[<-hl];exact st) dd hv λ key h1 hkey out ht hz kk=>?_;refine⟨_,rfl,wpAny_letOwnedTupleGo_items (s:={ s with heap:=h1 }) out λ h2 st2 sb=>?_⟩;have hT:H s.heap.objs.size=none:=I.hok.fresh (z01 _);have rk:RelV (kV (kvs[i]'hi).1) key:=by rw[hkk];exact relK hkey
  have I1:Inv X π σ (upd H s.heap.objs.size (.tup [kV (kvs[i]'hi).1,(kvs[i]'hi).2])) { s with heap:=s.heap.push { cls:=.type "tuple",data:=.seq #[key,(vs[i]'(by omega)).2] } }:=
   I.laid (a:=s.heap.objs.size) (t':=s.toks) (λ b u e=>z0c _ e) (z01 _) ⟨by show 2<=sizeLine;decide,[key,(vs[i]'(by omega)).2],.cons rk (.cons hvv .nil),_,z0i _ rfl,rfl,_,rfl⟩
  have kp:∀ b u,b≠it->(s.heap.push { cls:=.type "tuple",data:=.seq #[key,(vs[i]'(by omega)).2] }).get? b=some u->h2.get? b=some u:=λ b u hb e=>by
   refine (sb.2 b hb).trans ?_
   rcases Heap.get?_push_cases e with ⟨rfl,rfl⟩ | e'
   ·exact ht
   ·exact kk b u hb e'
  have I2:=L2.Inv.turned (t':=s.toks) (it:=it) (h':=h2) I1 kp (by rw[Al (z0l hlt)];exact f0) f1 f3 f4 f5;refine⟨.ref s.heap.objs.size,_,I2,rfl,⟨_,_,hT,hk,rfl,rfl⟩,⟨key,(vs[i]'(by omega)).2,by rw[hl];exact st2⟩,λ b hb=>?_⟩;have e:b=it:=by simpa using hb
  subst e;rw[Al (z0l hlt)];exact f0
 done:=by
  intro X hP hw hK hc i π s σ H E I hf st hg;subst hP hw hK;obtain⟨he,hi⟩:=hg;obtain⟨ok,ov,st⟩:=st;obtain⟨hm,vs,rel,dd⟩:=NT I he hd;have hl:kvs.length=vs.length:=rel.length;obtain⟨f0,f1,f2,f3,f4,f5⟩:=hf it (by simp);exact wpAny_pyNext_items_end (I.ok.hd hc) (by rw[<-hl];exact st) dd (by rw[z19];omega) λ h' eb=>⟨rfl,I.turned (t':=s.toks) (λ b o hb e=>eb b o hb e) f0 f1 f3 f4 f5⟩
 self:=λ _ _ _ _ _ ⟨ok,ov,st⟩ h=>PySem.W.kcp_self st h
section
variable {G:Gx}{a b c:Expr}{fa fb fc:FE}{p2:Pos}{tl:TE}
def oW (tl:TE):TI:=λ σ H R=>tl σ H λ x H1=>∃ a o kvs,x=.ref a/\H1 a=some (.frz o (.dK kvs))/\R (Iti a o kvs) H1
theorem cZ {l:Expr}(hl:PE X l tl) (hbase:attributeBase l "items" X.env (eval l X.env)=eval l X.env:=by rfl) (hline:(apos.endLine==cpos.line)=true:=by rfl) :
  PI X (.Tuple elts x1 tp) (.Call (.Attribute l "items" apos) [] [] cpos) (oW tl):=by
 intro π s σ H R I h;refine wpAny_Call_method (T:="dict") (id:="dict.items") hbase rfl hline F.plainAttrs_dict F.slot_dict_items F.type_dict_items (thn (hl π s σ H _ I h) λ v s1 ⟨x,H1,I1,r1,q1⟩=>?_);obtain⟨a,o,kvs,e,hq,q⟩:=q1;subst e;cases r1;obtain⟨_,_,_,_,_,o',es,ep,ho',h1,h2,_⟩:=(show BK X.prog X.w H1 s1.heap a (.frz o (.dK kvs)) from I1.hok a _ hq);obtain⟨ho,_⟩:=(show BK X.prog X.w H1 s1.heap a (.frz o (.dK kvs)) from I1.hok a _ hq);rw[ho] at ho';cases ho';obtain⟨hm,vs,rel,dd⟩:=NT I1 hq h2;have hl':kvs.length=vs.length:=rel.length;have hm1:=dd.dictOf;refine⟨hm1.typeIs,hm1.mapOf.noDict,?_⟩;show wpAny _ _ (callWith cpos (.builtin "dict.items") [.ref a] [] []) _ _ s1;refine method_meetsIn F.slot_dict_items F.entry_dict_items rfl (PySem.evalArgs_none ⟨rfl,hm1.typeIs,F.args_dict_items_1 _,_,meets_dict_items (Aw X.prog X.w) a hm,⟨vs,hm1⟩,?_⟩);have I2:Inv X π σ H1 { s1 with heap:=s1.heap.push { cls:=.type "dict_items",data:=.fields #[.ref a] } }:=I1.kept (t':=s1.toks) λ b o e=>z0c _ e;refine wpAny_pyIter_items (knd:=Aw X.prog X.w) (kvs:=vs) (s:={ s1 with heap:=s1.heap.push { cls:=.type "dict_items",data:=.fields #[.ref a] } }) ⟨_,z0i _ rfl,rfl,rfl⟩ (dd.push _) ?_;refine⟨(s1.heap.push { cls:=.type "dict_items",data:=.fields #[.ref a] }).objs.size,[(s1.heap.push { cls:=.type "dict_items",data:=.fields #[.ref a] }).objs.size],_,_,H1,rfl,I2.kept (t':=s1.toks) λ b o e=>z0c _ e,W6 a _ h2 kvs,⟨.none,.none,?_⟩,λ b hb=>?_,q⟩
 ·rw[hl'];exact z0i _ rfl
 ·have e:b=(s1.heap.push { cls:=.type "dict_items",data:=.fields #[.ref a] }).objs.size:=by simpa using hb
  subst e;exact I2.fpOk (z01 _) (I2.hok.fresh (z01 _))
def LC (f:FE):FI:=λ ρ=>match f ρ with | some (.dk kds)=>some (kds.map λ p=>.tup [kDt p.1,p.2]) | _=>none
theorem cg {α β:Type}{f:α->β}{l:List α}{y:β}(h:(l.map f)[i]?=some y):∃ x,l[i]?=some x/\f x=y:=by
 rw[z04] at h;exact Option.map_eq_some_iff.mp h
theorem Z_ {o:Obj}{kvs:List (Key×V)}{kds:List (Key×D)}(h:F1 p=some (.frz o (.dK kvs))) (e:kvs.map (·.1)=kds.map (·.1)) (r:RepL G F2 (kvs.map (·.2)) (kds.map (·.2))) :
  Src G (Iti p o kvs) (kds.map λ p=>.tup [kDt p.1,p.2]) F1 F2:=by
 have hl:kvs.length=kds.length:=by have:=congrArg List.length e;rwa [z00,z00] at this
 refine⟨λ i H s hi=>⟨s _ _ h,by rw[hl];rwa [z00] at hi⟩,λ i H x H' d s hd y=>?_,λ i H s hi=>⟨s _ _ h,by rw[hl];rwa [z00] at hi⟩⟩;obtain⟨T,q,hT,y2,rfl,rfl⟩:=y;obtain⟨z,hz,rfl⟩:=cg hd;have e1:(kvs.map (·.1))[i]?=some q.1:=by rw[z04,y2];rfl
 rw[e,z04,hz] at e1;injection e1 with e1
 have rz:Rep G F2 q.2 z.2:=r.2 i q.2 z.2 (by rw[z04,y2];rfl) (by rw[z04,hz];rfl);refine⟨Aq hT _,λ B lv sm=>?_⟩;have rr:RepL G (hid B H) [kV q.1,q.2] [kDt z.1,z.2]:=.cons (by rw[<-e1];exact Pz _) (.cons (rz.mono sm) .nil);exact J3 lv hT rr
theorem R7 {top:Bool}(h:PF X G a fa) (hbase:attributeBase a "items" X.env (eval a X.env)=eval a X.env:=by rfl) (hline:(apos.endLine==cpos.line)=true:=by rfl) :
  PFI X G false (.Tuple elts x1 tp) (.Call (.Attribute a "items" apos) [] [] cpos) (LC fa):=λ A=>Ql (cZ (@h A) hbase hline) λ σ H R ⟨ρ,ds,o,e,k⟩=>by
 unfold LC at e;split at e
 ·rename_i kds e1;cases e;refine⟨ρ,_,o,e1,λ v H1 s1 r1=>?_⟩;cases r1 with
  | dk h l r=>exact⟨_,_,_,rfl,Am _ _ h,k _ H1 s1 (Z_ h l ⟨by have:=congrArg List.length l;rwa [z00,z00] at this ⊢,r⟩)⟩
 ·cases e
end
section
variable {G:Gx}{a b c:Expr}{fa fb fc:FE}{p2:Pos}{fs:FA}
theorem Uh {P:Program}{w:World}:∀ {kvs:List (Key×V)}{us:List Value},us.length=kvs.length->(∀ (j:Nat) u,us[j]?=some u->∃ p,kvs[j]?=some p/\(Aw P w).is p.1 u=true)->Vals (kvs.map λ p=>kV p.1) us
 | [],us,hl,_=>by
  have:us=[]:=List.eq_nil_of_length_eq_zero hl;subst this;exact .nil
 | p::kvs,[],hl,_=>by simp at hl
 | p::kvs,u::us,hl,h=>by
  obtain⟨q,h1,h2⟩:=h 0 u rfl;simp at h1;subst h1;exact .cons (relK h2) (Uh (P:=P) (w:=w) (by simpa using hl) λ j v hv=>by simpa using h (j+1) v (by simpa using hv))
theorem En (hc:X.calm=true):Do X (.type "list") (λ xs H Q=>∃ p kvs,xs=[.ref p]/\Rd H p (.dK kvs)/\∀ l,H l=none->Q (.ref l) (upd H l (.lst (kvs.map λ q=>kV q.1)))):=by
 intro π s σ H xs us Q I r h;obtain⟨p,kvs,rfl,e,q⟩:=h;obtain⟨u,rfl,ru⟩:=r.one;cases ru;obtain⟨z,hd,vs,rel,dd⟩:=Im I.hok e;obtain⟨ep,dd⟩:=dd.dictAt;have hl:kvs.length=vs.length:=rel.length;refine PySem.W.kdl_call (PySem.W.kdl_dict (knd:=Aw X.prog X.w) (kvs:=vs) (ep:=ep) hd) (I.ok.hd hc) dd (by omega) λ h' tk acc c' kp hn hi=>?_;have va:Vals (kvs.map λ q=>kV q.1) acc.toList:=by
  refine Uh (P:=X.prog) (w:=X.w) (by simp[hi.1,hl]) λ j u hu=>?_;obtain⟨k,x,h1,h2⟩:=hi.2 j u (by simpa using hu);have hj:j<kvs.length:=by rw[hl];exact (z0m.mp h1).1
  refine⟨kvs[j],by simp[hj],?_⟩;rw[(Gr rel (by simp[hj]) h1).1];exact h2
 exact⟨.ref s.heap.objs.size,_,I.laid (t':=tk) kp (z01 _) (show BK X.prog X.w _ h' _ (.lst (kvs.map λ q=>kV q.1)) from⟨by rw[z00];exact z,acc.toList,c',va,by simpa using hn⟩),rfl,q _ (I.hok.fresh (z01 _))⟩
def listE:D->Option D
 | .dk kds=>some (.lst (kds.map λ p=>kDt p.1))
 | d=>bY d
theorem cj {H:Hp}:∀ {kvs:List (Key×V)}{kds:List (Key×D)},kvs.map (·.1)=kds.map (·.1)->RepL G H (kvs.map λ q=>kV q.1) (kds.map λ p=>kDt p.1)
 | [],[],_=>RepL.nil
 | [],_::_,h=>by simp at h
 | _::_,[],h=>by simp at h
 | p::kvs,q::kds,h=>by
  rw[z03,z03] at h;injection h with h1 h2
  exact .cons (by show Rep G H (kV p.1) (kDt q.1);rw[h1];exact Pz _) (cj h2)
theorem aA:SndC G (λ xs H Q=>(∃ p ys,xs=[.ref p]/\(SqL G.K H p ys∨SqT G.K H p ys)/\∀ l,H l=none->Q (.ref l) (upd H l (.lst ys)))∨∃ p kvs,xs=[.ref p]/\Rd H p (.dK kvs)/\∀ l,H l=none->Q (.ref l) (upd H l (.lst (kvs.map λ q=>kV q.1)))) listE:=by
 intro A H x dx d Q lv rx h k;unfold listE at h;split at h
 ·cases h;obtain⟨p,kvs,rfl,h1,h2,r⟩:=rx.dk;exact .inr ⟨p,kvs,rfl,h1,λ l hl=>k _ _ (Aq hl _) (Bs lv hl (cj h2))⟩
 ·exact .inl (cH A H x dx d Q lv rx h k)
def L_ (x:D) (ds:List D) (v:D):Option D:=match x with
 | .dt kds=>(J5 ds).bind λ k=>if kds.length<sizeLine/\ds.length<=sizeLine then some (.dt (putL k v kds)) else none
 | _=>none
def Vp (i:Nat) (fk:FA) (fv:FE):FS:=λ ρ=>(fv ρ).bind λ v=>(fk ρ).bind λ y=>(ownO ρ i).bind λ x=>(L_ x y v).map λ z=>.nx (ρ.set i (.ow z))
theorem W7 {ρ:Rho}{o:Out}(h:Vp i fs fb ρ=some o):∃ v y x z,fb ρ=some v/\fs ρ=some y/\ρ[i]?=some (.ow x)/\L_ x y v=some z/\o=.nx (ρ.set i (.ow z)):=by
 unfold Vp at h;cases e1:fb ρ with
 | none=>simp[e1] at h
 | some v=>
  cases e2:fs ρ with
  | none=>simp[e1,e2] at h
  | some y=>
   cases e3:ownO ρ i with
   | none=>simp[e1,e2,e3] at h
   | some x=>
    cases e4:L_ x y v with
    | none=>simp[e1,e2,e3,e4] at h
    | some z=>
     simp[e1,e2,e3,e4] at h;exact⟨v,y,x,z,rfl,rfl,G6 e3,e4,h.symm⟩
theorem cu {x:Str}(hu:X.A.units+1<cLine) (hv:PE X (.Name x xpos) (tVar i)) (ha:PFA X G es fs) (hb:PF X G b fb)
  (hs:swapsWith b (some (.Subscript (.Name x xpos) (.Tuple es x1 tp) spos)) pos.line X.env=pure false:=by rfl):PSD X G (.Assign [.Subscript (.Name x xpos) (.Tuple es x1 tp) spos] b pos) (Vp i fs fb):=λ A0 He π s σ H D I ⟨ρ,o,⟨A,w⟩,e,k⟩=>by
 obtain⟨v,y,x0,z,e1,e2,hi,e3,rfl⟩:=W7 e;refine O7 hu hv (Wq (@ha A)) (@hb A) hs π s σ H D I ?_;unfold L_ at e3;split at e3
 ·rename_i kds;cases e4:J5 y with
  | none=>simp[e4] at e3
  | some q=>
   simp only[e4,z0p] at e3;split at e3
   ·rename_i hz;cases e3;obtain⟨p,h1,hA,kvs,h2,hk,r⟩:=w.ok.ow i _ hi;refine⟨ρ,v,w.ok,e1,λ u H1 s1 r1=>⟨_,h1,ρ,y,(w.mono s1).ok,e2,λ vs H2 s2 r2=>⟨by rw[r2.1];exact hz.2,λ T hT=>?_⟩⟩⟩;have ek:=NQ r2 e4;subst ek;have hl:kvs.length<sizeLine:=by
     have:=congrArg List.length hk;rw[z00,z00] at this;omega
    have s3:Same H2 (upd H2 T (.tup (q.map kV))):=Aq hT _;refine⟨p,_,rfl,DPut.t (s3 _ _ (s2 _ _ (s1 _ _ h2))) Ag hl,?_⟩;have w2:=((w.mono s1).mono s2).mono s3;have pk:=Py (k:=q) (r1.mono (Ar (s2.trans s3))) hk (r.mono (Ar (s1.trans (s2.trans s3))));refine k _ _ ⟨A,w2.wr hi h1 ⟨_,Ag,pk.1,?_⟩⟩;rw[Bc hA];exact pk.2
   ·cases e3
 ·cases e3
end
section
variable {G:Gx}{a b c:Expr}{fa fb fc:FE}{p2:Pos}{fs:FA}{src:FI}
theorem PFI.top (h:PFI X G false tg a src):PFI X G true tg a src:=λ A=>Ql (@h A) λ σ H R ⟨ρ,ds,o,e,k⟩=>
 ⟨ρ,ds,o,e,λ J H1 s1 sr=>k J H1 s1 ⟨λ i H s hi=>sr.go i H (Am.trans s) hi,λ i H x H' d s hd y=>sr.yld i H x H' d (Am.trans s) hd y,λ i H s hi=>sr.stop i H (Am.trans s) hi⟩⟩
theorem RepT.ob {A:List Addr}{H:Hp}{v:V}{c:Str}{gs:List (Str×D)}(r:RepT G A H v (.ob c gs)):∃ a C dx fs,v=.ref a/\G.cl c=some C/\H a=some (.ins C dx fs)/\fs.map (·.1)=gs.map (·.1)/\RepL G (hid A H) (fs.map (·.2)) (gs.map (·.2)):=by
 rcases r with r | ⟨a,e,C,dx,fs,h,k,r⟩
 ·cases r with
  | ob hc h l r=>
   have hl:=congrArg List.length l;rw[z00,z00] at hl;exact⟨_,_,_,_,rfl,hc,Am _ _ h,l,by rw[z00,z00];exact hl,r⟩
 ·exact⟨a,C,dx,fs,e,k.1,h,k.2,r⟩
def fldD (f:Str):D->Option D
 | .ob _ gs=>gs.lookup f
 | _=>none
theorem R8 {H:Hp}{f:Str}{d:D}:∀ {gs:List (Str×D)}{fs:List (Str×V)},fs.map (·.1)=gs.map (·.1)->RepL G H (fs.map (·.2)) (gs.map (·.2))->gs.lookup f=some d->∃ v,fs.lookup f=some v/\Rep G H v d
 | [],fs,e,r,h=>by simp at h
 | p::gs,[],e,r,h=>by simp at e
 | p::gs,q::fs,e,r,h=>by
  rw[z03,z03] at e r;injection e with e1 e2
  obtain⟨x,ys,e3,r1,r2⟩:=r.uncons;injection e3 with e4 e5
  subst e4 e5;obtain⟨p1,p2⟩:=p;obtain⟨q1,q2⟩:=q;simp only at e1 r1;subst e1
  by_cases hf:f=q1
  ·subst hf;simp only[z0d,z1k,Option.some.injEq] at h ⊢;subst h;exact⟨q2,rfl,r1⟩
  ·have hb:(f==q1)=false:=z0z.mpr hf;simp only[z0d,hb] at h ⊢;exact R8 e2 r2 h
theorem Eo {f:Str}(hcl:∀ c C,G.cl c=some C->Cls X.K C/\DQ X.K C f) (he:PU X G a fa) (hb:attributeBase a f X.env (eval a X.env)=eval a X.env:=by rfl):PF X G (.Attribute a f pos) (uF (fldD f) fa):=
 λ A=>CV (Wm (@he A) hb) λ σ H Q ⟨ρ,d,o,e,k⟩=>by
  obtain⟨x0,e1,e2⟩:=JW e;unfold fldD at e2;split at e2
  ·rename_i cn gs;refine⟨ρ,_,o,e1,λ v H1 s1 r1=>?_⟩;obtain⟨p,C,dx,fs,rfl,hc,h,l,r⟩:=r1.ob;obtain⟨v,h1,h2⟩:=R8 (f:=f) (d:=d) l r e2;exact⟨_,_,_,_,v,rfl,h,(hcl _ _ hc).1,(hcl _ _ hc).2,h1,k v H1 s1 h2⟩
  ·cases e2
end
def Its (x:Str):It:=⟨λ i _=>i<x.cps.size,λ i H y H'=>H'=H/\∃ c,x.cps[i]?=some c/\y=.str ⟨#[c]⟩,λ i _=>x.cps.size<=i⟩
theorem Vq {K:zFr}(it:Addr) (x:Str) (t:Tok) (ty:String) (W:∀ A:Around,A.handled=none->Walks P w A it [it] [it] x.cps.size (SignAt x) (λ i h=>h.IsStrIter it ty x t i))
  (hn:["enumerate","zip","dict_itemiterator","dict_reverseitemiterator","odict_iterator","itertools.zip_longest","itertools.pairwise"].contains ty=false)
  (fin:∀ (A:Around),A.handled=none->∀ (i:Nat) (s:Shared) (Q:Option Value->Shared->Prop) (E:zQ),s.heap.IsStrIter it ty x t i->x.cps[i]?=none->(∀ h',Heap.ExtBut it s.heap h'->Q none { s with heap:=h' })->wpAny (model P w) A (pyNext (.ref it)) Q E s)
  (self:∀ (A:Around) (i:Nat) (s:Shared) (Q:zQ) (E:zQ),s.heap.IsStrIter it ty x t i->Q (.ref it) s->wpAny (model P w) A (pyIter (.ref it)) Q E s) :
  Turn P w K tg (Its x) [it] it (λ i h=>h.IsStrIter it ty x t i) where
 mem:=by simp
 obj:=λ i h st b hb=>by
  have e:b=it:=by simpa using hb
  subst e;obtain⟨o,e,c,d⟩:=st;exact⟨o,e,λ v z=>by rw[d] at z;cases z⟩
 keep:=λ i h h' st k=>let ⟨o,e,c,d⟩:=st;⟨o,k it (by simp) o e,c,d⟩
 item:=by
  intro X hP hw hK hc i π s σ H E I hf st hg;subst hP hw hK;obtain⟨f0,f1,f2,f3,f4,f5⟩:=hf it (by simp);refine (W X.A (I.ok.hd hc)).item i s _ _ hg st λ v h' tk hv st' kk=>?_;obtain⟨c,u,e1,rfl⟩:=hv;have I1:Inv X π σ H { s with heap:=h',toks:=tk }:=I.turned (λ b o hb e=>kk b o (by simpa using hb) e) f0 f1 f3 f4 f5;obtain⟨o1,e2,c1,d1⟩:=id st';exact⟨_,rfl,Rp (s:={ s with heap:=h',toks:=tk }) e2 c1 d1 hn ⟨.str ⟨#[c]⟩,H,I1,⟨u,rfl⟩,⟨rfl,c,e1,rfl⟩,st',λ b hb=>(hf b hb).1⟩⟩
 done:=by
  intro X hP hw hK hc i π s σ H E I hf st hg;subst hP hw hK;obtain⟨f0,f1,f2,f3,f4,f5⟩:=hf it (by simp);exact fin X.A (I.ok.hd hc) i s _ _ st (by rw[Array.getElem?_eq_none_iff];exact hg) λ h' eb=>⟨rfl,I.turned (t':=s.toks) (λ b o hb e=>eb b o hb e) f0 f1 f3 f4 f5⟩
 self:=λ A i s Q E st h=>self A i s Q E st h
section
variable {G:Gx}{a b c:Expr}{fa fb fc:FE}{p2:Pos}{tl:TE}
def iStr (tl:TE):TI:=λ σ H R=>tl σ H λ x H1=>∃ y,x=.str y/\R (Its y) H1
theorem oX {l:Expr}(hl:PE X l tl):PI X tg l (iStr tl):=by
 intro π s σ H R I h;refine thn (hl π s σ H _ I h) λ v s1 ⟨x,H1,I1,r1,q1⟩=>?_;obtain⟨y,e,q⟩:=q1;subst e;obtain⟨t,e⟩:=(show ∃ t,v=Value.str y t from r1);subst e;have fp:∀ b∈[s1.heap.objs.size],FpOk X π H1 b:=λ b hb=>by
  have e:b=s1.heap.objs.size:=by simpa using hb
  subst e;exact I1.fpOk (z01 _) (I1.hok.fresh (z01 _))
 cases ha:y.cps.all (·<128)
 ·exact wpAny_pyIter_wide ha ⟨s1.heap.objs.size,[s1.heap.objs.size],_,_,H1,rfl,I1.kept (t':=s1.toks) λ b o e=>z0c _ e,
   Vq _ y t "str_iterator" (λ A hA=>Walks.strWide hA _ y t) (by decide) (λ _ hh _ _ _ _ st hx k=>wpAny_pyNext_wide_end hh st hx k) (λ _ _ _ _ _ st h=>wpAny_pyIter_striter_wide st h),⟨_,z0i _ rfl,rfl,rfl⟩,fp,q⟩
 ·exact wpAny_pyIter_ascii ha ⟨s1.heap.objs.size,[s1.heap.objs.size],_,_,H1,rfl,I1.kept (t':=s1.toks) λ b o e=>z0c _ e,
   Vq _ y t "str_ascii_iterator" (λ A hA=>Walks.strAscii hA _ y t) (by decide) (λ _ hh _ _ _ _ st hx k=>wpAny_pyNext_ascii_end hh st hx k) (λ _ _ _ _ _ st h=>wpAny_pyIter_striter_ascii st h),⟨_,z0i _ rfl,rfl,rfl⟩,fp,q⟩
def Vr (x:Str):List D:=x.cps.toList.map λ c=>.str ⟨#[c]⟩
theorem jM {x:Str}:Src G (Its x) (Vr x) F1 F2:=by
 have hl:(Vr x).length=x.cps.size:=by unfold Vr;simp
 refine⟨λ i H s hi=>by rw[hl] at hi;exact hi,λ i H y H' d s hd q=>?_,λ i H s hi=>by rw[hl] at hi;exact hi⟩;obtain⟨q1,c,q2,q3⟩:=q;refine NB ⟨q1,?_⟩;obtain⟨z,hz,rfl⟩:=cg hd;have e:x.cps[i]?=some z:=by simpa using hz
 rw[e] at q2;cases q2;rw[q3];exact .str _
def seqA (f:FE):FI:=λ ρ=>match f ρ with | some (.str x)=>some (Vr x) | _=>seqE f ρ
theorem BP (hG:G.K=X.K) (h:PF X G a fa):PFI X G false tg a (seqA fa):=λ A=>Ql (piOr (cY hG h (A:=A)) (oX (@h A))) λ σ H R ⟨ρ,ds,o,e,k⟩=>by
 unfold seqA at e;split at e
 ·rename_i x e1;cases e;refine .inr ⟨ρ,_,o,e1,λ v H1 s1 r1=>?_⟩;cases r1;exact⟨_,rfl,k _ H1 s1 jM⟩
 ·exact .inl ⟨ρ,_,o,e,k⟩
def blsD:List D->Option (List Bool)
 | []=>some []
 | .bl i::r=>(blsD r).map (i::·)
 | _::_=>none
theorem Yb {H:Hp}:∀ {ds:List D}{xs:List V}{bs:List Bool},RepL G H xs ds->blsD ds=some bs->xs=bs.map V.bl
 | [],xs,bs,r,h=>by cases h;exact r.nil_inv
 | d::ds,xs,bs,r,h=>by
  obtain⟨x,ys,rfl,r1,r2⟩:=r.uncons;cases d with
  | bl i=>
   cases e:blsD ds with
   | none=>simp[blsD,e] at h
   | some bs'=>
    simp[blsD,e] at h;subst h;cases r1;rw[Yb r2 e];rfl
  | _=>simp[blsD] at h
theorem R9 (hc:X.calm=true):Do X (.builtin "all") (λ xs H Q=>∃ (p:Addr) (bs:List Bool),xs=[.ref p]/\SqL X.K H p (bs.map V.bl)/\Q (.bl (bs.all id)) H):=by
 intro π s σ H xs us Q I r h;obtain⟨p,bs,rfl,hs,k⟩:=h;obtain⟨u,rfl,ru⟩:=r.one;cases ru;obtain⟨its,rv,pl,hz⟩:=I.list hs;have hl:=pl.isList;have hlt:p≠s.heap.objs.size:=by obtain⟨o,ho,_⟩:=hl;exact z0l (z07 ho)
 have hlen:bs.length=its.length:=by have:=rv.length;rwa [z00] at this
 refine call_all_walk (wpAny_pyIter_list hl ?_);refine⟨_,_,_,_,_,_,λ i=>bs.getD i true,rfl,Walks.list (A:=X.A.in1) (I.ok.hd hc) s.heap.objs.size p hlt its.toArray,⟨⟨_,z0i _ rfl,rfl,rfl⟩,hl.push _⟩,?_,λ h' tk kk=>?_⟩
 ·intro i v s' Q' E' hv hq;have hi:its[i]?=some v:=by simpa using hv
  have hlt':i<bs.length:=by rw[hlen];exact (z0m.mp hi).1
  obtain⟨u',hu,ru⟩:=rv.get (i:=i) (x:=.bl (bs[i]'hlt')) (by rw[z04];simp[hlt']);rw[hi] at hu;cases hu;cases (show v=Value.bool (bs[i]'hlt') from ru);have e:bs.getD i true=bs[i]'hlt':=by simp[List.getD,hlt']
  have hq':Q' (bs.getD i true) s':=hq;rw[e] at hq';exact wpAny_truthy_bool hq'
 ·refine⟨.bl (bs.all id),H,I.kept (λ b o e=>kk b o ?_ (z0c _ e)),?_,k⟩
  ·intro hb;have:b=s.heap.objs.size:=by simpa using hb
   exact absurd (z07 e) (by rw[this];exact z1a _)
  ·show Value.bool _=Value.bool _;congr 1;rw[z0f,<-hlen];rw[z0N,z0x,z0x];constructor
   ·intro q b hb;obtain⟨i,hi,rfl⟩:=z1r hb;have:=q i (z0o.mpr hi);simpa [List.getD,hi] using this
   ·intro q i hi;have hi':=z0o.mp hi;have:=q (bs[i]'hi') (z15 hi');simpa [List.getD,hi'] using this
def allD:D->Option D
 | .lst ds=>(blsD ds).map λ bs=>.bl (bs.all id)
 | _=>none
theorem Yc:SndC G (λ xs H Q=>∃ (p:Addr) (bs:List Bool),xs=[.ref p]/\SqL G.K H p (bs.map V.bl)/\Q (.bl (bs.all id)) H) allD:=by
 intro A H x dx d Q lv rx h k;unfold allD at h;split at h
 ·rename_i ds;cases e:blsD ds with
  | none=>simp[e] at h
  | some bs=>
   rw[e] at h;cases h;obtain⟨p,xs,rfl,h1,r⟩:=rx.lst;have e2:=Yb r e;subst e2;exact⟨p,bs,rfl,h1,k _ H (Same.refl H) (.bl _)⟩
 ·cases h
theorem cz:bootBuiltins "all"=some (.builtin "all"):=by decide +kernel
end
section
variable {G:Gx}{a b c:Expr}{fa fb fc:FE}{p2:Pos}
def isND (neg:Bool):D->Option D
 | .non=>some (.bl (!neg))
 | _=>some (.bl neg)
theorem Yd {d:D}(r:RepT G A H v d):(decide (v=.non))=(match d with | .non=>true | _=>false):=by
 rcases r with r | ⟨p,e,r⟩
 ·cases r<;>simp
 ·subst e;cases d<;>first | exact r.elim | simp
theorem jN {p':Pos}(ha:PU X G a fa):PFT X G (.Compare a [.Is] [.Constant .none j p'] pos) (blF (uF (isND false) fa)):=λ A=>Vf (aX (m5 (@ha A))) λ σ H Q ⟨ρ,b,o,e,k⟩=>by
 obtain⟨x0,e1,e2⟩:=JW (Qj e);refine⟨ρ,x0,o,e1,λ v H1 s1 r1=>⟨_,rfl,?_⟩⟩;rw[Yd r1];cases x0<;>(cases e2;exact k H1 s1)
theorem Vs {p':Pos}(ha:PU X G a fa):PFT X G (.Compare a [.IsNot] [.Constant .none j p'] pos) (blF (uF (isND true) fa)):=λ A=>Vf (aX (gq (@ha A))) λ σ H Q ⟨ρ,b,o,e,k⟩=>by
 obtain⟨x0,e1,e2⟩:=JW (Qj e);refine⟨ρ,x0,o,e1,λ v H1 s1 r1=>⟨_,rfl,?_⟩⟩;rw[Yd r1];cases x0<;>(cases e2;exact k H1 s1)
end
section
variable {G:Gx}{a b c:Expr}{fa fb fc:FE}{p2:Pos}
def eqTo (x d:D):Bool:=match eqK 62 d x with | some b=>b | none=>false
def knows (x d:D):Bool:=(eqK 62 d x).isSome
def rInP (G:Gx) (neg:Bool):R2:=λ x y H Q=>∃ (A:List Addr) (as ds:List D),RepT G A H x (.tup as)/\RepT G A H y (.lst ds)/\ds.all (knows (.tup as))=true/\Q (.bl (if neg then !ds.any (eqTo (.tup as)) else ds.any (eqTo (.tup as)))) H
open Classical in
theorem jO (hG:G.K=X.K) (hu:X.A.units+64<cLine) {π:zP}{s:Shared}{σ:St}{H:Hp}{A:List Addr}{x:V}{u:Value}{as ds:List D}{xs:List V}{its:List Value}(I:Inv X π σ H s) (rx:RepT G A H x (.tup as)) (ru:RelV x u)
  (r:RepL G (hid A H) xs ds) (v:Vals xs its) (hk:ds.all (knows (.tup as))=true) :
  ∃ e:Value->Bool,(∀ y,y∈its.toArray->SeqAt.EqAt X.A.in1 s y u (e y))/\its.toArray.any e=ds.any (eqTo (.tup as)):=by
 have rx':Rep G H x (.tup as):=by
  rcases rx with q | ⟨p,_,q⟩
  ·exact q.mono Am
  ·exact q.elim
 have one:∀ (i:Nat) y,its[i]?=some y->∃ d,ds[i]?=some d/\SeqAt.EqAt X.A.in1 s y u (eqTo (.tup as) d):=λ i y hy=>by
  have hi:i<its.length:=(z0m.mp hy).1;have hx:i<xs.length:=by rw[v.length];exact hi
  have hd:i<ds.length:=by rw[<-r.1];exact hx
  obtain⟨y',h1,h2⟩:=v.get (i:=i) (x:=xs[i]) (by simp[hx]);rw[hy] at h1;cases h1;refine⟨ds[i],by simp[hd],?_⟩;have kn:knows (.tup as) ds[i]=true:=z0x.mp hk _ (z15 hd);unfold knows at kn;obtain⟨b,hb⟩:=Option.isSome_iff_exists.mp kn;have eb:eqTo (.tup as) ds[i]=b:=by unfold eqTo;rw[hb]
  rw[eb];exact K_ I hG 62 X.A.in1 (by show X.A.units+1+62<cLine;omega) hb ((r.2 i _ _ (by simp[hx]) (by simp[hd])).mono Am) rx' h2 ru
 refine⟨λ y=>decide (∃ (i:Nat) (d:D),its[i]?=some y/\ds[i]?=some d/\eqTo (.tup as) d=true),λ y hy=>?_,?_⟩
 ·by_cases h:∃ (i:Nat) (d:D),its[i]?=some y/\ds[i]?=some d/\eqTo (.tup as) d=true
  ·obtain⟨i,d,h1,h2,h3⟩:=id h;obtain⟨d',h4,h5⟩:=one i y h1;rw[h2] at h4;cases h4;rw[h3] at h5;show SeqAt.EqAt X.A.in1 s y u (decide (∃ (i:Nat) (d:D),its[i]?=some y/\ds[i]?=some d/\eqTo (.tup as) d=true));rw[z0g h];exact h5
  ·obtain⟨i,hi,rfl⟩:=z1r (show y∈its by simpa using hy);have hii:its[i]?=some its[i]:=z06 hi;obtain⟨d,h4,h5⟩:=one i _ hii;have h6:eqTo (.tup as) d=false:=by
    cases q:eqTo (.tup as) d with
    | false=>rfl
    | true=>exact absurd ⟨i,d,hii,h4,q⟩ h
   rw[h6] at h5;show SeqAt.EqAt X.A.in1 s its[i] u (decide (∃ (j:Nat) (d:D),its[j]?=some its[i]/\ds[j]?=some d/\eqTo (.tup as) d=true));rw[z0a h];exact h5
 ·rw[z0N,List.any_eq_true];rw[show its.toArray.any (λ y=>decide (∃ (i:Nat) (d:D),its[i]?=some y/\ds[i]?=some d/\eqTo (.tup as) d=true))=its.any (λ y=>decide (∃ (i:Nat) (d:D),its[i]?=some y/\ds[i]?=some d/\eqTo (.tup as) d=true)) by simp,List.any_eq_true];constructor
  ·rintro⟨y,hy,h⟩;obtain⟨i,d,h1,h2,h3⟩:=z12 h;exact⟨d,z0H h2,h3⟩
  ·rintro⟨d,hd,h⟩;obtain⟨i,hi,rfl⟩:=z1r hd;have hx:i<its.length:=by rw[<-v.length,r.1];exact hi
   exact⟨its[i],z15 hx,z0g ⟨i,_,z06 hx,z06 hi,h⟩⟩
theorem dB (hG:G.K=X.K) (hu:X.A.units+64<cLine):OpR X (compareOp .In) (rInP G false):=by
 intro π s σ H x y v u Q I rx ry h;obtain⟨A,as,ds,r1,r2,hk,k⟩:=h;obtain⟨c,ys,rfl,h2,q2⟩:=r2.lst;cases ry;obtain⟨jts,v2,p2,_⟩:=I.list (by rw[<-hG];exact h2);obtain⟨e,he,ea⟩:=jO hG hu I r1 rx q2 v2 hk;exact SeqAt.in_listAt e p2.isList he ⟨.bl _,H,I,rfl,by rw[ea];exact k⟩
def inF (neg:Bool) (x y:D):Option D:=match x,y with
 | .tup as,.lst ds=>if ds.all (knows (.tup as))=true then some (.bl (if neg then !ds.any (eqTo (.tup as)) else ds.any (eqTo (.tup as)))) else none
 | x,y=>inE neg x y
theorem Ye (neg:Bool):DY G (λ x y H Q=>(rInA G.K neg x y H Q∨rDIn neg x y H Q)∨rInP G neg x y H Q) (inF neg):=by
 intro A H x y dx dy d Q lv rx ry h k;unfold inF at h;split at h
 ·split at h
  ·rename_i hk;cases h;exact .inr ⟨A,_,_,rx,ry,hk,k _ H (Same.refl H) (.bl _)⟩
  ·cases h
 ·exact .inl (jG neg A H x y _ _ d Q lv rx ry h k)
end
end PV
namespace PySem
open PySem.Spec
theorem dC {A:Around}{Q:zQ}(h:∀ h' e,(∀ b o,s.heap.get? b=some o->h'.get? b=some o)->Shared.TypeIs { s with heap:=h' } (.ref e) "StopIteration"->Q (.ref e) { s with heap:=h' }):wpAny (model prog w) A (newExc (.type "StopIteration") []) Q E s:=by
 unfold newExc newTuple
 wp_walk
 exact h _ _ (λ b o e=>z0c _ (z0c _ e)) ⟨_,z0i _ rfl,rfl⟩
theorem dD (it d:Addr) (i ep:Nat) (es:Array DictEntry) (od:Obj) (hod:od.data=.dict es ep) (hi:i<es.size) :
  Meets (Builtin.«dict_keyiterator.__next__» ⟨[.ref it],[]⟩) (λ _ R s=>s.heap.get? it=some { cls:=.type "dict_keyiterator",data:=.fields #[.ref d,.int i 0,.int es.size 0,.int ep 0] }/\s.heap.get? d=some od/\R (.ok (.ret (es[i]'hi).key)) { s with heap:=s.heap.update it (Obj.mapFields (·.setIfInBounds 1 (rawInt ((i:Int)+1)))),toks:=s.toks }):=
 .of_wp λ prog w A R s h=>by
  obtain⟨hp,g,dr,tk,os⟩:=s;obtain⟨h1,h2,h⟩:=h
  wp_walk using wpAny_dictEntries h2 hod,wpAny_dictEpoch h2 hod,wpAny_fieldsOf h1 rfl,wpAny_setField h1 rfl
  have e0:(if (i:Int)<0 then none else es[(i:Int).toNat]?)=some (es[i]'hi):=by rw[if_neg (by omega),z0K,Array.getElem?_eq_getElem hi]
  rw[e0];dsimp only
  wp_walk using wpAny_setField h1 rfl
  ·rw[if_neg (show ¬ Builtin.Dict_items.ownsTuple ((Manifest.find? "dict_keyiterator").elim "dict_keyiterator" λ x=>x.tpName)=true by decide +kernel)];show 1<4;decide
  ·rw[if_neg (show ¬ Builtin.Dict_items.ownsTuple ((Manifest.find? "dict_keyiterator").elim "dict_keyiterator" λ x=>x.tpName)=true by decide +kernel)];rw[if_neg]
   case hnc=>decide +kernel
   rw[z0T];have ti:Shared.TypeIs { heap:=hp.update it (Obj.mapFields λ x=>x.setIfInBounds 1 (rawInt ((i:Int)+1))),gens:=g,drawn:=dr,toks:=tk,os:=os } (.ref it) "dict_keyiterator":=
    ⟨_,Heap.get?_update_self _ h1 (Obj.isFreed_of_fields (Obj.data_mapFields rfl _)),Obj.cls_mapFields ..⟩
   wp_walk using wpAny_isOneOf_keyiter ti
   exact⟨_,rfl,h⟩
theorem W8 {A:Around}{d:Addr}{es:Array DictEntry}{od:Obj}{Q:Option Value->Shared->Prop}(hod:od.data=.dict es ep) (hi:i<es.size)
  (h1:s.heap.get? it=some { cls:=.type "dict_keyiterator",data:=.fields #[.ref d,.int i 0,.int es.size 0,.int ep 0] }) (h2:s.heap.get? d=some od)
  (h:Q (some (es[i]'hi).key) { s with heap:=s.heap.update it (Obj.mapFields (·.setIfInBounds 1 (rawInt ((i:Int)+1)))) }):wpAny (model prog w) A (pyNext (.ref it)) Q E s:=by
 have ti:s.TypeIs (.ref it) "dict_keyiterator":=⟨_,h1,rfl⟩;unfold pyNext;refine z02 (wpAny_attempt (wpAny_callSpecial?_slot (name:=Str.ofString "__next__") ti z1s ?_));refine call_meets z1s ti F.entry_dict_keyiterator_next (F.args_dict_keyiterator_next_1 _) (dD it d i ep es od hod hi) ⟨h1,h2,?_⟩;exact z09 h
theorem Rf {A:Around}{d:Addr}{es:Array DictEntry}{od:Obj}{Q:Option Value->Shared->Prop}(hh:A.handled=none) (hod:od.data=.dict es ep) (hi:es.size<=i)
  (h1:s.heap.get? it=some { cls:=.type "dict_keyiterator",data:=.fields #[.ref d,.int i 0,.int es.size 0,.int ep 0] }) (h2:s.heap.get? d=some od)
  (h:∀ h',Heap.ExtBut it s.heap h'->Q none { s with heap:=h' }):wpAny (model prog w) A (pyNext (.ref it)) Q E s:=by
 have ti:s.TypeIs (.ref it) "dict_keyiterator":=⟨_,h1,rfl⟩;unfold pyNext;refine z02 (wpAny_attempt (wpAny_callSpecial?_slot (name:=Str.ofString "__next__") ti z1s
  (wpAny_call_entry z1s ti F.entry_dict_keyiterator_next ?_ (F.args_dict_keyiterator_next_1 _))))
 have hh1:A.in1.handled=none:=hh
 wp_walk using wpAny_dictEntries h2 hod,wpAny_dictEpoch h2 hod,wpAny_fieldsOf h1 rfl,wpAny_setField h1 rfl
 have e0:(if (i:Int)<0 then none else es[(i:Int).toNat]?)=none:=by rw[if_neg (by omega),z0K,Array.getElem?_eq_none hi]
 rw[e0];dsimp only
 wp_walk using wpAny_setField h1 rfl
 ·rw[if_neg (show ¬ Builtin.Dict_items.ownsTuple ((Manifest.find? "dict_keyiterator").elim "dict_keyiterator" λ x=>x.tpName)=true by decide +kernel)];show 0<4;decide
 ·refine z02 ?_;refine dC λ h' e kp ty=>wpAny_raiseNew_none hh1 ?_;refine z02 (wpAny_isInstance ty isSubtype_stop (z09 (h h' λ b o hb z=>kp b o ?_)));exact ((Heap.SameBut.update ..).2 b hb).trans z
theorem W9 {A:Around}{d:Addr}{es:Array DictEntry}{od:Obj}{Q:zQ}(hd:(d==sysModules)=false) (hx:od.ExactDict) (hod:od.data=.dict es ep) (h2:s.heap.get? d=some od)
  (h:Q (.ref s.heap.objs.size) { s with heap:=s.heap.push { cls:=.type "dict_keyiterator",data:=.fields #[.ref d,.int 0 0,.int es.size 0,.int ep 0] } }):wpAny (model prog w) A (pyIter (.ref d)) Q E s:=by
 have ti:s.TypeIs (.ref d) "dict":=⟨_,h2,hx.1⟩;refine wpAny_pyIter_slot ti F.slot_dict_iter (wpAny_call_entry F.slot_dict_iter ti F.entry_dict_iter ?_ (F.args_dict_iter_1 _));unfold Builtin.«dict.__iter__»
 wp_walk using wpAny_dictEntries h2 hod,wpAny_dictEpoch h2 hod,wpAny_notOrdered_dict ti
 exact⟨_,rfl,"dict_keyiterator",_,⟨_,z0i _ rfl,rfl⟩,z1s.lookup,h⟩
end PySem
namespace PV
open PySem PySem.Spec L2
open PyProof.Rows hiding St
def Gx.lend (G:Gx) (x:Addr):Gx:={ G with lent:=some x }
section
variable {G:Gx}{x:Addr}
theorem Rep.lend {d:D}(r:Rep G H v d):Rep (G.lend x) H v d:=by
 induction r with
 | non=>exact .non
 | bl b=>exact .bl b
 | int i=>exact .int i
 | str x=>exact .str x
 | tup h l _ ih=>exact .tup h l ih
 | lst h l _ ih=>exact .lst h l ih
 | dk h l _ ih=>exact .dk h l ih
 | dt h l _ ih=>exact .dt h l ih
 | adr a=>exact .adr a
 | ob c h l _ ih=>exact .ob c h l ih
 | err c h q f=>exact .err c h q f
theorem RepL.lend {xs:List V}{ds:List D}(r:RepL G H xs ds):RepL (G.lend x) H xs ds:=⟨r.1,λ i y d a b=>(r.2 i y d a b).lend⟩
theorem Top.lend {A:List Addr}{a:Addr}{d:D}(t:Top G A H a d):Top (G.lend x) A H a d:=by
 cases d with
 | lst ds=>obtain⟨xs,q1,q2⟩:=t;exact⟨xs,q1,q2.lend⟩
 | dk ds=>obtain⟨xs,q1,q2,q3⟩:=t;exact⟨xs,q1,q2,q3.lend⟩
 | dt ds=>obtain⟨xs,q1,q2,q3⟩:=t;exact⟨xs,q1,q2,q3.lend⟩
 | ob c gs=>obtain⟨C,dx,xs,q1,q2,q3⟩:=t;exact⟨C,dx,xs,q1,q2,q3.lend⟩
 | _=>exact t.elim
theorem Top.sub {d:D}(t:Top G B H a d) (h:∀ a∈A,a∈B):Top G A H a d:=by
 cases d with
 | lst ds=>obtain⟨xs,q1,q2⟩:=t;exact⟨xs,q1,q2.mono (Cv h)⟩
 | dk ds=>obtain⟨xs,q1,q2,q3⟩:=t;exact⟨xs,q1,q2,q3.mono (Cv h)⟩
 | dt ds=>obtain⟨xs,q1,q2,q3⟩:=t;exact⟨xs,q1,q2,q3.mono (Cv h)⟩
 | ob c gs=>obtain⟨C,dx,xs,q1,q2,q3⟩:=t;exact⟨C,dx,xs,q1,q2,q3.mono (Cv h)⟩
 | _=>exact t.elim
def Ku (x:Addr) (H H':Hp):Prop:=∀ b o,b≠x->H b=some o->H' b=some o
theorem G7 (hx:x∈A) (s:Ku x H H'):Same (hid A H) (hid A H'):=λ b o h=>by
 unfold hid at h ⊢;split at h
 ·cases h
 ·rename_i hb;rw[if_neg hb];exact s b o (λ z=>hb (z▸hx)) h
theorem Top.other {d:D}(t:Top G A H q d) (nq:q≠x) (hx:x∈A) (s:Ku x H H'):Top G A H' q d:=by
 have sm:=G7 hx s;cases d with
 | lst ds=>obtain⟨xs,q1,q2⟩:=t;exact⟨xs,s _ _ nq q1,q2.mono sm⟩
 | dk ds=>obtain⟨xs,q1,q2,q3⟩:=t;exact⟨xs,s _ _ nq q1,q2,q3.mono sm⟩
 | dt ds=>obtain⟨xs,q1,q2,q3⟩:=t;exact⟨xs,s _ _ nq q1,q2,q3.mono sm⟩
 | ob c gs=>obtain⟨C,dx,xs,q1,q2,q3⟩:=t;exact⟨C,dx,xs,s _ _ nq q1,q2,q3.mono sm⟩
 | _=>exact t.elim
end
def tX (G:Gx) (A0:List Addr) (He:Hp) (h:FZ):TE:=λ σ H Q=>∃ ρ d ρ' A,OkW G A0 He A σ H ρ/\h ρ=some (d,ρ')/\∀ v H' A',OkW G A0 He A' σ H' ρ'->Same (hid A H) (hid A' H')->Rep G (hid A' H') v d->Q v H'
def PX (X:Cx) (G:Gx) (e:Expr) (h:FZ):Prop:=∀ ⦃A0⦄ He,PE X e (tX G A0 He h)
section
variable {G:Gx}{a b c:Expr}{fa fb fc:FE}{p2 px rp p:Pos}{fs:FA}{h:FZ}{hs:FZA}
end
end PV
namespace PV
open PySem L2
abbrev Ef:=List (Str×Bool×D)
abbrev FEs:=Rho->Ef->Option (Rho×Ef)
abbrev FTE:=Rho->Ef->Option Bool
def noOw (ρ:Rho):Bool:=ρ.all λ z=>match z with | .ow _=>false | _=>true
def pureE (g:FS):FEs:=λ ρ ε=>match g ρ with | some (.nx ρ')=>if noOw ρ'=true then some (ρ',ε) else none | _=>none
def Yg (f:Str) (fe:FE):FEs:=λ ρ ε=>(fe ρ).bind λ d=>if (ε.lookup f).isNone=true/\ε.length<1000 then some (ρ,ε++[(f,false,d)]) else none
def Oc (f:Str) (fe:FE):FEs:=λ ρ ε=>(fe ρ).bind λ d=>if (ε.lookup f).isNone=true/\ε.length<1000 then some (ρ,ε++[(f,true,d)]) else none
def repE (f:Str) (d:D):Ef->Ef
 | []=>[]
 | (g,b,x)::r=>if g=f then (g,b,d)::r else (g,b,x)::repE f d r
def Od (f:Str) (fk fv:FE):FEs:=λ ρ ε=>(fv ρ).bind λ v=>(fk ρ).bind λ k=>match ε.lookup f with | some (true,d)=>(Cq d k v).map λ d'=>(ρ,repE f d' ε) | _=>none
def Qp (t:FT):FTE:=λ ρ _=>t ρ
def inTE (f:Str) (fk:FE):FTE:=λ ρ ε=>(fk ρ).bind λ k=>match ε.lookup f with | some (true,.dk kds)=>(keyD k).map λ q=>(getK q kds).isSome | _=>none
def orTE (a b:FTE):FTE:=λ ρ ε=>match a ρ ε with | some true=>some true | some false=>b ρ ε | none=>none
def ifE (t:FTE):FEs:=λ ρ ε=>match t ρ ε with | some false=>some (ρ,ε) | _=>none
def nilE:FEs:=λ ρ ε=>some (ρ,ε)
def HB (g gs:FEs):FEs:=λ ρ ε=>(g ρ ε).bind λ r=>gs r.1 r.2
def Hm (tg:FG) (b:FEs):List D->FEs
 | [],ρ,ε=>some (ρ,ε)
 | d::r,ρ,ε=>(tg d ρ).bind λ ρ1=>if noOw ρ1=true then (b ρ1 ε).bind λ q=>Hm tg b r q.1 q.2 else none
def forE (src:FI) (tg:FG) (b:FEs):FEs:=λ ρ ε=>(src ρ).bind λ ds=>Hm tg b ds ρ ε
def Ui (n:Nat) (x:Addr) (ds:List D):Rho:=CN n (.adr x::ds)
def runI (n np:Nat) (b:FEs) (x:Addr) (ds:List D):Option Ef:=if ds.length+1=np then (b (Ui n x ds) []).map (·.2) else none
def finE (c:Str) (ε:Ef):D:=.ob c (ε.map λ p=>(p.1,p.2.2))
open Classical in
noncomputable def mkI (c:Str) (g:Addr->List D->Option Ef) (fs:FA):FE:=λ ρ=>(fs ρ).bind λ ds=>(g 0 ds).bind λ ε=>if ∀ x,g x ds=some ε then some (finE c ε) else none
end PV
variable {src:PV.FI}{ga:PV.FT}{fe:PV.FE}{ρ ρ':PV.Rho}{ds:List PV.D}{G:PV.Gx}{kds:List (L2.Key×PV.D)}{g:PV.D->PV.D->Option PV.D}{fg:PV.FG}{ε:PV.Ef}
namespace PV
open PySem PySem.Spec L2
open PyProof.Rows hiding St
theorem CZ (h:noOw ρ=true) (i:Nat) (d:D):ρ[i]?≠some (.ow d):=λ e=>by
 unfold noOw at h;rw[z0x] at h;have:=h _ (z0H e);cases this
inductive FsOk (G:Gx) (A0 A:List Addr) (H:Hp) (x:Addr):List (Str×V)->Ef->List Addr->Prop
 | nil:FsOk G A0 A H x [] [] []
 | pl {f:Str}{v:V}{d:D}{fs:List (Str×V)}{ε:Ef}{as:List Addr}:Rep G (hid A H) v d->FsOk G A0 A H x fs ε as->FsOk G A0 A H x ((f,v)::fs) ((f,false,d)::ε) as
 | ow {f:Str}{a:Addr}{d:D}{fs:List (Str×V)}{ε:Ef}{as:List Addr}:a∈A->a∉A0->a≠x->a∉as->Top G A H a d->FsOk G A0 A H x fs ε as->FsOk G A0 A H x ((f,.ref a)::fs) ((f,true,d)::ε) (a::as)
section
variable {A':List Addr}{x:Addr}{fs:List (Str×V)}{as:List Addr}
theorem FsOk.mp (h:FsOk G A0 A H x fs ε as) (r:∀ v d,Rep G (hid A H) v d->Rep G (hid A' H') v d) (t:∀ a∈as,∀ d,Top G A H a d->Top G A' H' a d) (s:∀ a∈as,a∈A->a∈A'):FsOk G A0 A' H' x fs ε as:=by
 induction h with
 | nil=>exact .nil
 | pl rv _ ih=>exact .pl (r _ _ rv) (ih t s)
 | ow h1 h2 h3 h4 h5 _ ih=>exact .ow (s _ z0h h1) h2 h3 h4 (t _ z0h _ h5) (ih (λ a ha=>t a (z0b _ ha)) (λ a ha=>s a (z0b _ ha)))
theorem FsOk.names (h:FsOk G A0 A H x fs ε as):fs.map (·.1)=ε.map (·.1):=by
 induction h with
 | nil=>rfl
 | pl _ _ ih=>simp[ih]
 | ow _ _ _ _ _ _ ih=>simp[ih]
theorem FsOk.len (h:FsOk G A0 A H x fs ε as):fs.length=ε.length:=by
 have:=congrArg List.length h.names;simpa using this
theorem FsOk.ne (h:FsOk G A0 A H x fs ε as):∀ a∈as,a∈A/\a∉A0/\a≠x:=by
 induction h with
 | nil=>intro a ha;cases ha
 | pl _ _ ih=>exact ih
 | ow h1 h2 h3 _ _ _ ih=>
  intro a ha
  rcases z08.mp ha with z | z
  ·subst z;exact⟨h1,h2,h3⟩
  ·exact ih a z
theorem NZ {f:Str}{v:V}:∀ {fs:List (Str×V)},fs.lookup f=none->L2.putF f v fs=fs++[(f,v)]
 | [],_=>rfl
 | (g,y)::r,h=>by
  by_cases hf:f=g
  ·subst hf;simp[z0d] at h
  ·have hb:(f==g)=false:=z0z.mpr hf;simp only[z0d,hb] at h;show (if g=f then (g,v)::r else (g,y)::L2.putF f v r)=_;rw[if_neg (λ z=>hf z.symm),NZ h];rfl
theorem FsOk.none {f:Str}(h:FsOk G A0 A H x fs ε as) (e:ε.lookup f=none):fs.lookup f=none:=by
 induction h with
 | nil=>rfl
 | @pl g v d fs ε as _ _ ih=>
  by_cases hf:f=g
  ·subst hf;simp[z0d] at e
  ·have hb:(f==g)=false:=z0z.mpr hf;simp only[z0d,hb] at e ⊢;exact ih e
 | @ow g a d fs ε as _ _ _ _ _ _ ih=>
  by_cases hf:f=g
  ·subst hf;simp[z0d] at e
  ·have hb:(f==g)=false:=z0z.mpr hf;simp only[z0d,hb] at e ⊢;exact ih e
theorem FsOk.snocP {f:Str}{d:D}(h:FsOk G A0 A H x fs ε as) (r:Rep G (hid A H) v d):FsOk G A0 A H x (fs++[(f,v)]) (ε++[(f,false,d)]) as:=by
 induction h with
 | nil=>exact .pl r .nil
 | pl rv _ ih=>exact .pl rv ih
 | ow h1 h2 h3 h4 h5 _ ih=>exact .ow h1 h2 h3 h4 h5 ih
theorem FsOk.snocO {f:Str}{d:D}(h:FsOk G A0 A H x fs ε as) (h1:a∈A) (h2:a∉A0) (h3:a≠x) (h4:a∉as) (t:Top G A H a d):FsOk G A0 A H x (fs++[(f,.ref a)]) (ε++[(f,true,d)]) (as++[a]):=by
 induction h with
 | nil=>exact .ow h1 h2 h3 (λ z=>nomatch z) t .nil
 | pl rv _ ih=>exact .pl rv (ih h4)
 | @ow g b e fs ε as q1 q2 q3 q4 q5 _ ih=>
  have hb:a≠b:=λ z=>h4 (by simp[z]);refine .ow q1 q2 q3 (λ z=>?_) q5 (ih λ z=>h4 (z0b _ z))
  rcases z0L.mp z with z | z
  ·exact q4 z
  ·simp at z;exact hb z.symm
theorem FsOk.get {f:Str}{d:D}(h:FsOk G A0 A H x fs ε as) (e:ε.lookup f=some (true,d)):∃ a,fs.lookup f=some (.ref a)/\a∈as/\a∈A/\a∉A0/\a≠x/\Top G A H a d:=by
 induction h with
 | nil=>cases e
 | @pl g v d' fs ε as _ _ ih=>
  by_cases hf:f=g
  ·subst hf;simp[z0d] at e
  ·have hb:(f==g)=false:=z0z.mpr hf;simp only[z0d,hb] at e ⊢;exact ih e
 | @ow g a d' fs ε as h1 h2 h3 _ h5 _ ih=>
  by_cases hf:f=g
  ·subst hf;simp only[z0d,z1k,Option.some.injEq,Prod.mk.injEq,true_and] at e ⊢;subst e;exact⟨a,rfl,z0h,h1,h2,h3,h5⟩
  ·have hb:(f==g)=false:=z0z.mpr hf;simp only[z0d,hb] at e ⊢;obtain⟨a',q1,q2,q3⟩:=ih e;exact⟨a',q1,z0b _ q2,q3⟩
theorem FsOk.wr {f:Str}{d d':D}(h:FsOk G A0 A H x fs ε as) (e:ε.lookup f=some (true,d)) (ea:fs.lookup f=some (.ref a)) (sx:Ku a H H') (hA:a∈A) (t:Top G A H' a d'):FsOk G A0 A H' x fs (repE f d' ε) as:=by
 have sm:=G7 hA sx
 induction h with
 | nil=>cases e
 | @pl g v d2 fs ε as rv hr ih=>
  by_cases hf:f=g
  ·subst hf;simp[z0d] at e
  ·have hb:(f==g)=false:=z0z.mpr hf;simp only[z0d,hb] at e ea;unfold repE;rw[if_neg (λ z=>hf z.symm)];exact .pl (rv.mono sm) (ih e ea)
 | @ow g b d2 fs ε as h1 h2 h3 h4 h5 hr ih=>
  by_cases hf:f=g
  ·subst hf;simp only[z0d,z1k,Option.some.injEq,V.ref.injEq] at ea;subst ea;unfold repE;rw[if_pos rfl];refine .ow h1 h2 h3 h4 t (hr.mp (λ v d r=>r.mono sm) (λ c hc d t'=>t'.other (λ z=>h4 (by rw[<-z];exact hc)) hA sx) λ _ _ z=>z)
  ·have hb:(f==g)=false:=z0z.mpr hf;simp only[z0d,hb] at e ea;obtain⟨a',q1,q2,_⟩:=hr.get e;rw[ea] at q1;cases q1;unfold repE;rw[if_neg (λ z=>hf z.symm)];exact .ow h1 h2 h3 h4 (h5.other (λ z=>h4 (z▸q2)) hA sx) (ih e ea)
end
structure EOk (G:Gx) (c:Str) (A0:List Addr) (He:Hp) (x:Addr) (A:List Addr) (σ:St) (H:Hp) (ρ:Rho) (ε:Ef):Prop where
 w:OkW G A0 He A σ H ρ
 no:noOw ρ=true
 xA:x∈A
 x0:x∉A0
 s0:ρ[0]?=some (.fz (.adr x))
 ob:∃ C dx fs as,H x=some (.ins C dx fs)/\G.cl c=some C/\FsOk G A0 A H x fs ε as
def EOkS (G:Gx) (c:Str) (A0:List Addr) (He:Hp) (x:Addr) (σ:St) (H:Hp) (ρ:Rho) (ε:Ef):Prop:=∃ A,EOk G c A0 He x A σ H ρ ε
section
variable {x:Addr}
theorem EOk.at0 (o:EOk G c A0 He x A σ H ρ ε):σ[0]?=some (some (.ref x)):=by
 obtain⟨v,h1,h2⟩:=o.w.ok.fz 0 _ o.s0;cases h2;exact h1
theorem EOk.mono (o:EOk G c A0 He x A σ H ρ ε) (s:Same H H'):EOk G c A0 He x A σ H' ρ ε:=by
 obtain⟨C,dx,fs,as,h1,h2,h3⟩:=o.ob;exact⟨o.w.mono s,o.no,o.xA,o.x0,o.s0,C,dx,fs,as,s _ _ h1,h2,h3.mp (λ v d r=>r.mono (Ar s)) (λ a ha d t=>t.mono s) λ _ _ z=>z⟩
theorem dF (s:Same H H') (fr:∀ a∈B,a∈A∨H a=none):Same (hid A H) (hid B H'):=λ b u h=>by
 unfold hid at h;split at h
 ·cases h
 ·rename_i hb;rw[Av]
  ·exact s b u h
  ·intro z
   rcases fr b z with q | q
   ·exact hb q
   ·rw[q] at h;cases h
theorem Top.plain {d:D}(t:Top G A H a d) (s:Same H H') (p:Same (hid A H) (hid B H')):Top G B H' a d:=by
 cases d with
 | lst ds=>obtain⟨xs,q1,q2⟩:=t;exact⟨xs,s _ _ q1,q2.mono p⟩
 | dk ds=>obtain⟨xs,q1,q2,q3⟩:=t;exact⟨xs,s _ _ q1,q2,q3.mono p⟩
 | dt ds=>obtain⟨xs,q1,q2,q3⟩:=t;exact⟨xs,s _ _ q1,q2,q3.mono p⟩
 | ob c gs=>obtain⟨C,dx,xs,q1,q2,q3⟩:=t;exact⟨C,dx,xs,s _ _ q1,q2,q3.mono p⟩
 | _=>exact t.elim
theorem EOk.frame (o:EOk G c A0 He x A σ H ρ ε):OkS G A H σ H ρ:=⟨A,Same.refl H,λ _ h=>h,λ a h=>.inl h,λ a ha=>(o.w.ok.live a ha).ne,o.w.ok,λ i d a h _=>absurd h (CZ o.no i d),λ y d _ h=>absurd h (CZ o.no 0 d)⟩
theorem EOk.unframe {σ':St}(o:EOk G c A0 He x A σ H ρ ε) (w:OkS G A H σ' H' ρ') (no:noOw ρ'=true) (s0:ρ'[0]?=some (.fz (.adr x))):EOkS G c A0 He x σ' H' ρ' ε:=by
 obtain⟨B,w⟩:=w;have pl:Same (hid A H) (hid B H'):=dF w.same w.fr;obtain⟨C,dx,fs,as,h1,h2,h3⟩:=o.ob;refine⟨B,⟨o.w.same.trans w.same,λ a ha=>w.sub a (o.w.sub a ha),λ a ha=>?_,o.w.l0,w.ok,λ i d a h _=>absurd h (CZ no i d),λ y d _ h=>absurd h (CZ no 0 d)⟩,no,w.sub x o.xA,o.x0,s0,C,dx,fs,as,w.same _ _ h1,h2,h3.mp (λ v d r=>r.mono pl) (λ a ha d t=>t.plain w.same pl) λ a _ ha=>w.sub a ha⟩
 rcases w.fr a ha with q | q
 ·exact o.w.fr a q
 ·exact .inr (o.w.same.free q)
theorem EOk.wr {ε':Ef}(o:EOk G c A0 He x A σ H ρ ε) (hp:p∈A) (h0:p∉A0) (sx:Ku p H H') (lv:Nt (H' p)) (ob:∃ C dx fs as,H' x=some (.ins C dx fs)/\G.cl c=some C/\FsOk G A0 A H' x fs ε' as):EOk G c A0 He x A σ H' ρ ε':=by
 have hep:He p=none:=(o.w.fr p hp).resolve_left h0;have sm:=G7 hp sx;refine⟨⟨λ b u h=>sx b u (Ck h hep) (o.w.same b u h),o.w.sub,o.w.fr,o.w.l0,⟨o.w.ok.len,λ b hb=>?_,λ j e h=>?_,λ j e h=>absurd h (CZ o.no j e),λ i j d e a h _ _ _=>absurd h (CZ o.no i d)⟩,λ i d a h _=>absurd h (CZ o.no i d),λ y d _ h=>absurd h (CZ o.no 0 d)⟩,o.no,o.xA,o.x0,o.s0,ob⟩
 ·by_cases z:b=p
  ·rw[z];exact lv
  ·exact (o.w.ok.live b hb).mono λ u e=>sx b u z e
 ·obtain⟨v,q1,q2⟩:=o.w.ok.fz j e h;exact⟨v,q1,q2.mono sm⟩
end
def tE (G:Gx) (c:Str) (A0:List Addr) (He:Hp) (x:Addr) (g:FEs):TS:=λ D σ H=>∃ ρ ε r,EOkS G c A0 He x σ H ρ ε/\g ρ ε=some r/\∀ σ' H',EOkS G c A0 He x σ' H' r.1 r.2->D.nx σ' H'
def PSE (X:Cx) (G:Gx) (c:Str) (st:Stmt) (g:FEs):Prop:=∀ ⦃A0⦄ He x,PS X st (tE G c A0 He x g)
def PSEs (X:Cx) (G:Gx) (c:Str) (st:List Stmt) (g:FEs):Prop:=∀ ⦃A0⦄ He x,PSs X st (tE G c A0 He x g)
def tTE (G:Gx) (c:Str) (A0:List Addr) (He:Hp) (x:Addr) (t:FTE):TT:=λ σ H Q=>∃ A ρ ε b,EOk G c A0 He x A σ H ρ ε/\t ρ ε=some b/\∀ H',Same H H'->Q b H'
def PTE (X:Cx) (G:Gx) (c:Str) (e:Expr) (t:FTE):Prop:=∀ ⦃A0⦄ He x,PT X e (tTE G c A0 He x t)
def PWE (X:Cx) (G:Gx) (c:Str) (e:Expr) (t:FTE):Prop:=∀ ⦃A0⦄ He x,PW X e (tTE G c A0 He x t)
section
variable {a b k it:Expr}{fa fb fk:FE}{p2 p px:Pos}{rest:List Stmt}{g gs:FEs}{gp:FS}{ta tb:FTE}{tp:FT}
theorem Vt (h1:PSE X G c st g) (h2:PSEs X G c rest gs):PSEs X G c (st::rest) (HB g gs):=λ A0 He x π s σ H D I ⟨ρ,ε,r,o,e,k⟩=>by
 refine Lf (@h1 A0 He x) (@h2 A0 He x) π s σ H D I ?_;unfold HB at e;cases e1:g ρ ε with
 | none=>simp[e1] at e
 | some q=>
  simp only[e1,z0p] at e;exact⟨ρ,ε,q,o,e1,λ σ' H' o'=>⟨q.1,q.2,r,o',e,k⟩⟩
theorem Yh (h1:PSE X G c st g):PSEs X G c [st] g:=λ A0 He x=>S6 (@h1 A0 He x)
theorem Qq (h:PSD X G st gp) (hk:∀ ρ ρ',gp ρ=some (.nx ρ')->ρ'[0]?=ρ[0]?):PSE X G c st (pureE gp):=λ A0 He x π s σ H D I ⟨ρ,ε,r,⟨A,o⟩,e,k⟩=>by
 unfold pureE at e;split at e
 ·rename_i ρ' e1;split at e
  ·rename_i no;cases e;refine @h A H π s σ H D I ⟨ρ,_,o.frame,e1,λ σ' H' w=>k σ' H' (o.unframe w no (by rw[hk ρ ρ' e1];exact o.s0))⟩
  ·cases e
 ·cases e
theorem Vu (h:PFT X G e tp):PTE X G c e (Qp tp):=λ A0 He x=>λ π s σ H Q I ⟨A,ρ,ε,b,o,e,k⟩=>@h A π s σ H Q I ⟨ρ,b,o.w.ok,e,k⟩
theorem jP (h:PTE X G c a ta):PWE X G c (.BoolOp .Or [a] pos) ta:=λ A0 He x=>aZ (@h A0 He x)
theorem oY {rest:List Expr}(ha:PTE X G c a ta) (hb:PWE X G c (.BoolOp .Or (b::rest) pos) tb):PWE X G c (.BoolOp .Or (a::b::rest) pos) (orTE ta tb):=λ A0 He x=>bz (kO (@ha A0 He x) (@hb A0 He x)) λ σ H Q ⟨A,ρ,ε,d,o,e,k⟩=>by
 unfold orTE at e;split at e
 ·rename_i e1;cases e;exact⟨A,ρ,ε,_,o,e1,λ H1 s1=>iteT (k H1 s1)⟩
 ·rename_i e1;exact⟨A,ρ,ε,_,o,e1,λ H1 s1=>iteF ⟨A,ρ,ε,d,o.mono s1,e,λ H2 s2=>k H2 (s1.trans s2)⟩⟩
 ·cases e
theorem PWE.pt (h:PWE X G c a ta):PTE X G c a ta:=λ A0 He x=>(@h A0 He x).pt
theorem oZ {x f:Str}{ap:Pos}(hu:X.A.units+1<cLine) (hcl:∀ c C,G.cl c=some C->Cls X.K C/\DQ X.K C f) (hv:PE X (.Name x px) (tVar 0)) (ha:PF X G a fa) (hb:attributeBase (.Name x px) f X.env (eval (.Name x px) X.env)=eval (.Name x px) X.env:=by rfl)
  (hm:behindInMarks .In (.Attribute (.Name x px) f ap)=false:=by rfl):PTE X G c (.Compare a [.In] [.Attribute (.Name x px) f ap] pos) (inTE f fa):=λ A0 He y π s σ H Q I ⟨A,ρ,ε,d,o,e,k⟩=>by
 refine S7 (W5 hu) (@ha A) (Wm hv hb) hm π s σ H Q I ?_;unfold inTE at e;cases e1:fa ρ with
 | none=>simp[e1] at e
 | some kd=>
  simp only[e1,z0p] at e;split at e
  ·rename_i kds e2;cases e3:keyD kd with
   | none=>simp[e3] at e
   | some q=>
    simp only[e3,z0E] at e;cases e;refine⟨ρ,kd,o.w.ok,e1,λ v H1 s1 r1=>?_⟩;obtain⟨C,dx,fs,as,h1,h2,h3⟩:=(o.mono s1).ob;obtain⟨p,q1,q2,q3,q4,q5,kvs,t1,t2,t3⟩:=h3.get e2;refine⟨_,o.at0,y,C,dx,fs,_,rfl,h1,(hcl _ _ h2).1,(hcl _ _ h2).2,q1,p,kvs,q,rfl,.of t1,Iz r1 e3,?_⟩;rw[(Ke (k:=q) t2 t3).2];exact⟨_,rfl,k H1 s1⟩
  ·cases e
theorem dG (ht:PTE X G c e ta) (h1:PSDs X G s1 badF):PSE X G c (.If e s1 [] pos) (ifE ta):=λ A0 He x π s σ H D I ⟨ρ,ε,r,⟨A,o⟩,e,k⟩=>by
 refine VJ (@ht A0 He x) (@h1 A0 He) O2 π s σ H D I ?_;unfold ifE at e;split at e
 ·rename_i e1;cases e;exact⟨A,ρ,ε,_,o,e1,λ H1 s1=>iteF (k σ H1 ⟨A,o.mono s1⟩)⟩
 ·cases e
theorem dH {x f:Str}(hcl:∀ c C,G.cl c=some C->Cls X.K C/\DQ X.K C f) (hv:PE X (.Name x px) (tVar 0)) (ha:PF X G a fa) (hsw:swapsWith a (some (.Attribute (.Name x px) f pos')) pos.line X.env=pure false:=by rfl) :
  PSE X G c (.Assign [.Attribute (.Name x px) f pos'] a pos) (Yg f fa):=λ A0 He y π s σ H D I ⟨ρ,ε,r,⟨A,o⟩,e,k⟩=>by
 refine bA hv (@ha A) hsw π s σ H D I ?_;unfold Yg at e;cases e1:fa ρ with
 | none=>simp[e1] at e
 | some d=>
  simp only[e1,z0p] at e;split at e
  ·rename_i hz;cases e;refine⟨ρ,d,o.w.ok,e1,λ u H1 s1 r1=>?_⟩;have o1:=o.mono s1;obtain⟨C,dx,fs,as,h1,h2,h3⟩:=o1.ob;have hn:=h3.none (Option.isNone_iff_eq_none.mp hz.1);refine⟨_,o.at0,y,C,dx,fs,rfl,h1,(hcl _ _ h2).1,(hcl _ _ h2).2,by rw[h3.len];exact hz.2,?_⟩;rw[NZ hn];have sx:Ku y H1 (upd H1 y (.ins C dx (fs++[(f,u)]))):=λ b w hb hw=>by rw[Al hb];exact hw
   have sm:=G7 o1.xA sx;refine k _ _ ⟨A,o1.wr o1.xA o1.x0 sx (by rw[Ag];exact Nt.ins) ⟨C,dx,_,as,Ag,h2,?_⟩⟩;exact (h3.mp (λ v d r=>r.mono sm) (λ p hp d t=>t.other (h3.ne p hp).2.2 o1.xA sx) λ _ _ z=>z).snocP (r1.mono sm)
  ·cases e
theorem Vv {x f:Str}(hcl:∀ c C,G.cl c=some C->Cls X.K C/\DQ X.K C f) (hv:PE X (.Name x px) (tVar 0)) (ha:PN X G a fa) (hsw:swapsWith a (some (.Attribute (.Name x px) f pos')) pos.line X.env=pure false:=by rfl) :
    PSE X G c (.Assign [.Attribute (.Name x px) f pos'] a pos) (Oc f fa):=λ A0 He y π s σ H D I ⟨ρ,ε,r,⟨A,o⟩,e,k⟩=>by
  refine bA hv (@ha A) hsw π s σ H D I ?_;unfold Oc at e;cases e1:fa ρ with
  | none=>simp[e1] at e
  | some d=>
    simp only[e1,z0p] at e;split at e
    · rename_i hz
      cases e;refine⟨ρ,d,o.w.ok,e1,λ q H1 s1 hq t=>?_⟩;obtain⟨C,dx,fs,as,h1,h2,h3⟩:=o.ob;have nqA:q∉A:=λ z=>(o.w.ok.live q z).ne hq;have pl:Same (hid A H) (hid (q::A) H1):=Iw s1 hq;have hn:=h3.none (Option.isNone_iff_eq_none.mp hz.1);have nq0:q∉A0:=λ z=>nqA (o.w.sub q z);have nqy:q≠y:=λ z=>nqA (z▸o.xA);have nqs:q∉as:=λ z=>nqA (h3.ne q z).1;have o1:EOk G c A0 He y (q::A) σ H1 ρ ε:=⟨⟨o.w.same.trans s1,λ a ha=>z0b _ (o.w.sub a ha),λ a ha=>by
          rcases z08.mp ha with z | z
          · rw[z];exact .inr (o.w.same.free hq)
          · exact o.w.fr a z,o.w.l0,o.w.ok.fill s1 hq t.live,λ i d a h _=>absurd h (CZ o.no i d),λ y d _ h=>absurd h (CZ o.no 0 d)⟩,o.no,z0b _ o.xA,o.x0,o.s0,C,dx,fs,as,s1 _ _ h1,h2,
          h3.mp (λ v d r=>r.mono pl) (λ p hp d t=>t.plain s1 pl) λ p _ hp=>z0b _ hp⟩
      have g1:=s1 _ _ h1;have g2:=h2;have g3:FsOk G A0 (q::A) H1 y fs ε as:=h3.mp (λ v d r=>r.mono pl) (λ p hp d t=>t.plain s1 pl) λ p _ hp=>z0b _ hp;have hn':=g3.none (Option.isNone_iff_eq_none.mp hz.1);refine⟨_,o.at0,y,C,dx,fs,rfl,g1,(hcl _ _ g2).1,(hcl _ _ g2).2,by rw[g3.len];exact hz.2,?_⟩;rw[NZ hn'];have sx:Ku y H1 (upd H1 y (.ins C dx (fs++[(f,.ref q)]))):=λ b w hb hw=>by rw[Al hb];exact hw
      have sm:=G7 o1.xA sx;refine k _ _ ⟨q::A,o1.wr o1.xA o1.x0 sx (by rw[Ag];exact Nt.ins) ⟨C,dx,_,as++[q],Ag,g2,?_⟩⟩;exact (g3.mp (λ v d r=>r.mono sm) (λ p hp d t=>t.other (g3.ne p hp).2.2 o1.xA sx) λ _ _ z=>z).snocO z0h nq0 nqy nqs (t.other nqy o1.xA sx)
    · cases e
theorem Vw {x f:Str}{ap:Pos}(hu:X.A.units+1<cLine) (hcl:∀ c C,G.cl c=some C->Cls X.K C/\DQ X.K C f) (hv:PE X (.Name x px) (tVar 0)) (ha:PF X G a fa) (hb:PF X G b fb) (hbase:attributeBase (.Name x px) f X.env (eval (.Name x px) X.env)=eval (.Name x px) X.env:=by rfl)
  (hs:swapsWith b (some (.Subscript (.Attribute (.Name x px) f ap) a spos)) pos.line X.env=pure false:=by rfl):PSE X G c (.Assign [.Subscript (.Attribute (.Name x px) f ap) a spos] b pos) (Od f fa fb):=λ A0 He y π s σ H D I ⟨ρ,ε,r,⟨A,o⟩,e,k⟩=>by
 refine O7 hu (Wm hv hbase) (@ha A) (@hb A) hs π s σ H D I ?_;unfold Od at e;cases e1:fb ρ with
 | none=>simp[e1] at e
 | some v=>
  cases e2:fa ρ with
  | none=>simp[e1,e2] at e
  | some kd=>
   simp only[e1,e2,z0p] at e;split at e
   ·rename_i d e3;cases e4:Cq d kd v with
    | none=>simp[e4] at e
    | some d'=>
     simp only[e4,z0E] at e;cases e;unfold Cq at e4;split at e4
     ·rename_i kds;cases e5:keyD kd with
      | none=>simp[e5] at e4
      | some q=>
       simp only[e5,z0p] at e4;split at e4
       ·rename_i hz;cases e4;refine⟨ρ,v,o.w.ok,e1,λ u H1 s1 r1=>?_⟩;have o1:=o.mono s1;obtain⟨C,dx,fs,as,h1,h2,h3⟩:=o1.ob;obtain⟨p,q1,q2,q3,q4,q5,kvs,t1,t2,t3⟩:=h3.get e3;refine⟨_,o.at0,y,C,dx,fs,_,rfl,h1,(hcl _ _ h2).1,(hcl _ _ h2).2,q1,ρ,kd,o1.w.ok,e2,λ yv H2 s2 r2=>?_⟩;have ek:=Iz r2 e5;subst ek;have o2:=o1.mono s2;obtain⟨C',dx',fs',as',g1,g2,g3⟩:=o2.ob;rw[s2 _ _ h1] at g1;cases g1;have hl:kvs.length<sizeLine:=by
         have:=congrArg List.length t2;rw[z00,z00] at this;omega
        refine⟨p,_,rfl,DPut.k (s2 _ _ t1) hl,?_⟩;have pk:=Py (k:=q) (r1.mono (Ar s2)) t2 (t3.mono (Ar s2));have sx:Ku p H2 (upd H2 p (.dK (putK kvs q u))):=λ b w hb hw=>by rw[Al hb];exact hw
        refine k _ _ ⟨A,o2.wr q3 q4 sx (by rw[Ag];exact Nt.dK) ⟨C,dx,fs,as',by rw[Al (Ne.symm q5)];exact s2 _ _ h1,g2,?_⟩⟩;refine g3.wr e3 q1 sx q3 ⟨_,Ag,pk.1,?_⟩;rw[Bc q3];exact pk.2
       ·cases e4
     ·cases e4
   ·cases e
theorem EOk.frameW {x:Addr}(o:EOk G c A0 He x A σ H ρ ε):OkW G A H A σ H ρ:=⟨Same.refl H,λ _ h=>h,λ a h=>.inl h,λ a ha=>(o.w.ok.live a ha).ne,o.w.ok,λ i d a h _=>absurd h (CZ o.no i d),λ y d _ h=>absurd h (CZ o.no 0 d)⟩
theorem Yi {gb:FEs}(hp:PassesOwn (model X.prog X.w) X.A X.env X.xe) (hc:X.calm=true) (hi:PFI X G false tg it src) (hg:PGD X G tg fg) (hk:∀ d ρ ρ',fg d ρ=some ρ'->ρ'[0]?=ρ[0]?) (hb:PSEs X G c body gb)
  (hs:∀ x,foldedSetIterable it X.env x=pure x:=by intro _;rfl):PSE X G c (.For tg it body [] pos) (forE src fg gb):=λ A0 He x π s σ H D I ⟨ρ,ε,r,⟨A,o⟩,e,k⟩=>by
 cases e1:src ρ with
 | none=>simp[forE,e1] at e
 | some ds=>
  have e':Hm fg gb ds ρ ε=some r:=by simpa [forE,e1] using e
  have hb':PSs X body (λ D σ H=>∃ A0 He x,tE G c A0 He x gb D σ H):=λ π s σ H D I ⟨A0,He,x,q⟩=>@hb A0 He x π s σ H D I q;have hg':PG X tg (λ v σ H Q=>∃ A0 He,tGD G A0 He fg v σ H Q):=λ π s σ H v u Q I r ⟨A0,He,q⟩=>@hg A0 He π s σ H v u Q I r q;refine Wg hp hc (@hi A) hg' hb' hs π s σ H D I ⟨ρ,ds,o.w.ok,e1,λ J H1 s1 sr=>?_⟩;have o1:=o.mono s1;obtain⟨sHe,w2⟩:=o1.w.here;generalize hHf:hid (A.filter λ a=>decide (a∉A0)) H1=Hf at sHe w2;have k2:∀ σ' H',EOkS G c A0 Hf x σ' H' r.1 r.2->D.nx σ' H':=λ σ' H' ⟨B,q⟩=>k σ' H' ⟨B,q.w.base sHe o.w.l0,q.no,q.xA,q.x0,q.s0,q.ob⟩;refine⟨λ i m σ' H'=>m=ds.length-i/\i<=ds.length/\∃ ρ' ε',EOkS G c A0 Hf x σ' H' ρ' ε'/\Hm fg gb (ds.drop i) ρ' ε'=some r,⟨ds.length,by simp,z0s _,ρ,ε,⟨A,w2,o1.no,o1.xA,o1.x0,o1.s0,o1.ob⟩,by simpa using e'⟩,?_⟩;rintro i m σ3 H3 ⟨rfl,hil,ρ3,ε3,⟨B,o3⟩,e3⟩;have pl:Same (hid A H1) (hid B H3):=by rw[<-hHf] at o3;exact OkW.plain o.w.sub o3.w
  by_cases hlt:i<ds.length
  ·right;have hd:ds[i]?=some ds[i]:=by simp[hlt]
   have ed:ds.drop i=ds[i]::ds.drop (i+1):=z1l hlt;rw[ed] at e3;unfold Hm at e3;refine⟨sr.go i H3 (pl.trans Am) hlt,λ σ' H'=>∃ ρ' ε',EOkS G c A0 Hf x σ' H' ρ' ε'/\Hm fg gb (ds.drop (i+1)) ρ' ε'=some r,λ σ' H' q=>⟨ds.length-(i+1),by omega,rfl,hlt,q⟩,λ y H' yy=>?_⟩;obtain⟨sy,rx⟩:=sr.yld i H3 y H' _ (pl.trans Am) hd yy;have o4:=o3.mono sy;cases e4:fg ds[i] ρ3 with
   | none=>simp[e4] at e3
   | some ρ4=>
    simp only[e4,z0p] at e3;split at e3
    ·rename_i no;refine⟨B,H',B,ρ3,ds[i],ρ4,o4.frameW,rx B o3.w.ok.live pl,e4,λ σ5 H5 ok5=>?_⟩;cases e5:gb ρ4 ε3 with
     | none=>simp[e5] at e3
     | some q=>
      simp only[e5,z0p] at e3;exact⟨A0,Hf,x,ρ4,ε3,q,o4.unframe ok5 no (by rw[hk _ _ _ e4];exact o4.s0),e5,λ σ' H' o'=>⟨q.1,q.2,o',e3⟩⟩
    ·cases e3
  ·left;have ei:i=ds.length:=by omega
   subst ei;rw[List.drop_length] at e3;cases e3;exact⟨sr.stop _ H3 (pl.trans Am) (z01 _),k2 σ3 H3 ⟨B,o3⟩⟩
end
theorem MF:b∈A.filter (λ b=>decide (b≠p))↔b∈A/\b≠p:=by simp[z0q]
theorem Yj {d:D}(I:Inv X π σ H s) (hA:a∈A) (t:Top G A H a d) :
  ∃ H',Inv X π σ H' s/\(∀ b,b≠a->H' b=H b)/\Same (hid A H) (hid (A.filter λ b=>decide (b≠a)) H')/\Rep G (hid (A.filter λ b=>decide (b≠a)) H') (.ref a) d:=by
 have key:∀ H':Hp,(∀ b,b≠a->H' b=H b)->Same (hid A H) (hid (A.filter λ b=>decide (b≠a)) H'):=λ H' hh b u h=>by
  unfold hid at h;split at h
  ·cases h
  ·rename_i hb;rw[Av (λ z=>hb (MF.mp z).1),hh b (λ z=>hb (z▸hA))];exact h
 have at0:∀ H':Hp,hid (A.filter λ b=>decide (b≠a)) H' a=H' a:=λ H'=>Av (λ z=>(MF.mp z).2 rfl);cases d with
 | lst ds=>
  obtain⟨xs,a1,a2⟩:=t;have sm:=key H λ _ _=>rfl;exact⟨H,I,λ _ _=>rfl,sm,.lst (.of (by rw[at0];exact a1)) (a2.mono sm).1 (a2.mono sm).2⟩
 | dk ds=>
  obtain⟨xs,a1,a2,a3⟩:=t;obtain⟨o,I'⟩:=Inv.frzK I a1;have sm:=key _ λ b hb=>Al (o:=.frz o (.dK xs)) hb;exact⟨_,I',λ b hb=>Al hb,sm,.dk (by rw[at0];exact Ag) a2 (a3.mono sm).2⟩
 | dt ds=>
  obtain⟨xs,a1,a2,a3⟩:=t;obtain⟨o,I'⟩:=Inv.frzT I a1;have sm:=key _ λ b hb=>Al (o:=.frz o (.dT xs)) hb;exact⟨_,I',λ b hb=>Al hb,sm,.dt (by rw[at0];exact Ag) a2 (a3.mono sm).2⟩
 | ob c gs=>
  obtain⟨C,dx,xs,a1,a2,a3⟩:=t;have sm:=key H λ _ _=>rfl;exact⟨H,I,λ _ _=>rfl,sm,.ob a2.1 (by rw[at0];exact a1) a2.2 (a3.mono sm).2⟩
 | _=>exact t.elim
theorem FsOk.frz {X:Cx}{G:Gx}{A0 A:List Addr}{π:zP}{s:Shared}{σ:St}{H:Hp}{x:Addr}{fs:List (Str×V)}{ε:Ef}{as:List Addr}(h:FsOk G A0 A H x fs ε as) (I:Inv X π σ H s) :
  ∃ H' A',Inv X π σ H' s/\(∀ b,b∉as->H' b=H b)/\(∀ b,b∈A'↔b∈A/\b∉as)/\Same (hid A H) (hid A' H')/\RepL G (hid A' H') (fs.map (·.2)) (ε.map λ p=>p.2.2):=by
 induction h with
 | nil=>exact⟨H,A,I,λ _ _=>rfl,λ b=>by simp,Same.refl _,.nil⟩
 | pl rv _ ih=>
  obtain⟨H',A',i1,i2,i3,i4,i5⟩:=ih;exact⟨H',A',i1,i2,i3,i4,.cons (rv.mono i4) i5⟩
 | @ow f a d fs ε as h1 h2 h3 h4 t _ ih=>
  obtain⟨H1,A1,i1,i2,i3,i4,i5⟩:=ih;have ha:a∈A1:=(i3 a).mpr ⟨h1,h4⟩;have e1:H1 a=H a:=i2 a h4;have t1:Top G A1 H1 a d:=by
   cases d with
   | lst ds=>obtain⟨xs,q1,q2⟩:=t;exact⟨xs,by rw[e1];exact q1,q2.mono i4⟩
   | dk ds=>obtain⟨xs,q1,q2,q3⟩:=t;exact⟨xs,by rw[e1];exact q1,q2,q3.mono i4⟩
   | dt ds=>obtain⟨xs,q1,q2,q3⟩:=t;exact⟨xs,by rw[e1];exact q1,q2,q3.mono i4⟩
   | ob c gs=>obtain⟨C,dx,xs,q1,q2,q3⟩:=t;exact⟨C,dx,xs,by rw[e1];exact q1,q2,q3.mono i4⟩
   | _=>exact t.elim
  obtain⟨H2,j1,j2,j3,j4⟩:=Yj i1 ha t1;refine⟨H2,A1.filter λ b=>decide (b≠a),j1,λ b hb=>?_,λ b=>?_,i4.trans j3,.cons j4 (i5.mono j3)⟩
  ·rw[j2 b (λ z=>hb (by simp[z])),i2 b (λ z=>hb (z0b _ z))]
  ·rw[MF,i3 b];simp only[z08,not_or];exact⟨λ ⟨⟨p1,p2⟩,p3⟩=>⟨p1,p3,p2⟩,λ ⟨p1,p3,p2⟩=>⟨⟨p1,p2⟩,p3⟩⟩
theorem EOk.whole {x:Addr}(o:EOk G c A0 He x A σ H ρ ε) (I:Inv X π σ H s) :
  ∃ H',Inv X π σ H' s/\Same He H'/\Rep G (hid A0 H') (.ref x) (finE c ε):=by
 obtain⟨C,dx,fs,as,h1,h2,h3⟩:=o.ob;obtain⟨H',A',i1,i2,i3,i4,i5⟩:=h3.frz I;have nx:x∉as:=λ z=>(h3.ne x z).2.2 rfl;refine⟨H',i1,λ b u hb=>?_,?_⟩
 ·rw[i2 b (λ z=>?_)]
  ·exact o.w.same b u hb
  ·obtain⟨q1,q2,_⟩:=h3.ne b z;rw[(o.w.fr b q1).resolve_left q2] at hb;cases hb
 ·have sb:∀ a∈A0,a∈A':=λ a ha=>(i3 a).mpr ⟨o.w.sub a ha,λ z=>(h3.ne a z).2.1 ha⟩;have en:fs.map (·.1)=(ε.map λ p=>(p.1,p.2.2)).map (·.1):=by
   rw[h3.names,z0k];rfl
  have es:(ε.map λ p=>(p.1,p.2.2)).map (·.2)=ε.map λ p=>p.2.2:=by rw[z0k];rfl
  refine .ob h2 (by rw[Av o.x0,i2 x nx];exact h1) en ?_;rw[es];exact (i5.mono (Cv sb)).2
def tEI (G:Gx) (c:Str) (A0:List Addr) (He:Hp) (x:Addr) (g:FEs):TS:=λ D σ H=>∃ ρ ε r,EOkS G c A0 He x σ H ρ ε/\g ρ ε=some r/\∀ σ' H',Same He H'->Rep G (hid A0 H') (.ref x) (finE c r.2)->D.nx σ' H'
def PSI (X:Cx) (G:Gx) (c:Str) (st:List Stmt) (g:FEs):Prop:=∀ ⦃A0⦄ He x,PSs X st (tEI G c A0 He x g)
theorem jQ:PSI X G c [] nilE:=λ A0 He x π s σ H D I ⟨ρ,ε,r,⟨A,o⟩,e,k⟩=>by
 cases e;obtain⟨H',I',q1,q2⟩:=o.whole I;exact O2 π s σ H' D I' (k σ H' q1 q2)
theorem Gb {rest:List Stmt}{g gs:FEs}(h1:PSE X G c st g) (h2:PSI X G c rest gs):PSI X G c (st::rest) (HB g gs):=λ A0 He x π s σ H D I ⟨ρ,ε,r,o,e,k⟩=>by
 refine Lf (@h1 A0 He x) (@h2 A0 He x) π s σ H D I ?_;unfold HB at e;cases e1:g ρ ε with
 | none=>simp[e1] at e
 | some q=>
  simp only[e1,z0p] at e;exact⟨ρ,ε,q,o,e1,λ σ' H' o'=>⟨q.1,q.2,r,o',e,k⟩⟩
def spI (G:Gx) (c:Str) (g:Addr->List D->Option Ef):Sp:=λ vs H Q _=>∃ A x vs' ds ε C dx,vs=.ref x::vs'/\(∀ a∈A,Nt (H a))/\x∉A/\H x=some (.ins C dx [])/\G.cl c=some C/\RepL G (hid (x::A) H) vs' ds/\g x ds=some ε ∧
 ∀ H',Ku x H H'->Rep G (hid A H') (.ref x) (finE c ε)->Q .non H'
theorem LK (n:Nat) (ds:List D):noOw (CN n ds)=true:=by
 unfold noOw CN;rw[z0x];intro z hz
 rcases z0L.mp hz with q | q
 ·obtain⟨d,_,rfl⟩:=z05.mp q;rfl
 ·rw[(List.mem_replicate.mp q).2]
theorem fn_I {base:Heap}{x:Str}{k:Nat}{b:FEs}(F:Fun G.K x qual st f fd) (S:FnScope N ps (Ab st)) (hl:ps.length<=N.length)
  (hb:∀ (cdv:Value) (A:Around) (outer:List Env) (s:Shared) (H:Hp) (E:XK),Room k (A.deeper (envOfC qual (Ab st) s.heap.objs.size f cdv))->PSI (cxOf CX0 P w G.K mg base N qual (Ab st) f cdv A outer s H E).nox G c (Bb st) b) :
  FnOk P w G.K mg base CX0 (k+1) f fd ps (spI G c (runI N.length ps.length b)):=by
 refine F.ok S (λ vs H Q E h=>?_) (λ cdv A outer s H vs Q E hr h=>?_)
 ·obtain⟨A,x,vs',ds,ε,C,dx,rfl,lv,hx,hH,hc,r,e,_⟩:=h;unfold runI at e;split at e
  ·rename_i hz;rw[z0B,r.1];exact hz
  ·cases e
 ·obtain⟨A1,x,vs',ds,ε,C,dx,rfl,lv,hx,hH,hc,r,e,k⟩:=h;unfold runI at e;split at e
  ·rename_i hz;have lv':∀ a∈x::A1,Nt (H a):=λ a ha=>by
    rcases z08.mp ha with z | z
    ·rw[z,hH];exact Nt.ins
    ·exact lv a z
   have r':RepL G (hid (x::A1) H) (.ref x::vs') (.adr x::ds):=.cons (.adr x) r;obtain⟨B,w⟩:=Lw (N:=N) lv' r' (by rw[z0B,r.1];omega);cases e1:b (Ui N.length x ds) [] with
   | none=>simp[e1] at e
   | some q=>
    simp only[e1,z0E] at e;cases e;have hzz:=hb cdv A outer s H E hr;refine⟨_,@hzz A1 (hid [x] H) x,Ui N.length x ds,[],q,?_,e1,λ σ' H' s' rv=>k H' (λ b o hb ho=>s' b o (by rw[Av (by simpa using hb)];exact ho)) rv⟩;refine⟨B,⟨Am,λ a ha=>w.sub a (z0b _ ha),λ a ha=>?_,λ a ha=>?_,w.ok,λ i d a h _=>absurd h (CZ (LK _ _) i d),λ y d _ h=>absurd h (CZ (LK _ _) 0 d)⟩,LK _ _,w.sub x z0h,hx,rfl,C,dx,[],[],hH,hc,.nil⟩
    ·rcases w.fr a ha with z | z
     ·rcases z08.mp z with z | z
      ·right;unfold hid;rw[if_pos (by simp[z])]
      ·exact .inl z
     ·right;unfold hid;split
      ·rfl
      ·exact z
    ·rw[Av (λ z=>hx (by simp at z;rw[<-z];exact ha))];exact (lv a ha).ne
  ·cases e
section
variable {a b:Expr}{fa fb:FE}{p2 p:Pos}{fs:FA}
theorem dI {k:Nat}{g:Addr->List D->Option Ef}{x:Str}(hcl:G.cl cn=some C) (M:Mk X.K C f) (F:FnOk X.prog X.w X.K X.mg X.base CX0 k f fd ps (spI G cn g)) (hr:Room (k+1) X.A) (hg:Gl X x) (hm:X.mg x=some (.ref C)) (hb:Binds X.K fd ps [])
  (ha:PFA X G (a::es) fs) (hdb:(x==("__debug__":Str))=false:=by decide) (he:starEach (a::es) X.env=(false,eval a X.env)::starEach es X.env:=by rfl) (hpl:(backTo pos (starEach es X.env)).any (·.1)=false:=by rfl) :
  PF X G (.Call (.Name x p) (a::es) [] pos) (mkI cn g fs):=λ A=>CV (iH M F hr hg hm hb .nil Ry (@ha A) hdb he hpl) λ σ H Q ⟨ρ,d,o,e,k⟩=>by
 unfold mkI at e;cases e1:fs ρ with
 | none=>simp[e1] at e
 | some ds=>
  cases e3:g 0 ds with
  | none=>simp[e1,e3] at e
  | some ε=>
   simp only[e1,e3,z0p] at e;split at e
   ·rename_i hall;cases e;refine⟨ρ,ds,o,e1,λ vs H1 s1 rv=>λ y dx hy hdx hne=>?_⟩;have sm:Same H1 (upd (upd H1 dx (.own y)) y (.ins C dx [])):=(Aq hdx _).trans (Aq (by rw[Al (Ne.symm hne)];exact hy) _);have lv1:=(o.mono s1).live;refine⟨A,y,vs,ds,ε,C,dx,by rw[z0w],λ b hb=>?_,λ z=>(lv1 y z).ne hy,Ag,hcl,rv.mono (Iw sm hy),hall y,λ H' sx rv'=>?_⟩
    ·exact (lv1 b hb).mono λ u e=>sm _ _ e
    ·refine⟨rfl,k _ H' (λ b u hb=>sx b u (λ z=>?_) (sm _ _ (s1 _ _ hb))) rv'⟩;have:=s1 _ _ hb;rw[z,hy] at this;cases this
   ·cases e
end
theorem Uj {f:FE}(ρ ρ':Rho) (h:Ff f ρ=some (.nx ρ')):ρ'[0]?=ρ[0]?:=by
 unfold Ff at h;cases e:f ρ with
 | none=>simp[e] at h
 | some d=>simp[e] at h;rw[h]
def K0s (g:FGs):Prop:=∀ ds ρ ρ',g ds ρ=some ρ'->ρ'[0]?=ρ[0]?
theorem dJ:K0s nilG:=λ ds ρ ρ' h=>by
 unfold nilG at h;split at h
 ·cases h;rfl
 ·cases h
theorem P0 {g:FGs}(hi:i≠0) (hg:K0s g):K0s (BZ i g):=λ ds ρ ρ' h=>by
 unfold BZ at h;split at h
 ·rw[hg _ _ _ h,z0D hi]
 ·cases h
theorem dM {g:FGs}(hg:K0s g) (d:D) (ρ ρ':Rho) (h:tupG n g d ρ=some ρ'):ρ'[0]?=ρ[0]?:=by
 unfold tupG at h;split at h
 ·split at h
  ·exact hg _ _ _ h
  ·cases h
 ·split at h
  ·exact hg _ _ _ h
  ·cases h
 ·cases h
end PV
namespace PV
open PySem PySem.W PySem.Calls PyProof.Rows L2
end PV
namespace PySem
open PySem.Spec
section
variable {A:Around}{I d:Addr}{es:Array DictEntry}{od:Obj}
def qz (h:Heap) (I d:Addr) (i n ep:Nat) (od:Obj):Prop:=h.get? I=some { cls:=.type "dict_keyiterator",data:=.fields #[.ref d,.int i 0,.int n 0,.int ep 0] }/\h.get? d=some od
theorem Walks.raw (hh:A.handled=none) (hne:d≠I) (hod:od.data=.dict es ep):Walks prog w A I [I,d] [I] es.size (λ i v=>∃ hi:i<es.size,v=(es[i]'hi).key) (λ i h=>qz h I d i es.size ep od) where
 sub:=λ b hb=>by simp at hb;simp[hb]
 frame:=λ _ _ _ st hk=>⟨hk I (by simp) _ st.1,hk d (by simp) _ st.2⟩
 item:=λ i s Q E hi st hQ=>by
  refine W8 hod hi st.1 st.2 ?_;have e1:(s.heap.update I (Obj.mapFields (·.setIfInBounds 1 (rawInt ((i:Int)+1))))).get? I=some { cls:=.type "dict_keyiterator",data:=.fields #[.ref d,.int ((i+1:Nat):Int) 0,.int es.size 0,.int ep 0] }:=Heap.get?_update_self _ st.1 rfl;exact hQ _ _ s.toks ⟨hi,rfl⟩ ⟨e1,(Heap.get?_update_other _ _ (Ne.symm hne)).trans st.2⟩ λ b o hb e=>(Heap.get?_update_other _ _ (λ z=>hb (by simp[<-z]))).trans e
 done:=λ s Q E st hQ=>Rf hh hod (z01 _) st.1 st.2 λ h' he=>hQ h' s.toks λ b o hb e=>he b o (λ z=>hb (by simp[z])) e
 self:=λ _ _ _ _ st hQ=>wpAny_pyIter_keyiter ⟨_,st.1,rfl,rfl⟩ hQ
theorem jR (hd:(d==sysModules)=false) (hx:od.ExactDict) (hod:od.data=.dict es ep):PySem.W.KdlSrc prog w "dict" d d es.size (λ i v=>∃ hi:i<es.size,v=(es[i]'hi).key) (λ h=>h.get? d=some od) where
 type:=λ _ hm=>⟨_,hm,hx.1⟩
 there:=λ _ hm=>⟨z07 hm,z07 hm⟩
 keep:=λ _ _ hm hk=>hk d (.inl rfl) _ hm
 notList:=by decide
 notTuple:=by decide
 hint:=λ _ _ _ _ hm hq=>PySem.W.kdl_hint_dict ⟨_,hm,hx.1⟩ hq
 iter:=λ A s hh hm=>⟨_,_,λ E Q hq=>W9 hd hx hod hm hq,Walks.raw hh (z0l (z07 hm)) hod,z0i _ rfl,z0c _ hm⟩
end
end PySem
namespace PV
open PySem PySem.Spec L2
open PyProof.Rows hiding St
section
theorem Ep (hc:X.calm=true):Do X (.type "list") (λ xs H Q=>∃ p kvs,xs=[.ref p]/\Rd H p (.dT kvs)/\∀ l (cs:List Addr),H l=none->cs.length=kvs.length->(∀ (i:Nat) (c:Addr) (q:List Key×V),cs[i]?=some c->kvs[i]?=some q->H c=some (.tup (q.1.map kV)))->Q (.ref l) (upd H l (.lst (cs.map V.ref)))):=by
 intro π s σ H xs us Q I r h;obtain⟨p,kvs,rfl,e,q⟩:=h;obtain⟨u,rfl,ru⟩:=r.one;cases ru;obtain⟨z,hd,ys,rel,o,es,ep,ho,hx,hod,hes,nd⟩:=(show BK X.prog X.w H s.heap p (.dT kvs) from bQ I.hok e);have hl:kvs.length=ys.length:=rel.length;have hn:es.size=ys.length:=by rw[<-z1b,hes,z00]
 refine PySem.W.kdl_call (PySem.jR hd hx hod) (I.ok.hd hc) ho (by omega) λ h' tk acc c' kp hnew hi=>?_;have va:Vals ((ys.map (·.2.1)).map V.ref) acc.toList:=by
  have hla:acc.toList.length=ys.length:=by rw[z1b,hi.1,hn]
  have g:∀ (j:Nat) u,acc.toList[j]?=some u->∃ y,ys[j]?=some y/\u=.ref y.2.1:=λ j u hu=>by
   obtain⟨h1,h2⟩:=hi.2 j u (by simpa using hu);have hj:j<ys.length:=by omega
   refine⟨ys[j],by simp[hj],?_⟩;have e1:es[j]=entryOfKey (tupleKind (Aw X.prog X.w)) ys[j]:=by
    have:es.toList[j]?=some (entryOfKey (tupleKind (Aw X.prog X.w)) ys[j]):=by rw[hes];simp[hj]
    have h3:es.toList[j]?=some es[j]:=by simp[h1]
    rw[h3] at this;exact z0e this
   rw[h2,e1];rfl
  have build:∀ {ys:List (List Key×Addr×Value)}{us:List Value},us.length=ys.length->(∀ (j:Nat) u,us[j]?=some u->∃ y,ys[j]?=some y/\u=.ref y.2.1)->Vals ((ys.map (·.2.1)).map V.ref) us:=by
   intro ys
   induction ys with
   | nil=>intro us h1 _;rw[List.eq_nil_of_length_eq_zero h1];exact .nil
   | cons y r ih=>
    intro us h1 h2;cases us with
    | nil=>simp at h1
    | cons u us=>
     obtain⟨y',a1,a2⟩:=h2 0 u rfl;simp at a1;subst a1;exact .cons a2 (ih (by simpa using h1) λ j v hv=>by simpa using h2 (j+1) v (by simpa using hv))
  exact build hla g
 refine⟨.ref s.heap.objs.size,_,I.laid (t':=tk) kp (z01 _) (show BK X.prog X.w _ h' _ (.lst ((ys.map (·.2.1)).map V.ref)) from⟨by rw[z00,z00];omega,acc.toList,c',va,by simpa using hnew⟩),rfl,q _ _ (I.hok.fresh (z01 _)) (by rw[z00];exact hl.symm) λ i c qq h1 h2=>?_⟩;rw[z04] at h1;cases e3:ys[i]? with
 | none=>rw[e3] at h1;cases h1
 | some y=>
  rw[e3] at h1;cases h1;exact (Gr rel h2 e3).2.1
def J6:D->Option D
 | .dt kds=>some (.lst (kds.map λ p=>.tup (p.1.map kDt)))
 | d=>listE d
theorem Vx {H:Hp}:∀ (k:List Key),RepL G H (k.map kV) (k.map kDt)
 | []=>.nil
 | k::r=>.cons (Pz k) (Vx r)
theorem RepT.dt {A:List Addr}{H:Hp}{v:V}{kds:List (List Key×D)}(r:RepT G A H v (.dt kds)):∃ a kvs,v=.ref a/\Rd H a (.dT kvs)/\kvs.map (·.1)=kds.map (·.1)/\RepL G (hid A H) (kvs.map (·.2)) (kds.map (·.2)):=by
 rcases r with r | ⟨a,e,kvs,h,k,r⟩
 ·cases r with
  | dt h k r=>
   refine⟨_,_,rfl,.inr ⟨_,Am _ _ h⟩,k,?_,r⟩;have:=congrArg List.length k;rw[z00,z00] at this ⊢;exact this
 ·exact⟨a,kvs,e,.of h,k,r⟩
theorem JB:SndC G (λ xs H Q=>((∃ p ys,xs=[.ref p]/\(SqL G.K H p ys∨SqT G.K H p ys)/\∀ l,H l=none->Q (.ref l) (upd H l (.lst ys)))∨∃ p kvs,xs=[.ref p]/\Rd H p (.dK kvs)/\∀ l,H l=none->Q (.ref l) (upd H l (.lst (kvs.map λ q=>kV q.1)))) ∨
  ∃ p kvs,xs=[.ref p]/\Rd H p (.dT kvs)/\∀ l (cs:List Addr),H l=none->cs.length=kvs.length->(∀ (i:Nat) (c:Addr) (q:List Key×V),cs[i]?=some c->kvs[i]?=some q->H c=some (.tup (q.1.map kV)))->Q (.ref l) (upd H l (.lst (cs.map V.ref)))) J6:=by
 intro A H x dx d Q lv rx h k;unfold J6 at h;split at h
 ·rename_i kds;cases h;obtain⟨p,kvs,rfl,h1,h2,r⟩:=rx.dt;have hl:kvs.length=kds.length:=by have:=congrArg List.length h2;rwa [z00,z00] at this
  refine .inr ⟨p,kvs,rfl,h1,λ l cs hfree hcs hc=>k _ _ (Aq hfree _) (Bs lv hfree ⟨by rw[z00,z00];omega,λ i v dd e1 e2=>?_⟩)⟩;rw[z04] at e1 e2;cases g1:cs[i]? with
  | none=>rw[g1] at e1;cases e1
  | some c=>
   cases g2:kds[i]? with
   | none=>rw[g2] at e2;cases e2
   | some qd=>
    rw[g1] at e1;rw[g2] at e2;cases e1;cases e2;have hi:i<kvs.length:=by rw[hl];exact (z0m.mp g2).1
    have g3:kvs[i]?=some kvs[i]:=by simp[hi]
    have ek:(kvs[i]).1=qd.1:=by
     have a1:(kvs.map (·.1))[i]?=some (kvs[i]).1:=by rw[z04,g3];rfl
     rw[h2,z04,g2] at a1;exact (z0e a1).symm
    have ht:=hc i c _ g1 g3;rw[ek] at ht;have nA:c∉A:=λ z=>(lv c z).tup _ ht;have kr:=Vx (G:=G) (H:=hid A H) qd.1;exact .tup (.of (by rw[Av nA];exact ht)) kr.1 kr.2
 ·exact .inl (aA A H x dx d Q lv rx h k)
end
section
def dkEq (a b:List (Key×D)):Option Bool:=if a.length≠b.length then some false else if a.map (·.1)=b.map (·.1) then allO flD (a.map (·.2)) (b.map (·.2)) else none
theorem Yk {A:Around}{s:Shared}{kb:List (Key×Value)}:∀ {ka:List (Key×Value)}{ds es:List D}{b:Bool},ka.length=ds.length ->
  (∀ (j:Nat) (k:Key) (v:Value) (d e:D) (c:Bool),ka[j]?=some (k,v)->ds[j]?=some d->es[j]?=some e->flD d e=some c->∃ y,valueAt kb k=some y/\SeqAt.EqAt A s v y c)->allO flD ds es=some b->PySem.W.KeqHits A s kb ka b
 | [],ds,es,b,hl,_,h=>by
  cases ds with
  | nil=>
   cases es with
   | nil=>cases h;exact .nil
   | cons e r=>cases h
  | cons d r=>simp at hl
 | (k,v)::ka,[],es,b,hl,_,h=>by simp at hl
 | (k,v)::ka,d::ds,[],b,hl,_,h=>by cases h
 | (k,v)::ka,d::ds,e::es,b,hl,g,h=>by
  unfold allO at h;cases e1:flD d e with
  | none=>rw[e1] at h;cases h
  | some c=>
   cases e2:allO flD ds es with
   | none=>rw[e1,e2] at h;cases h
   | some b'=>
    rw[e1,e2] at h;cases h;obtain⟨y,h1,h2⟩:=g 0 k v d e c rfl rfl rfl e1;exact .hit h1 h2 (Yk (by simpa using hl) (λ j k v d e c a1 a2 a3 a4=>g (j+1) k v d e c (by simpa using a1) (by simpa using a2) (by simpa using a3) a4) e2)
def dN (G:Gx) (neg:Bool):R2:=λ x y H Q=>∃ (A:List Addr) (a b:List (Key×D)) (c:Bool),RepT G A H x (.dk a)/\RepT G A H y (.dk b)/\dkEq a b=some c/\Q (.bl (if neg then !c else c)) H
theorem R_ (hG:G.K=X.K) (hu:X.A.units+64<cLine) (I:Inv X π σ H s) {A:List Addr}{a b:List (Key×D)}{c:Bool}{x y:V}(rx:RepT G A H x (.dk a)) (ry:RepT G A H y (.dk b)) (e:dkEq a b=some c) :
  ∃ p q ka kb,x=.ref p/\y=.ref q/\(p==sysModules)=false/\(q==sysModules)=false/\s.heap.DictOf (Aw X.prog X.w) p ka/\s.heap.DictOf (Aw X.prog X.w) q kb/\∃ c',(ka.length=kb.length->PySem.W.KeqHits X.A.in1 s kb ka c')/\((ka.length==kb.length)&&c')=c:=by
 obtain⟨p,kvs,rfl,h1,h2,r1⟩:=rx.dk;obtain⟨q,kws,rfl,h3,h4,r2⟩:=ry.dk;unfold dkEq at e;split at e
 ·rename_i hlen;cases e;obtain⟨z1,hd1,va,rela,da⟩:=Im I.hok h1;obtain⟨z2,hd2,vb,relb,db⟩:=Im I.hok h3;have la:kvs.length=va.length:=rela.length;have lb:kws.length=vb.length:=relb.length;have l1:kvs.length=a.length:=by have:=congrArg List.length h2;simpa using this
  have l2:kws.length=b.length:=by have:=congrArg List.length h4;simpa using this
  exact⟨p,q,va,vb,rfl,rfl,hd1,hd2,da,db,true,λ z=>absurd z (by omega),by rw[Bool.and_true];exact z0z.mpr (by omega)⟩
 split at e
 ·rename_i hk;obtain⟨z1,hd1,va,rela,da⟩:=Im I.hok h1;obtain⟨z2,hd2,vb,relb,db⟩:=Im I.hok h3;have la:kvs.length=va.length:=rela.length;have lb:kws.length=vb.length:=relb.length;have l1:kvs.length=a.length:=by have:=congrArg List.length h2;simpa using this
  have l2:kws.length=b.length:=by have:=congrArg List.length h4;simpa using this
  have l3:a.length=b.length:=by have:=congrArg List.length hk;simpa using this
  have nd:(vb.map (·.1)).Nodup:=by obtain⟨_,_,_,_,_,_,_,_,nd⟩:=db;exact nd
  refine⟨p,q,va,vb,rfl,rfl,hd1,hd2,da,db,c,λ _=>Yk (ds:=a.map (·.2)) (es:=b.map (·.2)) (by rw[z00];omega) (λ j k v d e' c' g1 g2 g3 g4=>?_) e,by rw[z0J.mpr (show va.length=vb.length by omega),Bool.true_and]⟩;have hj:j<va.length:=(z0m.mp g1).1;have kj:kvs[j]?=some kvs[j]:=by simp[show j<kvs.length by omega]
  have wj:kws[j]?=some kws[j]:=by simp[show j<kws.length by omega]
  have bj:vb[j]?=some vb[j]:=by simp[show j<vb.length by omega]
  have p1:=Gr rela kj g1;have p2:=Gr relb wj bj;have ek:(kvs[j]).1=(kws[j]).1:=by
   have a1:(kvs.map (·.1))[j]?=some (kvs[j]).1:=by rw[z04,kj];rfl
   have a2:(kws.map (·.1))[j]?=some (kws[j]).1:=by rw[z04,wj];rfl
   rw[h2,hk,<-h4,a2] at a1;exact (z0e a1).symm
  have key:k=(vb[j]).1:=by rw[<-p2.1,<-ek];exact p1.1.symm
  refine⟨(vb[j]).2,valueAt_of_get nd (i:=j) (by rw[bj,key]),?_⟩;have rv1:Rep G (hid A H) (kvs[j]).2 d:=r1.2 j _ d (by rw[z04,kj];rfl) g2;have rv2:Rep G (hid A H) (kws[j]).2 e':=r2.2 j _ e' (by rw[z04,wj];rfl) g3;exact K_ I hG 0 X.A.in1 (by show X.A.units+1+0<cLine;omega) (show eqK 0 d e'=some c' from g4) (rv1.mono Am) (rv2.mono Am) p1.2 p2.2
 ·cases e
theorem jT (hG:G.K=X.K) (hu:X.A.units+64<cLine):OpR X (compareOp .Eq) (dN G false):=by
 intro π s σ H x y v u Q I rx ry h;obtain⟨A,a,b,c,r1,r2,e,k⟩:=h;obtain⟨p,q,ka,kb,rfl,rfl,m1,m2,da,db,c',hits,rfl⟩:=R_ hG hu I r1 r2 e;cases rx;cases ry;exact PySem.W.keq_eq m1 m2 da db (by omega) hits ⟨.bl _,H,I,rfl,k⟩
theorem jU (hG:G.K=X.K) (hu:X.A.units+64<cLine):OpR X (compareOp .NotEq) (dN G true):=by
 intro π s σ H x y v u Q I rx ry h;obtain⟨A,a,b,c,r1,r2,e,k⟩:=h;obtain⟨p,q,ka,kb,rfl,rfl,m1,m2,da,db,c',hits,rfl⟩:=R_ hG hu I r1 r2 e;cases rx;cases ry;exact PySem.W.keq_ne m1 m2 da db (by omega) hits ⟨.bl _,H,I,rfl,k⟩
def eqF (neg:Bool) (x y:D):Option D:=match x,y with
 | .dk a,.dk b=>(dkEq a b).map λ c=>.bl (if neg then !c else c)
 | x,y=>eqD neg x y
theorem Yl (neg:Bool):DY G (λ x y H Q=>rEqA G neg x y H Q∨dN G neg x y H Q) (eqF neg):=by
 intro A H x y dx dy d Q lv rx ry h k;unfold eqF at h;split at h
 ·rename_i a b;cases e:dkEq a b with
  | none=>simp[e] at h
  | some c=>
   simp only[e,z0E] at h;cases h;exact .inr ⟨A,a,b,c,rx,ry,e,k _ H (Same.refl H) (.bl _)⟩
 ·exact .inl (M_ neg A H x y _ _ d Q lv rx ry h k)
end
structure FunD (K:zFr) (x qual:Str) (st:Stmt) (f:Addr) (fd:FuncData):Prop where
 ex:∃ (oc:Value) (od:Option Addr) (dV kV doc pm:Value) (an:Option Addr) (cdv ct:Value) (osl:Array (Option Value)),
  fd=PySem.W.fnOf x qual (DW st) (Bb st) (Ab st) dV kV doc pm an cdv ct/\K.lookup f=some ⟨oc,od,.func fd,osl⟩/\PySem.W.codeIn K cdv qual=true
 kp:PySem.W.keepIn K (.ref f)=true
theorem jV {K:zFr}{x:Str}{dV kV:Value}(l:K.lookup f=some ⟨oc,od,.func (PySem.W.fnOf x qual (DW st) (Bb st) (Ab st) dV kV doc pm an cdv ct),osl⟩)
  (c:PySem.W.codeIn K cdv qual=true) (k:PySem.W.keepIn K (.ref f)=true):FunD K x qual st f (PySem.W.fnOf x qual (DW st) (Bb st) (Ab st) dV kV doc pm an cdv ct):=⟨⟨oc,od,dV,kV,doc,pm,an,cdv,ct,osl,rfl,l,c⟩,k⟩
theorem FunD.binds {K:zFr}{x:Str}(F:FunD K x qual st f fd)
  (h:∀ (dV kV doc pm:Value) (an:Option Addr) (cdv ct:Value) (us:List Value),us.length=ps.length->bindArgs (PySem.W.fnOf x qual (DW st) (Bb st) (Ab st) dV kV doc pm an cdv ct) ⟨us,[]⟩=pure (ps.zip us)):Binds K fd ps []:=by
 obtain⟨oc,od,dV,kV,doc,pm,an,cdv,ct,osl,rfl,lk,hcd⟩:=F.ex;exact .all (h dV kV doc pm an cdv ct)
theorem q8 {base:Heap}{x:Str}{k:Nat}{b:FS}(F:FunD G.K x qual st f fd) (S:FnScope N ps (Ab st)) (hl:ps.length<=N.length)
  (hb:∀ (cdv:Value) (A:Around) (outer:List Env) (s:Shared) (H:Hp) (E:XK),Room k (A.deeper (envOfC qual (Ab st) s.heap.objs.size f cdv))->PSDs (cxOf CX0 P w G.K mg base N qual (Ab st) f cdv A outer s H E).nox G (Bb st) b) :
  FnOk P w G.K mg base CX0 (k+1) f fd ps (spD G (runF N.length ps.length b)):=by
 obtain⟨oc,od,dV,kV,doc,pm,an,cdv,ct,osl,rfl,lk,hcd⟩:=F.ex;refine bG lk hcd S (λ vs H Q E h=>?_) (λ A outer s H vs Q E hr h=>?_)
 ·obtain⟨A,ds,d,lv,r,e,_⟩:=h;unfold runF at e;split at e
  ·rename_i hz;rw[r.1];exact hz
  ·cases e
 ·obtain⟨A0,ds,d,lv,r,e,k⟩:=h;unfold runF at e;split at e
  ·rename_i hz;have hzz:=hb cdv A outer s H E hr;refine⟨_,(@hzz A0 H).nox,CN N.length ds,?_⟩;cases e1:b (CN N.length ds) with
   | none=>simp[e1] at e
   | some o=>
    refine⟨o,Lw lv r (by rw[r.1,hz];exact hl),rfl,?_⟩;cases o with
    | nx ρ=>
     simp only[e1] at e;cases e;exact λ σ H' ⟨A,w⟩=>k _ H' w.same .non
    | rt d' ρ'=>
     simp only[e1] at e;cases e;exact λ v σ H' A w r'=>k v H' w.same (r'.mono (Cv w.sub))
    | bk ρ=>simp[e1] at e
    | ct ρ=>simp[e1] at e
  ·cases e
end PV
namespace PV
open PySem L2
theorem W_ (l:List D) (y:D):ixE (.lst l) y=ixD (.lst l) y:=zE_ _
theorem dO (l:List D) (y:D):ixE (.tup l) y=ixD (.tup l) y:=zE_ _
theorem dR (l:Str) (y:D):ixE (.str l) y=ixD (.str l) y:=zE_ _
theorem Hn (k:List (Key×D)) (x:Str):ixE (.dk k) (.str x)=getK (.inr x) k:=zE_ _
theorem Ym (k:List (Key×D)) (x:Int):ixE (.dk k) (.int x)=getK (.inl x) k:=zE_ _
theorem Yn (l:List D):lenE (.lst l)=some (.int l.length):=zE_ _
theorem Yo (l:List (Key×D)):lenE (.dk l)=some (.int l.length):=zE_ _
theorem Yp (neg:Bool) (x:Str) (k:List (Key×D)):inF neg (.str x) (.dk k)=some (.bl (if neg then !(getK (.inr x) k).isSome else (getK (.inr x) k).isSome)):=zE_ _
theorem Uk (neg:Bool) (x:Int) (k:List (Key×D)):inF neg (.int x) (.dk k)=some (.bl (if neg then !(getK (.inl x) k).isSome else (getK (.inl x) k).isSome)):=zE_ _
theorem Yq (neg:Bool) (x:Str) (l:List D):inF neg (.str x) (.tup l)=inD neg (.str x) (.tup l):=zE_ _
theorem Yr (neg:Bool) (x:Str) (l:List D):inF neg (.str x) (.lst l)=inD neg (.str x) (.lst l):=zE_ _
theorem Ys (neg:Bool) (x:Int) (l:List D):inF neg (.int x) (.lst l)=inD neg (.int x) (.lst l):=zE_ _
def Kv (o:Option D):Option (List D):=match o with | some (.str x)=>some (Vr x) | some (.lst ds)=>some ds | some (.tup ds)=>some ds | some (.dk kds)=>some (kds.map λ p=>kDt p.1) | _=>none
theorem Er (f:FE) (ρ:Rho):seqA f ρ=Kv (f ρ):=by
 unfold seqA seqE Kv;cases f ρ with
 | none=>rfl
 | some d=>cases d<;>rfl
theorem Es (l:List D):Kv (some (.lst l))=some l:=zE_ _
theorem Yt (l:List D):Kv (some (.tup l))=some l:=zE_ _
theorem Kg (l:List (Key×D)):Kv (some (.dk l))=some (l.map λ p=>kDt p.1):=zE_ _
def putO (i:Nat) (ρ:Rho) (x y v:Option D):Option Out:=v.bind λ v=>y.bind λ y=>x.bind λ x=>(Cq x y v).map λ z=>.nx (ρ.set i (.ow z))
theorem SJ (i:Nat) (fk fv:FE) (ρ:Rho):putF i fk fv ρ=putO i ρ (getW ρ[i]?) (fk ρ) (fv ρ):=zE_ _
theorem Nb (i:Nat) (ρ:Rho) (x y v:D):putO i ρ (some x) (some y) (some v)=(Cq x y v).map λ z=>.nx (ρ.set i (.ow z)):=zE_ _
def lL (i:Nat) (ρ:Rho) (x:Option D) (y:Option (List D)) (v:Option D):Option Out:=v.bind λ v=>y.bind λ y=>x.bind λ x=>(L_ x y v).map λ z=>.nx (ρ.set i (.ow z))
theorem dU (i:Nat) (fk:FA) (fv:FE) (ρ:Rho):Vp i fk fv ρ=lL i ρ (getW ρ[i]?) (fk ρ) (fv ρ):=zE_ _
theorem Yu (i:Nat) (ρ:Rho) (x:D) (y:List D) (v:D):lL i ρ (some x) (some y) (some v)=(L_ x y v).map λ z=>.nx (ρ.set i (.ow z)):=zE_ _
def frzO (ρ:Rho) (i:Nat) (o:Option Slot):Rho:=match o with | some (.ow d)=>ρ.set i (.fz d) | _=>ρ
theorem Qs (g:FS) (ρ:Rho):fzS [] g ρ=g ρ:=zE_ _
theorem Qt (i:Nat) (is:List Nat) (g:FS) (ρ:Rho):fzS (i::is) g ρ=fzS is g (frzO ρ i ρ[i]?):=zE_ _
theorem LQ (ρ:Rho) (i:Nat) (d:D):frzO ρ i (some (.ow d))=ρ.set i (.fz d):=zE_ _
theorem dW (ρ:Rho) (i:Nat) (d:D):frzO ρ i (some (.fz d))=ρ:=zE_ _
def itO (o:Option D):Option (List D):=match o with | some (.dk kds)=>some (kds.map λ p=>.tup [kDt p.1,p.2]) | _=>none
theorem Yv (f:FE) (ρ:Rho):LC f ρ=itO (f ρ):=zE_ _
theorem Vy (kds:List (Key×D)):itO (some (.dk kds))=some (kds.map λ p=>.tup [kDt p.1,p.2]):=zE_ _
theorem Ja (i j:Nat) (a b:D) (ρ:Rho):tupG 2 (BZ i (BZ j nilG)) (.tup [a,b]) ρ=some ((ρ.set i (.fz a)).set j (.fz b)):=zE_ _
theorem Oe (x:Str):kDt (.inr x)=.str x:=zE_ _
theorem lO (x:Int):kDt (.inl x)=.int x:=zE_ _
theorem Nf {κ:Type} [DecidableEq κ] {k:κ}:∀ {l:List (κ×D)},k∉l.map (·.1)->getK k l=none
 | [],_=>rfl
 | p::r,h=>by
  unfold getK;rw[z03,z08,not_or] at h;rw[if_neg (λ z=>h.1 z.symm)];exact Nf h.2
theorem Ul {κ:Type} [DecidableEq κ] {k:κ}{d:D}:∀ {l:List (κ×D)},(l.map (·.1)).Nodup->(k,d)∈l->getK k l=some d
 | [],_,h=>by cases h
 | p::r,nd,h=>by
  unfold getK;rw[z03,z0G] at nd
  rcases z08.mp h with q | q
  ·subst q;rw[if_pos rfl]
  ·rw[if_neg (λ z=>nd.1 (by rw[z];exact z05.mpr ⟨(k,d),q,rfl⟩))];exact Ul nd.2 q
theorem putL_new {κ:Type} [DecidableEq κ] {k:κ}{v:D}{l:List (κ×D)}(h:k∉l.map (·.1)):putL k v l=l++[(k,v)]:=by
 unfold putL;rw[Nf h];rfl
theorem LR (k:List (Key×D)) (x:Str) (v:D) (hl:k.length<=1000000):Cq (.dk k) (.str x) v=some (.dk (putL (.inr x) v k)):=by
 show (if k.length<sizeLine then some (D.dk (putL (.inr x) v k)) else none)=_;rw[if_pos (z1o hl (by decide))]
theorem oh (k:List (Key×D)) (x:Int) (v:D) (hl:k.length<=1000000):Cq (.dk k) (.int x) v=some (.dk (putL (.inl x) v k)):=by
 show (if k.length<sizeLine then some (D.dk (putL (.inl x) v k)) else none)=_;rw[if_pos (z1o hl (by decide))]
theorem ou (k:List (List Key×D)) (x y:Int) (v:D) (hl:k.length<=1000000):L_ (.dt k) [.int x,.int y] v=some (.dt (putL [.inl x,.inl y] v k)):=by
 show (if k.length<sizeLine/\2<=sizeLine then some (D.dt (putL [.inl x,.inl y] v k)) else none)=_;rw[if_pos ⟨z1o hl (by decide),by decide⟩]
theorem Um {g:FS}(h:g ρ=some (.nx ρ')) (hn:noOw ρ'=true):pureE g ρ ε=some (ρ',ε):=by
 unfold pureE;rw[h];show (if noOw ρ'=true then some (ρ',ε) else none)=_;rw[if_pos hn]
def lQ (r:Option (Rho×Ef)) (gs:FEs):Option (Rho×Ef):=r.bind λ r=>gs r.1 r.2
theorem IW (g gs:FEs) (ρ:Rho) (ε:Ef):HB g gs ρ ε=lQ (g ρ ε) gs:=zE_ _
theorem Fx (gs:FEs) (ρ:Rho) (ε:Ef):lQ (some (ρ,ε)) gs=gs ρ ε:=zE_ _
theorem o6 (ρ:Rho) (ε:Ef):nilE ρ ε=some (ρ,ε):=zE_ _
theorem dX {tg:FG}{b:FEs}(h:src ρ=some ds):forE src tg b ρ ε=Hm tg b ds ρ ε:=by
 unfold forE;rw[h];rfl
end PV
namespace PV
open PySem PySem.Spec L2
open PyProof.Rows hiding St
section
variable {a b c:Expr}{fa fb fc:FE}{p2 px:Pos}
theorem RepL.set (r:RepL G H xs ds) {v:V}{d:D}(q:Rep G H v d) (j:Nat):RepL G H (xs.set j v) (ds.set j d):=by
 refine⟨by rw[z13,z13];exact r.1,λ i x e h1 h2=>?_⟩
 by_cases h:j=i
 ·subst h;rw[List.getElem?_set] at h1 h2;simp only[if_true] at h1 h2;split at h1
  ·split at h2
   ·cases h1;cases h2;exact q
   ·cases h2
  ·cases h1
 ·rw[z0D h] at h1 h2;exact r.2 i x e h1 h2
end
section
variable {a b c:Expr}{fa fb fc:FE}{p2:Pos}{fs:FA}
theorem vr (i:Nat) {x:Str}(hN:X.N[i]?=some x:=by rfl) (hv:Vis X.env.scope x:=by first | exact Or.inl rfl | exact Or.inr (Or.inl rfl) | exact Or.inr (Or.inr rfl)) (hd:(x==("__debug__":Str))=false:=by decide) (hcd:(x==("__classdict__":Str))=false:=by decide):PF X G (.Name x pos) (vF i):=nj i (pv i hN hv hd hcd)
theorem vp (i:Nat) {x:Str}(hN:X.N[i]?=some x:=by rfl) (hv:Vis X.env.scope x:=by first | exact Or.inl rfl | exact Or.inr (Or.inl rfl) | exact Or.inr (Or.inr rfl)) (hd:(x==("__debug__":Str))=false:=by decide) (hcd:(x==("__classdict__":Str))=false:=by decide):PU X G (.Name x pos) (vF i):=PF.pu (vr i hN hv hd hcd)
theorem vq (i:Nat) {x:Str}(hN:X.N[i]?=some x:=by rfl) (hv:Vis X.env.scope x:=by first | exact Or.inl rfl | exact Or.inr (Or.inl rfl) | exact Or.inr (Or.inr rfl)) (hd:(x==("__debug__":Str))=false:=by decide) (hcd:(x==("__classdict__":Str))=false:=by decide):PU X G (.Name x pos) (vU i):=nu i (pv i hN hv hd hcd)
theorem pU {f:FE}(h:PF X G e f):PU X G e f:=PF.pu h
theorem iP {i j}:PU X G (.Constant (.int i) j pos) (kF (.int i)):=PF.pu Qi
theorem sP {x j}:PU X G (.Constant (.str x) j pos) (kF (.str x)):=PF.pu Ua
theorem iX {k:Nat}(hr:Room k X.A) (ha:PU X G a fa) (hb:PU X G b fb) (hG:G.K=X.K:=by rfl) (hs:Lh b:=by exact λ _ _=>rfl):PF X G (.Subscript a b pos) (bF ixE fa fb):=oU (GX hr) hG ha hb hs
theorem iD (ha:PU X G a fa) (hb:PU X G b fb) (hG:G.K=X.K:=by rfl) (hs:Lh b:=by exact λ _ _=>rfl):PF X G (.Subscript a b pos) (bF ixD fa fb):=ql hG ha hb hs
theorem bAdd (ha:PU X G a fa) (hb:PU X G b fb) (hG:G.K=X.K:=by rfl):PF X G (.BinOp a .Add b pos) (bF addD fa fb):=M8 iu (by rw[<-hG];exact iw) ha hb
theorem bSub (ha:PU X G a fa) (hb:PU X G b fb):PF X G (.BinOp a .Sub b pos) (bF subD fa fb):=M8 nG iY ha hb
theorem bMul (ha:PU X G a fa) (hb:PU X G b fb):PF X G (.BinOp a .Mult b pos) (bF mulD fa fb):=M8 iZ ig ha hb
theorem bDiv (ha:PU X G a fa) (hb:PU X G b fb):PF X G (.BinOp a .FloorDiv b pos) (bF DX fa fb):=M8 g_ cB ha hb
theorem bMod (ha:PU X G a fa) (hb:PU X G b fb):PF X G (.BinOp a .Mod b pos) (bF modD fa fb):=M8 nH ik ha hb
theorem cEq {k:Nat}(hr:Room k X.A) (ha:PU X G a fa) (hb:PU X G b fb) (hG:G.K=X.K:=by rfl):PF X G (.Compare a [.Eq] [b] pos) (bF (eqD false) fa fb):=cA (W0 hG hr.unitsW) (M_ false) ha hb (Hy _)
theorem tEq {k:Nat}(hr:Room k X.A) (ha:PU X G a fa) (hb:PU X G b fb) (hG:G.K=X.K:=by rfl):PFT X G (.Compare a [.Eq] [b] pos) (blF (bF (eqD false) fa fb)):=Em (W0 hG hr.unitsW) (M_ false) ha hb (Hy _)
theorem tNe {k:Nat}(hr:Room k X.A) (ha:PU X G a fa) (hb:PU X G b fb) (hG:G.K=X.K:=by rfl):PFT X G (.Compare a [.NotEq] [b] pos) (blF (bF (eqD true) fa fb)):=Em (W2 hG hr.unitsW) (M_ true) ha hb (Hy _)
theorem tEqF {k:Nat}(hr:Room k X.A) (ha:PU X G a fa) (hb:PU X G b fb) (hG:G.K=X.K:=by rfl):PFT X G (.Compare a [.Eq] [b] pos) (blF (bF (eqF false) fa fb)):=Em ((W0 hG hr.unitsW).or (jT hG hr.units)) (Yl false) ha hb (Hy _)
theorem tNeF {k:Nat}(hr:Room k X.A) (ha:PU X G a fa) (hb:PU X G b fb) (hG:G.K=X.K:=by rfl):PFT X G (.Compare a [.NotEq] [b] pos) (blF (bF (eqF true) fa fb)):=Em ((W2 hG hr.unitsW).or (jU hG hr.units)) (Yl true) ha hb (Hy _)
theorem cIn {k:Nat}(hr:Room k X.A) (ha:PU X G a fa) (hb:PU X G b fb) (hG:G.K=X.K:=by rfl) (hm:behindInMarks .In b=false:=by with_unfolding_all rfl):PF X G (.Compare a [.In] [b] pos) (bF (inF false) fa fb):=cA ((cD.or (W5 (GX hr))).or (dB hG hr.units)) (by rw[<-hG];exact Ye false) ha hb hm
theorem tIn {k:Nat}(hr:Room k X.A) (ha:PU X G a fa) (hb:PU X G b fb) (hG:G.K=X.K:=by rfl) (hm:behindInMarks .In b=false:=by with_unfolding_all rfl):PFT X G (.Compare a [.In] [b] pos) (blF (bF (inF false) fa fb)):=Em ((cD.or (W5 (GX hr))).or (dB hG hr.units)) (by rw[<-hG];exact Ye false) ha hb hm
theorem tLt (ha:PU X G a fa) (hb:PU X G b fb):PFT X G (.Compare a [.Lt] [b] pos) (blF (bF ltD fa fb)):=Em qR n6 ha hb (Hy _)
theorem tGt (ha:PU X G a fa) (hb:PU X G b fb):PFT X G (.Compare a [.Gt] [b] pos) (blF (bF gtD fa fb)):=Em qU n_ ha hb (Hy _)
theorem tGe (ha:PU X G a fa) (hb:PU X G b fb):PFT X G (.Compare a [.GtE] [b] pos) (blF (bF geD fa fb)):=Em qW oA ha hb (Hy _)
theorem tLe (ha:PU X G a fa) (hb:PU X G b fb):PFT X G (.Compare a [.LtE] [b] pos) (blF (bF leD fa fb)):=Em qT n8 ha hb (Hy _)
theorem sF (hN:X.N.Nodup) (i:Nat) {x:Str}{p:Pos}(ha:PF X G a fa) (hi:X.N[i]?=some x:=by rfl) (hx:Loc X.env.scope x:=by first | exact Or.inl rfl | exact Or.inr rfl) (hs:swapsWith a (some (.Name x p)) pos.line X.env=pure false:=by rfl)
  (hf:X.fn x=true∨X.env.scope.names.lookup x=some .local :=by first | exact .inl rfl | exact .inr rfl | assumption):PSD X G (.Assign [.Name x p] a pos) (setF i fa):=jB (λ _ h=>Wc hN hi hx h hs hf) ha
theorem sW (hN:X.N.Nodup) (i:Nat) {x:Str}{p:Pos}(ha:PN X G a fa) (hi:X.N[i]?=some x:=by rfl) (hx:Loc X.env.scope x:=by first | exact Or.inl rfl | exact Or.inr rfl) (hs:swapsWith a (some (.Name x p)) pos.line X.env=pure false:=by rfl)
  (hf:X.fn x=true∨X.env.scope.names.lookup x=some .local :=by first | exact .inl rfl | exact .inr rfl | assumption) (hi0:i≠0:=by decide):PSD X G (.Assign [.Name x p] a pos) (setW i fa):=cT (λ _ h=>Wc hN hi hx h hs hf) ha hi0
theorem gN (hN:X.N.Nodup) (i:Nat) {x:Str}(hi:X.N[i]?=some x:=by rfl) (hx:Loc X.env.scope x:=by first | exact Or.inl rfl | exact Or.inr rfl) (hf:X.fn x=true∨X.env.scope.names.lookup x=some .local :=by first | exact .inl rfl | exact .inr rfl | assumption):PG X (.Name x pos) (GR i):=O4 hN hi hx hf
theorem cO {t:Str}(hN:X.N=N) (hs:X.env.scope=sc) (h:YW N sc scope t=true:=by decide +kernel):M7 X scope t:=Z5 hN hs h
abbrev nT (N:List Str) (t:Str):List Str:=N++[t]
structure Dx (K:zFr) (mg:Str->Option Value) (x:Str) (st:Stmt) (ps:List Str) where
 f:Addr
 fd:FuncData
 F:FunD K x x st f fd
 B:Binds K fd ps []
 m:mg x=some (.ref f)
abbrev DOk (P:Program) (w:World) (base:Heap) {K:zFr}{mg:Str->Option Value}{x:Str}{st:Stmt}{ps:List Str}(d:Dx K mg x st ps) (k:Nat) (sp:Sp):Prop:=FnOk P w K mg base CX0 k d.f d.fd ps sp
theorem fX {k:Nat}{x:Str}{p:Pos}{d:Dx X.K X.mg x st ps}{g:List D->Option D}(F:FnOk X.prog X.w X.K X.mg X.base CX0 k d.f d.fd ps (spD G g)) (hr:Room k' X.A) (ha:PFA X G (a::es) fs) (hle:k<=k':=by omega) (hg:Gl X x:=by rfl) (hdb:(x==("__debug__":Str))=false:=by decide)
  (he:starEach (a::es) X.env=(false,eval a X.env)::starEach es X.env:=by rfl) (hpl:(backTo pos (starEach es X.env)).any (·.1)=false:=by rfl):PF X G (.Call (.Name x p) (a::es) [] pos) (An g fs):=qp F (hr.mono hle) hg d.m d.F.kp d.B ha hdb he hpl
end
section
variable {K:zFr}{x:Str}{dV kV:Value}
theorem fnX {base:Heap}{k:Nat}{b:FS}(d:Dx G.K mg x st ps) (S:FnScope N ps (Ab st))
  (hb:∀ (cdv:Value) (A:Around) (outer:List Env) (s:Shared) (H:Hp) (E:XK),Room k (A.deeper (envOfC x (Ab st) s.heap.objs.size d.f cdv))->PSDs (cxOf CX0 P w G.K mg base N x (Ab st) d.f cdv A outer s H E).nox G (Bb st) b) (hl:ps.length<=N.length:=by decide) :
  FnOk P w G.K mg base CX0 (k+1) d.f d.fd ps (spD G (runF N.length ps.length b)):=q8 d.F S hl hb
def dx (X:K.In h) (N:h.Ns mainGlobals mg) (a:PySem.W.nsIn K mainGlobals x=some (some (.ref f))) (l:K.lookup f=some ⟨oc,od,.func (PySem.W.fnOf x x (DW st) (Bb st) (Ab st) .none kV doc pm an cdv ct),osl⟩) (c:PySem.W.codeIn K cdv x=true) (k:PySem.W.keepIn K (.ref f)=true)
  (b:∀ (kV doc pm:Value) (an:Option Addr) (cdv ct:Value) (us:List Value),us.length=ps.length->bindArgs (PySem.W.fnOf x x (DW st) (Bb st) (Ab st) .none kV doc pm an cdv ct) ⟨us,[]⟩=pure (ps.zip us)):Dx K mg x st ps:=⟨f,_,jV l c k,(Qa l c k).binds b,PySem.W.mg_of X N a⟩
structure Ix (K:zFr) (C:Addr) (qual:Str) (st:Stmt) (ps:List Str) where
 f:Addr
 fd:FuncData
 F:Fun K "__init__" qual st f fd
 B:Binds K fd ps []
 mM:Mk K C f
def ix (X:K.In h) (m:PySem.W.makesIn K C=true) (kc:PySem.W.keepIn K (.ref C)=true) (a:PySem.W.findIn K (.ref C) "__init__"=some (some (.ref f))) (i:PySem.W.isFn K (.ref f)=true) (l:K.lookup f=some ⟨oc,od,.func (PySem.W.fnOf "__init__" qual (DW st) (Bb st) (Ab st) .none kV doc pm an cdv ct),osl⟩) (c:PySem.W.codeIn K cdv qual=true) (k:PySem.W.keepIn K (.ref f)=true)
  (b:∀ (kV doc pm:Value) (an:Option Addr) (cdv ct:Value) (us:List Value),us.length=ps.length->bindArgs (PySem.W.fnOf "__init__" qual (DW st) (Bb st) (Ab st) .none kV doc pm an cdv ct) ⟨us,[]⟩=pure (ps.zip us)):Ix K C qual st ps:=⟨f,_,Qa l c k,(Qa l c k).binds b,m,a,i,kc⟩
structure Sx (mg:Str->Option Value) (x:Str) (f:Tok->Value) where
 t:Tok
 m:mg x=some (f t)
structure Kx (G:Gx) (mg:Str->Option Value) (x:Str) (c:D) where
 a:Addr
 m:mg x=some (.ref a)
 r:Rep G (λ _=>none) (.ref a) c
def sx {t:Tok}{f:Tok->Value}(X:K.In h) (N:h.Ns mainGlobals mg) (a:PySem.W.nsIn K mainGlobals x=some (some (f t))):Sx mg x f:=⟨t,PySem.W.mg_of X N a⟩
def gx1 (K:zFr) (cn:Str) (C:Addr):Gx:={ K:=K,cl:=λ c=>if c=cn then some C else none }
theorem o7:(gx1 K cn C).cl cn=some C:=if_pos rfl
theorem cls (X:K.In h) (pg:PySem.W.plainGet K C Str.empty=true) (hd:PySem.W.hasDictIn K C=true) (po:PySem.W.plainOver K C=true) (sa:PySem.W.findIn K (.ref C) "__setattr__"=some (some (.builtin "object.__setattr__"))):Cls K C:=⟨pg,hd,po,sa⟩
theorem rtx {g:Addr}{its:Array Value}{xs:List Str}(X:K.In h) (l:K.lookup g=some ⟨.type "tuple",od,.seq its n,osl⟩) (hz:its.size<=sizeLine) (r:Vals (xs.map V.str) its.toList):Rep (gx1 K cn C) (λ _=>none) (.ref g) (.tup (xs.map .str)):=Z6 l hz r
def kx {cn:Str}{g:Addr}{n:Nat}{its:Array Value}{xs:List Str}(X:K.In h) (N:h.Ns mainGlobals mg) (a:PySem.W.nsIn K mainGlobals x=some (some (.ref g))) (l:K.lookup g=some ⟨.type "tuple",od,.seq its n,osl⟩) (hz:its.size<=sizeLine) (r:Vals (xs.map V.str) its.toList):Kx (gx1 K cn C) mg x (.tup (xs.map .str)):=⟨g,PySem.W.mg_of X N a,rtx X l hz r⟩
theorem XD (X:K.In h) (cl:Cls K C) (n:PySem.W.findIn K (.ref C) x=some none):∀ c C',(gx1 K cn C).cl c=some C'->Cls K C'/\DQ K C' x:=λ c C' h=>by
 unfold gx1 at h;simp only at h;split at h
 ·cases h;exact⟨cl,n⟩
 ·cases h
end
end PV
namespace PV
open PySem L2
def SM:D->Option D
 | .int i=>if 0<=i/\i<=1000000 then some (.lst (rngD i.toNat)) else none
 | _=>none
theorem Yw {α:Type}(f:α->Bool):∀ l:List α,blsD (l.map λ x=>.bl (f x))=some (l.map f)
 | []=>rfl
 | x::r=>by rw[z03,blsD,Yw f r];rfl
end PV
namespace PV
open PySem PySem.Spec L2
open PyProof.Rows hiding St
section
variable {a:Expr}{fa:FE}{fs:FA}
theorem aB:Do X (.type "range") (λ xs H Q=>∃ i:Int,xs=[.int i]/\∀ l,H l=none->Q (.ref l) (upd H l (.rng 0 i))):=by
 intro π s σ H xs us Q I r h;obtain⟨i,rfl,q⟩:=h;obtain⟨u,rfl,ru⟩:=r.one;obtain⟨t,rfl⟩:=ru;refine call_range_1 ?_;exact⟨.ref s.heap.objs.size,_,I.laid (λ b o e=>z0c _ e) (z01 _) (show BK X.prog X.w _ _ _ (.rng 0 i) from⟨_,_,_,z0i _ rfl⟩),rfl,q _ (I.hok.fresh (z01 _))⟩
theorem Yx:∀ {xs:List V}{us:List Value},us.length=xs.length->(∀ (j:Nat) x u,xs[j]?=some x->us[j]?=some u->RelV x u)->Vals xs us
 | [],us,hl,_=>by
  rw[List.eq_nil_of_length_eq_zero hl];exact .nil
 | x::r,[],hl,_=>by simp at hl
 | x::r,u::us,hl,h=>.cons (h 0 x u rfl rfl) (Yx (by simpa using hl) λ j y v a b=>h (j+1) y v (by simpa using a) (by simpa using b))
theorem Rg (hc:X.calm=true):Do X (.type "list") (λ xs H Q=>∃ (p:Addr) (n:Nat),xs=[.ref p]/\H p=some (.rng 0 n)/\n<=1000000/\∀ l,H l=none->Q (.ref l) (upd H l (.lst ((List.range n).map λ (k:Nat)=>V.int k)))):=by
 intro π s σ H xs us Q I r h;obtain⟨p,n,rfl,e,hn,q⟩:=h;obtain⟨u,rfl,ru⟩:=r.one;cases ru;obtain⟨t,u,v,hr⟩:=(show BK X.prog X.w H s.heap p (.rng 0 n) from I.hok p _ e);have rs:Builtin.Range.rangeSize 0 n 1=(n:Int):=by rw[rangeSize_one];split<;>omega
 refine call_list_range (I.ok.hd hc) hr (small_one (by decide) (by decide) (by omega) (by omega)) rs (by omega) λ h' tk acc c' kp hnew hi=>?_;have va:Vals ((List.range n).map λ (k:Nat)=>V.int k) acc.toList:=by
  refine Yx (by simp[hi.1]) λ j x u hx hu=>?_;obtain⟨tk,rfl⟩:=hi.2 j u (by simpa using hu);have hj:j<n:=by
   have:=(z0m.mp hu).1;rw[z1b,hi.1] at this;exact this
  rw[z04,List.getElem?_range hj] at hx;cases hx;exact⟨tk,by simp⟩
 exact⟨.ref s.heap.objs.size,_,I.laid (t':=tk) kp (z01 _) (show BK X.prog X.w _ h' _ (.lst _) from⟨by rw[z00,List.length_range];exact z0t hn (by decide),acc.toList,c',va,by simpa using hnew⟩),rfl,q _ (I.hok.fresh (z01 _))⟩
theorem dY:bootBuiltins "range"=some (.type "range"):=by decide +kernel
theorem Yy {p q pos2:Pos}(hg:Gl X "list") (hm:X.mg "list"=none) (hg2:Gl X "range") (hm2:X.mg "range"=none) (ha:PU X G a fa) (hc:X.calm=true:=by rfl) (he:starEach [a] X.env=[(false,eval a X.env)]:=by rfl)
  (he2:starEach [.Call (.Name "range" q) [a] [] pos2] X.env=[(false,eval (.Call (.Name "range" q) [a] [] pos2) X.env)]:=by rfl) :
  PN X G (.Call (.Name "list" p) [.Call (.Name "range" q) [a] [] pos2] [] pos) (uF SM fa):=λ A=>CV (Kc (Rg hc) hg hm Hl (Cu (Kc aB hg2 hm2 dY (Cu (@ha A) Fi he) (by decide) (by decide) he rfl) Fi he2) (by decide) (by decide) he2 rfl) λ σ H Q ⟨ρ,d,o,e,k⟩=>by
 obtain⟨dx,e1,e2⟩:=JW e;refine⟨ρ,dx,o,e1,λ v H1 s1 r1=>?_⟩;unfold SM at e2;split at e2
 ·rename_i i;split at e2
  ·rename_i hi;cases e2;rw[r1.int];refine⟨i,rfl,λ l hl=>⟨l,i.toNat,rfl,by rw[Ag,Int.toNat_of_nonneg hi.1],by omega,λ m hm2=>?_⟩⟩;have o1:=(o.mono s1);have n1:l≠m:=λ z=>by rw[<-z,Ag] at hm2;cases hm2
   have hm1:H1 m=none:=by rw[Al (Ne.symm n1)] at hm2;exact hm2
   refine k m _ (s1.trans ((Aq hl _).trans (Aq hm2 _))) (s1.free hm1) ⟨(List.range i.toNat).map λ (k:Nat)=>V.int k,Ag,by simp[rngD],λ j x d h1 h2=>?_⟩;unfold rngD at h2;rw[z04] at h1 h2;cases q:(List.range i.toNat)[j]? with
   | none=>rw[q] at h1;cases h1
   | some z=>rw[q] at h1 h2;cases h1;cases h2;exact .int z
  ·cases e2
 ·cases e2
theorem jW {p q pos2:Pos}(hg:Gl X "list") (hm:X.mg "list"=none) (hg2:Gl X "range") (hm2:X.mg "range"=none) (ha:PU X G a fa) (hc:X.calm=true:=by rfl) (he:starEach [a] X.env=[(false,eval a X.env)]:=by rfl)
  (he2:starEach [.Call (.Name "range" q) [a] [] pos2] X.env=[(false,eval (.Call (.Name "range" q) [a] [] pos2) X.env)]:=by rfl) :
  PF X G (.Call (.Name "list" p) [.Call (.Name "range" q) [a] [] pos2] [] pos) (uF SM fa):=PN.pf (Yy hg hm hg2 hm2 ha hc he he2)
end
end PV
namespace PV
open PySem L2
end PV
namespace PV
open PySem PySem.Spec L2
open PyProof.Rows hiding St
section
variable {a b c:Expr}{fa fb fc:FE}{p2:Pos}
end
end PV
namespace PV
open PySem PySem.Spec L2 EX
open PyProof.Rows hiding St
structure Exc (G:Gx) (He H:Hp) (e:Addr) (tb:Option Addr) (c:Str) (gs:List (Str×D)):Prop where
 ex:∃ C od fs,G.xcl c=some C/\H e=some (excO e C od tb)/\XdA H od fs/\FsV fs gs/\∀ dx,od=some dx->He dx=none
 same:Same He H
 new:He e=none
 tbk:∀ T,tb=some T->H T=some (tbO T .none)/\He T=none
theorem Exc.base {e:Addr}{gs:List (Str×D)}(x:Exc G Hf H e tb c gs) (s:Same He Hf):Exc G He H e tb c gs:=
 ⟨let ⟨C,dx,fs,q1,q2,q3,q4,q5⟩:=x.ex;⟨C,dx,fs,q1,q2,q3,q4,λ d h=>s.free (q5 d h)⟩,s.trans x.same,s.free x.new,λ T h=>⟨(x.tbk T h).1,s.free (x.tbk T h).2⟩⟩
section
variable {e:Addr}{gs:List (Str×D)}
end
def Rz (X:Cx) (G:Gx) (A0:List Addr) (He:Hp) (c:Str) (gs:List (Str×D)) (ρ:Rho):Prop:=∀ π σ H1 H s e tb,Inv X π σ H s->OkS G A0 He σ H1 ρ->Exc G H1 H e tb c gs->X.xe (.ref e) s
def excOf:D->Option (Str×List (Str×D))
 | .exc c gs=>some (c,gs)
 | _=>none
def RzO (X:Cx) (G:Gx) (A0:List Addr) (He:Hp) (d:D) (ρ:Rho):Prop:=∀ c gs,excOf d=some (c,gs)->Rz X G A0 He c gs ρ
def OutX (X:Cx) (G:Gx) (A0:List Addr) (He:Hp):Out->Prop
 | .rt d ρ=>RzO X G A0 He d ρ
 | _=>True
def tSZ (X:Cx) (G:Gx) (A0:List Addr) (He:Hp) (g:FS):TS:=λ D σ H=>∃ ρ o,OkS G A0 He σ H ρ/\g ρ=some o/\Ob G A0 He D o/\OutX X G A0 He o
def PSZ (X:Cx) (G:Gx) (st:Stmt) (g:FS):Prop:=∀ ⦃A0⦄ He,PS X st (tSZ X G A0 He g)
def tFZ (X:Cx) (G:Gx) (A0:List Addr) (He:Hp) (f:FE):TE:=λ σ H Q=>∃ ρ d A,OkW G A0 He A σ H ρ/\f ρ=some d/\(∀ v H',Same H H'->Rep G (hid A H') v d->Q v H')/\RzO X G A0 He d ρ
def PFZ (X:Cx) (G:Gx) (e:Expr) (f:FE):Prop:=∀ ⦃A0⦄ He,PE X e (tFZ X G A0 He f)
section
variable {a b c:Expr}{fa fb fc:FE}{p2:Pos}{rest:List Stmt}{g gs gb:FS}
theorem PSD.x (h:PSD X G st g):PSZ X G st g:=λ A0 He π s σ H D I ⟨ρ,o,ok,e,k,_⟩=>@h A0 He π s σ H D I ⟨ρ,o,ok,e,k⟩
theorem PF.x (h:PF X G a fa):PFZ X G a fa:=λ A0 He π s σ H Q I ⟨ρ,d,A,w,e,k,_⟩=>@h A π s σ H Q I ⟨ρ,d,w.ok,e,k⟩
end
section
variable {k:Nat}{sp:Sp}{x:Str}{p:Pos}{o:Expr}{ta:TE}{t:TA}
end
section
variable {a ob:Expr}{fs:FA}{fo:FE}{p:Pos}
def Jp (c m:Str):D->Bool
 | .ob c' gs=>c'==c&&(gs.lookup m).isNone
 | _=>false
def MJ (c m:Str) (g:List D->Option D) (fo:FE) (fs:FA):FE:=λ ρ=>(fo ρ).bind λ o=>if Jp c m o=true then (fs ρ).bind λ ds=>g (o::ds) else none
theorem SN {fs:List (Str×V)}{gs:List (Str×D)}(h:fs.map (·.1)=gs.map (·.1)) (n:gs.lookup m=none):fs.lookup m=none:=by
 induction fs generalizing gs with
 | nil=>rfl
 | cons p r ih=>
  cases gs with
  | nil=>cases h
  | cons q t=>
   obtain⟨a,b⟩:=p;obtain⟨a',b'⟩:=q;simp only[z03,List.cons.injEq] at h;obtain⟨rfl,h2⟩:=h;simp only[List.lookup] at n ⊢;split at n
   ·cases n
   ·exact ih h2 n
end
end PV
namespace EX
open PySem PySem.W PyProof.Rows PySem.Calls
section
variable {A:Around}{g:Array GenState}{d:Drawn}{t:Nat}{os:OsState}{R:Result->Shared->Prop}
variable {nm q:Str}{N:Addr}{bs bm bmB:List Value}{hdct:Bool}{sn:List Str}{sub:List Value}{ab:Bool}{col:Option Bool}{dd:Option Addr}{k0 k1 k2 k3 k5:Option Value}{B newId initId:String}
abbrev XF (C a:Addr):Obj:={ cls:=.ref C,data:=.fields #[.ref a,.none,.none,.none,.bool false,.none] }
abbrev Qu (rest:List Value):Obj:={ cls:=.type "tuple",data:=.seq rest.toArray }
end
end EX
namespace EX
open PySem PySem.W PySem.Spec PyProof.Rows PySem.Calls
section
variable {A:Around}{K:Frag}{x:Addr}{ox:Obj}{od:Option Obj}{name:Str}{v:Value}
end
end EX
namespace EX
open PySem PySem.Spec L2
open PyProof.Rows hiding St
abbrev bmV:List Value:=[.type "ValueError",.type "Exception",.type "BaseException",.type "object"]
def excX (K:zFr) (C:Addr):Bool:=match K.lookup C with
 | some ⟨.type "type",_,.cls cd,sl⟩=>(match cd.mro,sl.toList with
  | .ref C'::bm,[_,_,_,_,some (.builtin n),_]=>C'==C&&n=="ValueError.__new__"&&!cd.hasDel&&PySem.W.tailIn K bmV bm
  | _,_=>false)
 | _=>false
structure XC (K:zFr) (C R:Addr):Prop where
 obj:excX K C=true
 sa:PySem.W.findIn K (.ref C) "__setattr__"=some (some (.builtin "object.__setattr__"))
 ga:PySem.W.findIn K (.ref C) "__getattribute__"=some (some (.builtin "BaseException.__getattribute__"))
 gt:PySem.W.findIn K (.ref C) "__getattr__"=some none
 cd:(PySem.W.clsIn K C).any (λ cd=>cd.mro==[.ref C,.ref R,.type "ValueError",.type "Exception",.type "BaseException",.type "object"]&&cd.hasDict)=true
theorem XC.cls {K:zFr}{R:Addr}(x:XC K C R):∃ cd,PySem.W.clsIn K C=some cd/\cd.mro=[.ref C,.ref R,.type "ValueError",.type "Exception",.type "BaseException",.type "object"]/\cd.hasDict=true:=by
 obtain⟨cd,h1,h2⟩:=PySem.W.any_some x.cd;simp only[z0C,z0J] at h2;exact⟨cd,h1,h2.1,h2.2⟩
section
variable {e R dx:Addr}{A:Around}{f:Str}
end
section
variable {a b:Expr}{t:TA}{p:Pos}{x:Str}{R:Addr}
def PP (X:Cx) (c:St->Prop) (e:Expr):Prop:=∀ (π:zP) (s:Shared) (σ:St) (H:Hp),Inv X π σ H s->c σ ->
 wpAny (model X.prog X.w) X.A (eval e X.env) (λ v s'=>∃ y t,v=.str y t/\y.length<=2000000/\Inv X π σ H s') X.xe s
end
section
variable {o value:Expr}{ta tv:TE}{f:Str}
end
section
variable {R fi:Addr}{k:Nat}{f:Str}{c:V->Prop}
theorem Inv.exc (I:Inv X π σ H s):Inv X π σ (upd H (s.heap.objs.size+1) (excO (s.heap.objs.size+1) C none none)) { s with heap:=(s.heap.push (Qu us)).push (XF C s.heap.objs.size) }:=by
 have I1:=I.kept (h':=s.heap.push (Qu us)) (t':=s.toks) λ b v z=>z0c _ z;have hs:(s.heap.push (Qu us)).objs.size=s.heap.objs.size+1:=by simp[Heap.size_push]
 refine I1.laid (a:=s.heap.objs.size+1) (h':=(s.heap.push (Qu us)).push (XF C s.heap.objs.size)) (t':=s.toks) (λ b v z=>z0c _ z) (Nat.le_of_eq hs) ?_;have g:=z0i (s.heap.push (Qu us)) (o:=XF C s.heap.objs.size) rfl;rw[hs] at g;exact ExcP.ok ⟨_,_,g,rfl,rfl,rfl,rfl,rfl⟩
end
section
variable {A:Around}{K:zFr}
end
end EX
namespace PV
open PySem PySem.Spec L2 EX
open PyProof.Rows hiding St
section
variable {a:Expr}{fa:FE}{np:Pos}{R fi:Addr}{k:Nat}{f cx:Str}{c:V->Prop}{ok:D->Bool}
end
end PV
namespace EX
open PySem PySem.Spec L2
open PyProof.Rows hiding St
abbrev Cx.mk2 (X:Cx) (e:Addr):Cx:={ X with A:=X.A.mark (some (.ref e)),calm:=false,xe:=λ _ _=>False }
section
variable {e R:Addr}{K:zFr}
abbrev Cx.tr (X:Cx) (E:zQ) (pn:zP):Cx:={ X with xe:=E,pn:=pn }
end
end EX
namespace PV
open PySem PySem.Spec L2 EX
open PyProof.Rows hiding St
section
end
end PV
namespace EX
open PySem PySem.W PySem.Spec PyProof.Rows PySem.Calls
section
variable {A:Around}{K:Frag}{x:Addr}{ox:Obj}{od:Option Obj}
end
end EX
namespace PV
open PySem PySem.Spec L2 EX
open PyProof.Rows hiding St
section
variable {a sp:Expr}{fa:FE}{p:Pos}{cs ns:List Str}{cv:List Value}{R:Addr}{Cs:List Addr}
end
end PV
namespace PV
open PySem PySem.Spec
section
variable {A:Around}{T:String}{r d:Addr}{P:Nat->Value->Prop}{OK:Heap->Prop}
theorem Vz {R:List Value->Shared->Prop}(K:PySem.W.KdlSrc prog w T r d n P OK) (hh:A.handled=none) (hok:OK s.heap) (hn:n<=sizeLine)
  (h:∀ (h':Heap) (tk:Nat) (acc:Array Value),(∀ b o,s.heap.get? b=some o->h'.get? b=some o)->s.heap.objs.size<=h'.objs.size->ItemsOf P acc n->R acc.toList { s with heap:=h',toks:=tk }) :
  wpAny (model prog w) A (collect (.ref r)) R E s:=by
 obtain⟨hr,hd⟩:=K.there _ hok;have gS:(s.heap.push { cls:=.type "list",data:=.seq ([]:List Value).toArray }).get? s.heap.objs.size=some { cls:=.type "list",data:=.seq #[] }:=z0i _ rfl;unfold collect;refine z02 (wpAny_runValue (codeAny_builtin PyProof.Rows.entry_proto_collect' ?_));rw[Around.under_plainId PySem.F.plain_proto_collect _];show wpAny _ A.in1 (newList [] >>= λ l=>again (.builtin "list.__iadd__" ⟨[l,.ref r],[]⟩)) _ _ s;refine z02 (z1j (z09 ⟨plainId_quiet PySem.F.plain_list_iadd _,codeAny_builtin PyProof.Rows.entry_list_iadd' ?_⟩));rw[Around.under_plainId PySem.F.plain_list_iadd _];show wpAny _ A.in1 (Builtin.List.listExtendWith (.ref s.heap.objs.size) (.ref r) (.ref s.heap.objs.size)) _ _ _;have key:=PySem.W.kdl_extend (A:=A) (s:={ s with heap:=s.heap.push { cls:=.type "list",data:=.seq ([]:List Value).toArray } }) K
  (R:=λ q s'=>∃ (h':Heap) (tk:Nat) (acc':Array Value) (c':Nat),q=.ok (.ret (.ref s.heap.objs.size))/\s'={ s with heap:=h',toks:=tk }/\(∀ b o,s.heap.get? b=some o->h'.get? b=some o)/\h'.get? s.heap.objs.size=some { cls:=.type "list",dict:=none,data:=.seq acc' c',slots:=#[] }/\ItemsOf P acc' n)
  hh (K.keep _ _ hok λ b _ o e=>z0c _ e) s.heap.objs.size (Nat.ne_of_gt hr) (Nat.ne_of_gt hd) (.ref s.heap.objs.size) 0 gS
  (λ h' tk acc' c' hk hS' hi=>⟨h',tk,acc',c',rfl,rfl,λ b o e=>hk b o (z0l (z07 e)) (z0c _ e),hS',hi⟩) hn
 refine z0R key (λ fin s' x=>?_) λ e s' x=>?_
 ·cases fin with
  | done f=>
   obtain⟨h',tk,acc',c',e,rfl,hk,hS',hi⟩:=x;cases e;show wpAny _ A (load s.heap.objs.size >>= _) _ _ _;exact z02 (wpAny_load hS' (z09 (h h' tk acc' hk (Nat.le_of_lt (z07 hS')) hi)))
  | again c=>
   refine⟨x.1,codeAny_mono x.2 λ r2 s2 y=>?_⟩;obtain⟨h',tk,acc',c',e,rfl,hk,hS',hi⟩:=y;cases e;show wpAny _ A (load s.heap.objs.size >>= _) _ _ _;exact z02 (wpAny_load hS' (z09 (h h' tk acc' hk (Nat.le_of_lt (z07 hS')) hi)))
 ·obtain⟨h',tk,acc',c',e,_⟩:=x;cases e
end
section
variable {A:Around}
theorem aC {v:Value}{Q:zQ}(nd:ks.Nodup) (h60:ks.length<=60)
  (hc:∀ (R:List Value->Shared->Prop) (E':zQ),(∀ (vs:List Value) (h':Heap) (tk:Nat),PyProof.Rows.StrsAre vs ks->s.heap.objs.size<=h'.objs.size->(∀ b o,s.heap.get? b=some o->h'.get? b=some o)->R vs { s with heap:=h',toks:=tk })->wpAny (model prog w) A.in1 (collect v) R E' s)
  (k:∀ (its:List Value) (e:Nat) (l:Addr) (h':Heap) (tk:Nat),PyProof.Rows.StrsAre its (Bo ks)->h'.get? l=some (PyProof.Rows.seqObj "list" its.toArray e)->s.heap.objs.size<=l->(∀ b o,s.heap.get? b=some o->h'.get? b=some o)->Q (.ref l) { s with heap:=h',toks:=tk }) :
  wpAny (model prog w) A (call (.builtin "sorted") [v]) Q E s:=by
 refine Calls.call_function_entry PyProof.Rows.kind_sorted PyProof.Rows.plain_sorted PyProof.Rows.entry_sorted (PyProof.Rows.args_sorted1 _) ?_;unfold Builtin.«sorted»;refine z02 (m:=checkCount "sorted" 1 1 _) (z09 (z02 (hc _ _ λ vs h1 tk hS le kp=>?_)));have hlen:vs.length<=60:=by rw[hS.length];exact h60
 refine z02 (wpAny_newList ?_ (z0t hlen (by decide)));have gl:(h1.push { cls:=.type "list",data:=.seq vs.toArray }).get? h1.objs.size=some (PyProof.Rows.seqObj "list" vs.toArray 0):=z0i _ rfl;refine z02 (wpAny_holding (wpAny_call_entry PyProof.Rows.slot_list_sort ⟨_,gl,rfl⟩ PyProof.Rows.entry_list_sort (PyProof.Rows.list_sort_treeK PyProof.Rows.strKind_oneLt gl hS.keysOf (λ a b r e=>PyProof.Rows.keyKind_strs (by rw[<-e];exact hS)) (by omega) λ st a1 a2=>⟨_,rfl,?_⟩) (PyProof.Rows.args_list_sort _)));obtain⟨ss,o1,o2,o3⟩:=PyProof.Rows.sorted_out_str hS a1 a2;have e:ss=Bo ks:=Ww (Ug o3 (o2.nodup_iff.mpr nd)) (J1 ks) λ y=>by rw[Dl,o2.mem_iff]
 subst e;obtain⟨c,hc⟩:∃ c,(PyProof.Rows.sortedHeap (h1.push { cls:=.type "list",data:=.seq vs.toArray }) h1.objs.size vs ((PyProof.Rows.arrOf st).map (·.2))).get? h1.objs.size=some (PyProof.Rows.seqObj "list" ((PyProof.Rows.arrOf st).map (·.2)).toList.toArray c):=by
  obtain⟨c,hc⟩:=PyProof.Rows.sortedHeap_at (out:=(PyProof.Rows.arrOf st).map (·.2)) gl;exact⟨c,by rw[hc,Array.toArray_toList]⟩
 refine z09 ⟨_,rfl,k _ c _ _ tk o1 hc le λ b o g=>?_⟩;have lb:=z07 (kp b o g);rw[PyProof.Rows.sortedHeap_old (z0l lb) (by rw[Heap.size_push];exact z1p lb)];exact z0c _ (kp b o g)
end
open L2
section
variable {a:Expr}{fa:FE}{p:Pos}
theorem MK:∀ {zs:List Str}{us:List Value},Vals (zs.map V.str) us->PyProof.Rows.StrsAre us zs
 | [],_,.nil=>.nil
 | _::_,_,.cons r t=>by obtain⟨u,rfl⟩:=r;exact .cons _ _ (MK t)
theorem Fy (hc:X.calm=true):Do X (.builtin "sorted") (λ xs H Q=>∃ p kvs zs,xs=[.ref p]/\Rd H p (.dK kvs)/\kvs.map (λ q=>kV q.1)=zs.map V.str/\zs.Nodup/\zs.length<=60/\∀ l,H l=none->Q (.ref l) (upd H l (.lst ((Bo zs).map V.str)))):=by
 intro π s σ H xs us Q I r h;obtain⟨p,kvs,zs,rfl,e,ez,nd,hz,k⟩:=h;obtain⟨u,rfl,ru⟩:=r.one;cases ru;obtain⟨z,hd,vs,rel,dd⟩:=Im I.hok e;obtain⟨ep,dd⟩:=dd.dictAt;have hl:kvs.length=vs.length:=rel.length;refine aC (ks:=zs) nd hz (λ R E' hR=>Vz (PySem.W.kdl_dict (knd:=Aw X.prog X.w) (kvs:=vs) (ep:=ep) hd) (I.ok.hd hc) dd (by omega) λ h' tk acc kp le hi=>hR _ h' tk ?_ le kp) λ its e2 l h' tk hS g le kp=>?_
 ·have va:Vals (kvs.map λ q=>kV q.1) acc.toList:=by
   refine Uh (P:=X.prog) (w:=X.w) (by simp[hi.1,hl]) λ j u hu=>?_;obtain⟨k,x,h1,h2⟩:=hi.2 j u (by simpa using hu);have hj:j<kvs.length:=by rw[hl];exact (z0m.mp h1).1
   refine⟨kvs[j],by simp[hj],?_⟩;rw[(Gr rel (by simp[hj]) h1).1];exact h2
  rw[ez] at va;exact MK va
 ·have hv:=R6 hS;refine⟨.ref l,_,I.laid (a:=l) (o:=.lst ((Bo zs).map V.str)) (t':=tk) kp le ⟨?_,its,e2,hv,g⟩,rfl,k l (I.hok.fresh le)⟩;rw[z00];have:=sub_len (Ve (J1 zs)) (m:=zs) λ y m=>(Dl y zs).mp m;exact z0t this (z0t hz (by decide))
def sdkL (kds:List (Key×D)):Option D:=(Ks (kds.map λ p=>kDt p.1)).bind λ zs=>if zs.Nodup/\zs.length<=60 then some (.lst ((Bo zs).map .str)) else none
def sdkD:D->Option D
 | .dk kds=>sdkL kds
 | _=>none
theorem P_:SndC G (λ xs H Q=>∃ p kvs zs,xs=[.ref p]/\Rd H p (.dK kvs)/\kvs.map (λ q=>kV q.1)=zs.map V.str/\zs.Nodup/\zs.length<=60/\∀ l,H l=none->Q (.ref l) (upd H l (.lst ((Bo zs).map V.str)))) sdkD:=by
 intro A H x dx d Q lv r e k;cases dx with
 | dk kds=>
  have e:sdkL kds=some d:=e;obtain⟨p,kvs,rfl,h1,h2,h3⟩:=r.dk;unfold sdkL at e;cases ez:Ks (kds.map λ p=>kDt p.1) with
  | none=>rw[ez] at e;cases e
  | some zs=>
   rw[ez] at e;have e':(if zs.Nodup/\zs.length<=60 then some (D.lst ((Bo zs).map .str)) else none)=some d:=e;split at e'
   ·rename_i hz;cases e';refine⟨p,kvs,zs,rfl,h1,cW (G:=G) (H:=hid A H) (cj h2) ez,hz.1,hz.2,λ l hl=>k _ _ (Aq hl _) (Bs lv hl ⟨by simp,λ i v d h1 h2=>?_⟩)⟩;rw[z04] at h1 h2;cases q:(Bo zs)[i]? with
    | none=>rw[q] at h1;cases h1
    | some z=>rw[q] at h1 h2;cases h1;cases h2;exact .str z
   ·cases e'
 | _=>cases e
end
end PV
namespace PV
open PySem PySem.Spec L2 EX
open PyProof.Rows hiding St
structure Mx (K:zFr) (C:Addr) (m qual:Str) (st:Stmt) (ps:List Str) where
 f:Addr
 fd:FuncData
 F:Fun K m qual st f fd
 B:Binds K fd ps []
 me:Meth K C m f
structure Rx (K:zFr) (mg:Str->Option Value) (rn:Str) where
 R:Addr
 m:mg rn=some (.ref R)
 x:excX K R=true
 h1:PySem.W.specialIn K (.ref R) "__getattribute__"=some (some (.builtin "type.__getattribute__"))
 h2:PySem.W.readsIn K R (.type "type")=true
 h3:PySem.W.findCls K (.ref R) (.type "type") "__init__"=some (.val (.builtin "ValueError.__init__"))
structure Xx (G:Gx) (mg:Str->Option Value) (R:Addr) (cn f qual:Str) (st:Stmt) (ps:List Str) where
 C:Addr
 fi:Addr
 fd:FuncData
 g:G.xcl cn=some C
 xc:XC G.K C R
 hi:PySem.W.findIn G.K (.ref C) "__init__"=some (some (.ref fi))
 hf:PySem.W.isFn G.K (.ref fi)=true
 kp:PySem.W.keepIn G.K (.ref C)=true
 na:DQ G.K C f
 m:mg cn=some (.ref C)
 F:Fun G.K "__init__" qual st fi fd
 B:Binds G.K fd ps []
section
variable {a ob:Expr}{fs:FA}{fa fo:FE}{p np:Pos}
theorem mO {k:Nat}{d:Mx X.K C m qual st ps}{g:List D->Option D}{pl:Sem Bool}(hc:G.cl c=some C) (cl:Cls X.K C) (F:FnOk X.prog X.w X.K X.mg X.base CX0 k d.f d.fd ps (spD G g)) (hr:Room k' X.A) (ho:PF X G ob fo) (hle:k<=k':=by omega)
  (ht:eval (.Call (.Attribute ob m apos) [] [] pos) X.env=(do
   let ov <-eval ob X.env
   standAt apos.atName
   let (f,first) <-holding [ov] (getMethod ov m pl)
   callWith pos f first (backTo pos (starEach [] X.env)) (backToKw pos (keywordEach [] X.env))):=by rfl) :
  PF X G (.Call (.Attribute ob m apos) [] [] pos) (MJ c m g fo nilA):=λ A=>CV (bC (@ho A) cl d.me F (hr.mono hle) d.B .nil Ry ht) λ σ H Q ⟨ρ,dd,o,e,k⟩=>by
 unfold MJ at e;cases e0:fo ρ with
 | none=>simp[e0] at e
 | some oo=>
  rw[e0] at e;have e':(if Jp c m oo=true then (nilA ρ).bind λ ds=>g (oo::ds) else none)=some dd:=e;split at e'
  ·rename_i hob;have e2:g [oo]=some dd:=e';refine⟨ρ,oo,o,e0,λ v H1 s1 r1=>?_⟩;cases oo with
   | ob c' gs=>
    simp only[Jp,z0C,z0J,Option.isNone_iff_eq_none] at hob;obtain⟨rfl,hn⟩:=hob;cases r1 with
    | ob hC h1 l1 r2=>
     rw[hc] at hC;cases hC;exact⟨_,_,_,rfl,Am _ _ h1,SN l1 hn,A,[.ob c' gs],dd,(o.mono s1).live,.cons (.ob hc h1 l1 r2) .nil,e2,λ v H3 s3 r4=>k v H3 (s1.trans s3) r4⟩
   | _=>simp[Jp] at hob
  ·cases e'
end
section
variable {x:Str}{base:Heap}{k:Nat}{b:FS}
end
section
variable {K:zFr}{x:Str}{R:Addr}{dV kV:Value}{l:List (Str×Addr)}
def mx (X:K.In h) (a:PySem.W.findIn K (.ref C) m=some (some (.ref f))) (i:PySem.W.isFn K (.ref f)=true) (lk:K.lookup f=some ⟨oc,od,.func (PySem.W.fnOf m qual (DW st) (Bb st) (Ab st) .none kV doc pm an cdv ct),osl⟩) (c:PySem.W.codeIn K cdv qual=true) (k:PySem.W.keepIn K (.ref f)=true)
  (b:∀ (kV doc pm:Value) (an:Option Addr) (cdv ct:Value) (us:List Value),us.length=ps.length->bindArgs (PySem.W.fnOf m qual (DW st) (Bb st) (Ab st) .none kV doc pm an cdv ct) ⟨us,[]⟩=pure (ps.zip us)):Mx K C m qual st ps:=⟨f,_,Qa lk c k,(Qa lk c k).binds b,a,i,k⟩
def rx (X:K.In h) (N:h.Ns mainGlobals mg) (a:PySem.W.nsIn K mainGlobals x=some (some (.ref R))) (e:excX K R=true) (h1:PySem.W.specialIn K (.ref R) "__getattribute__"=some (some (.builtin "type.__getattribute__"))) (h2:PySem.W.readsIn K R (.type "type")=true)
  (h3:PySem.W.findCls K (.ref R) (.type "type") "__init__"=some (.val (.builtin "ValueError.__init__"))):Rx K mg x:=⟨R,PySem.W.mg_of X N a,e,h1,h2,h3⟩
end
end PV
namespace PV
open PySem PySem.Spec L2
open PyProof.Rows hiding St
def q9:R2:=λ x y H Q=>∃ a kvs k b,y=.ref a/\Rd H a (.dT kvs)/\x=.ref b/\H b=some (.tup (k.map kV))/\Q (.bl (valV kvs k).isSome) H
def inTO (ds:Option (List D)) (y:Option D):Option D:=ds.bind λ ds=>y.bind λ y=>match y with
 | .dt kds=>if ds.length<=sizeLine then (J5 ds).map λ k=>.bl (getK k kds).isSome else none
 | _=>none
def inTF (fs:FA) (fb:FE):FE:=λ ρ=>inTO (fs ρ) (fb ρ)
section
variable {b:Expr}{fb:FE}{p1:Pos}{fs:FA}
theorem jX (hu:X.A.units+1<cLine):OpR X (compareOp .In) q9:=by
 intro π s σ H x y v u Q I rx ry h;obtain⟨a,kvs,k,b,rfl,e,rfl,eb,q⟩:=h;cases ry;exact d_in hu I (.inr ⟨kvs,k,b,e,rfl,eb,rfl⟩) rx λ s' I'=>⟨.bl _,H,I',rfl,q⟩
theorem dZ {x1} {k:Nat}(hr:Room k X.A) (ha:PFA X G es fs) (hb:PU X G b fb) (hm:behindInMarks .In b=false:=by with_unfolding_all rfl):PF X G (.Compare (.Tuple es x1 p1) [.In] [b] pos) (inTF fs fb):=λ A=>CV (Xk (jX (GX hr)) (Wq (@ha A)) (@hb A) hm) λ σ H Q ⟨ρ,d,o,e,k⟩=>by
 unfold inTF inTO at e;cases e1:fs ρ with
 | none=>simp[e1] at e
 | some ds=>
  cases e2:fb ρ with
  | none=>simp[e1,e2] at e
  | some y=>
   rw[e1,e2] at e;cases y with
   | dt kds=>
    have e':(if ds.length<=sizeLine then (J5 ds).map λ k=>D.bl (getK k kds).isSome else none)=some d:=e;split at e'
    ·rename_i hz;cases e3:J5 ds with
     | none=>simp[e3] at e'
     | some ks=>
      rw[e3] at e';cases e';refine⟨ρ,ds,o,e1,λ xs H1 s1 r1=>⟨by rw[r1.1];exact hz,λ p hp=>?_⟩⟩;have ex:=NQ r1 e3;have s2:Same H1 (upd H1 p (.tup xs)):=Aq hp _;refine⟨ρ,.dt kds,o.mono (s1.trans s2),e2,λ v H3 s3 r3=>?_⟩;obtain⟨a,kvs,rfl,h1,h2,r⟩:=r3.dt;have h3:=(Ke (k:=ks) h2 r).2;refine⟨a,kvs,ks,p,rfl,h1,rfl,by rw[s3 _ _ Ag,ex],?_⟩;rw[h3];exact k _ H3 ((s1.trans s2).trans s3) (.bl _)
    ·cases e'
   | _=>cases e
end
end PV
namespace PV
open PySem PySem.Spec L2 EX
open PyProof.Rows hiding St
theorem Exc.lend {x:Addr}{e:Addr}{gs:List (Str×D)}(y:Exc G He H e tb c gs):Exc (G.lend x) He H e tb c gs:=⟨y.ex,y.same,y.new,y.tbk⟩
def Xx.lend {G:Gx}{mg:Str->Option Value}{R y:Addr}{cn f qual:Str}{st:Stmt}{ps:List Str}(x:Xx G mg R cn f qual st ps):Xx (G.lend y) mg R cn f qual st ps:=⟨x.C,x.fi,x.fd,x.g,x.xc,x.hi,x.hf,x.kp,x.na,x.m,x.F,x.B⟩
def tXZ (X:Cx) (G:Gx) (A0:List Addr) (He:Hp) (h:FZ):TE:=λ σ H Q=>∃ ρ d ρ' A,OkW G A0 He A σ H ρ/\h ρ=some (d,ρ')/\(∀ v H' A',OkW G A0 He A' σ H' ρ'->Same (hid A H) (hid A' H')->Rep G (hid A' H') v d->Q v H')/\RzO X G A0 He d ρ'
def PXZ (X:Cx) (G:Gx) (e:Expr) (h:FZ):Prop:=∀ ⦃A0⦄ He,PE X e (tXZ X G A0 He h)
section
variable {a b c:Expr}{fa fb fc:FE}{p2 px rp p:Pos}{fs:FA}{h:FZ}{hs:FZA}
theorem PX.x (ha:PX X G a h):PXZ X G a h:=λ A0 He π s σ H Q I ⟨ρ,d,ρ',A,w,e,k,_⟩=>@ha A0 He π s σ H Q I ⟨ρ,d,ρ',A,w,e,k⟩
end
section
variable {k:Nat}{sp:Sp}{o:Expr}{ta:TE}
end
section
variable {b:Expr}{rp p:Pos}{fs:FA}
end
section
variable {K:zFr}{base:Heap}{k:Nat}{sp sp':Sp}
end
section
variable {a b:Expr}{fs:FA}{rp p:Pos}{h:FZ}
end
end PV
namespace PV
open PySem PySem.Spec L2
open PyProof.Rows hiding St
theorem Fun.d {K:zFr}{x:Str}(F:Fun K x qual st f fd):FunD K x qual st f fd:=⟨let ⟨oc,od,kV,q⟩:=F.ex;⟨oc,od,.none,kV,q⟩,F.kp⟩
end PV
namespace L2
theorem Fun.d {K:zFr}{x qual:PySem.Str}{st:PySem.Stmt}{f:PySem.Addr}{fd:PySem.FuncData}(F:Fun K x qual st f fd):PV.FunD K x qual st f fd:=PV.Fun.d F
end L2
namespace PV
open PySem PySem.Spec L2
section
variable {l1 l2:List Expr}{a b c:Expr}
theorem Og {k j}:starEach (.Constant k j pos::es) env=(false,eval (.Constant k j pos) env)::starEach es env:=rfl
theorem QB {x}:starEach (.Name x pos::es) env=(false,eval (.Name x pos) env)::starEach es env:=rfl
theorem Ca {o}:starEach (.BinOp a o b pos::es) env=(false,eval (.BinOp a o b pos) env)::starEach es env:=rfl
theorem La {o}:starEach (.Compare a o l1 pos::es) env=(false,eval (.Compare a o l1 pos) env)::starEach es env:=rfl
theorem Aj:starEach (.Subscript a b pos::es) env=(false,eval (.Subscript a b pos) env)::starEach es env:=rfl
theorem MN {x}:starEach (.Attribute a x pos::es) env=(false,eval (.Attribute a x pos) env)::starEach es env:=rfl
theorem Du {k}:starEach (.Call a l1 k pos::es) env=(false,eval (.Call a l1 k pos) env)::starEach es env:=rfl
theorem V0 {g sc}:starEach (.ListComp a g sc pos::es) env=(false,eval (.ListComp a g sc pos) env)::starEach es env:=rfl
end
section
variable {fs:FA}
theorem iS {i j} (h:PFA X G es fs):PFA X G (.Constant (.str i) j pos::es) (Aa (kF (.str i)) fs):=Af Ua h Og
theorem iI {i j} (h:PFA X G es fs):PFA X G (.Constant (.int i) j pos::es) (Aa (kF (.int i)) fs):=Af Qi h Og
end
section
variable {cs:List Str}{R:Addr}{f:Str}
end
open PyProof.Rows hiding St
section
variable {a b:Expr}{fs:FA}{px py pt:Pos}
end
end PV
namespace PV
open PySem PySem.Spec L2 EX
open PyProof.Rows hiding St
section
variable {a:Expr}{fa:FE}{np p:Pos}{gb:FS}{fs:FA}
theorem OutX.base {A0:List Addr}{He Hf:Hp}{o:Out}(k:OutX X G A0 He o) (s:Same He Hf) (l0:∀ a∈A0,He a≠none):OutX X G A0 Hf o:=by
 cases o with
 | rt d ρ=>exact λ c gs z π σ H1 H s' e tb I ⟨A,w⟩ x=>k c gs z π σ H1 H s' e tb I ⟨A,w.base s l0⟩ x
 | _=>trivial
end
end PV
namespace EX
open PySem PySem.W PySem.Spec PyProof.Rows PySem.Calls
section
variable {A:Around}{K:Frag}{x:Addr}{ox:Obj}{name:Str}{v:Value}
end
end EX
namespace EX
open PySem PySem.Spec L2
open PyProof.Rows hiding St
section
variable {e R dx:Addr}{A:Around}{f:Str}
end
section
variable {o value:Expr}{ta tv:TE}{f:Str}
theorem PP.imp {c c':St->Prop}(h:PP X c e) (w:∀ σ,c' σ->c σ):PP X c' e:=λ π s σ H I hc=>h π s σ H I (w σ hc)
end
section
variable {R fi:Addr}{k:Nat}{f g:Str}{c:V->V->Prop}
end
end EX
namespace PV
open PySem PySem.Spec L2 EX
open PyProof.Rows hiding St
structure Xx2 (G:Gx) (mg:Str->Option Value) (R:Addr) (cn f g qual:Str) (st:Stmt) (ps:List Str) where
 C:Addr
 fi:Addr
 fd:FuncData
 gc:G.xcl cn=some C
 xc:XC G.K C R
 hi:PySem.W.findIn G.K (.ref C) "__init__"=some (some (.ref fi))
 hf:PySem.W.isFn G.K (.ref fi)=true
 kp:PySem.W.keepIn G.K (.ref C)=true
 na:DQ G.K C f
 nb:DQ G.K C g
 m:mg cn=some (.ref C)
 F:Fun G.K "__init__" qual st fi fd
 B:Binds G.K fd ps []
section
variable {a b:Expr}{fs:FA}{np:Pos}{R:Addr}{f g:Str}{x:Xx2 G X.mg R cn f g qual st ps}{k:Nat}
end
end PV
namespace EX
open PySem PySem.Spec L2
open PyProof.Rows hiding St
section
variable {R:Addr}
end
end EX
namespace PV
open PySem PySem.Spec L2 EX
open PyProof.Rows hiding St
section
variable {a:Expr}{fa:FE}{np:Pos}{R:Addr}
end
section
variable {K:zFr}{x:Str}{R:Addr}{kV:Value}{l:List (Str×Addr)}
end
theorem scO {P:List Str}(a:sc.kind=.function:=by rfl) (b:sc.isCoroutine=false:=by rfl) (c:sc.isGenerator=false:=by rfl) (d:N.Nodup:=by decide +kernel) (e:N.take P.length=P:=by rfl)
  (f:∀ x∈P,sc.names.lookup x=some .local ∨sc.names.lookup x=some .cell :=by decide +kernel) (g:∀ y∈sc.names,y.2≠.free :=by decide +kernel):FnScope N P sc:=⟨a,b,c,d,e,f,g⟩
theorem pav {fs:FA}{x:Str}{px:Pos}(i:Nat) (h:PFA X G es fs) (hN:X.N[i]?=some x:=by rfl) (hv:Vis X.env.scope x:=by first | exact Or.inl rfl | exact Or.inr (Or.inl rfl) | exact Or.inr (Or.inr rfl)) (hd:(x==("__debug__":Str))=false:=by decide) (hcd:(x==("__classdict__":Str))=false:=by decide):PFA X G (.Name x px::es) (Aa (vF i) fs):=Af (vr i hN hv hd hcd) h QB
section
variable {K:zFr}{x:Str}{R:Addr}{l:List (Str×Addr)}{cs ns:List Str}{cv:List Value}
end
theorem lR {α:Type}{us:List α}(h:us.length=1):∃ a,us=[a]:=by
 cases us with
 | nil=>cases h
 | cons a r=>exact⟨a,by rw[List.eq_nil_of_length_eq_zero (Nat.succ.inj h)]⟩
theorem lU {α:Type}{us:List α}(h:us.length=2):∃ a b,us=[a,b]:=by
 cases us with
 | nil=>cases h
 | cons z r=>
  obtain⟨a,rfl⟩:=lR (Nat.succ.inj h);exact⟨z,a,rfl⟩
theorem lV {α:Type}{us:List α}(h:us.length=3):∃ a b c,us=[a,b,c]:=by
 cases us with
 | nil=>cases h
 | cons z r=>
  obtain⟨a,b,rfl⟩:=lU (Nat.succ.inj h);exact⟨z,a,b,rfl⟩
theorem q_ {α:Type}{us:List α}(h:us.length=4):∃ a b c d,us=[a,b,c,d]:=by
 cases us with
 | nil=>cases h
 | cons z r=>
  obtain⟨a,b,c,rfl⟩:=lV (Nat.succ.inj h);exact⟨z,a,b,c,rfl⟩
abbrev EO:=Sum (Rho×Ef) (D×Rho)
abbrev FEz:=Rho->Ef->Option EO
def lW (g:FEs):FEz:=λ ρ ε=>(g ρ ε).map .inl
def tEZ (X:Cx) (G:Gx) (c:Str) (A0:List Addr) (He:Hp) (x:Addr) (g:FEz):TS:=λ D σ H=>∃ ρ ε o,EOkS G c A0 He x σ H ρ ε/\g ρ ε=some o/\(∀ r,o=.inl r->∀ σ' H',EOkS G c A0 He x σ' H' r.1 r.2->D.nx σ' H')/\∀ q,o=.inr q->RzO X G A0 He q.1 q.2
def PSEZ (X:Cx) (G:Gx) (c:Str) (st:Stmt) (g:FEz):Prop:=∀ ⦃A0⦄ He x,PS X st (tEZ X G c A0 He x g)
section
variable {a b k it:Expr}{fa fb fk:FE}{p2 p px:Pos}{rest:List Stmt}{g gs:FEz}{gp:FS}{ta tb:FTE}{tp:FT}
theorem PSE.z {g:FEs}(h:PSE X G c st g):PSEZ X G c st (lW g):=λ A0 He x π s σ H D I ⟨ρ,ε,o,ok,e,k,_⟩=>by
 unfold lW at e;cases e1:g ρ ε with
 | none=>simp[e1] at e
 | some r=>
  simp only[e1,z0E] at e;cases e;exact @h A0 He x π s σ H D I ⟨ρ,ε,r,ok,e1,k r rfl⟩
end
section
variable {k:Nat}{sp:Sp}{x:Str}{p:Pos}{o:Expr}{ta:TE}{t:TA}
end
section
variable {a b:Expr}{fa fb:FE}{p2 p:Pos}{fs:FA}
end
section
open PySem PySem.Spec L2
end
open PySem PySem.Spec L2 EX
open PyProof.Rows hiding St
section
variable {a sp k v:Expr}{fa fk fv:FE}{p:Pos}{cv:List Value}{b:Bool}
end
section
variable {a ob:Expr}{fs:FA}{fo:FE}{p:Pos}
theorem mA {k:Nat}{d:Mx X.K C m qual st ps}{g:List D->Option D}{pl:Sem Bool}(hc:G.cl c=some C) (cl:Cls X.K C) (F:FnOk X.prog X.w X.K X.mg X.base CX0 k d.f d.fd ps (spD G g)) (hr:Room k' X.A) (ho:PF X G ob fo) (ha:PFA X G (a::es) fs) (hle:k<=k':=by omega)
  (hst:starEach (a::es) X.env=(false,eval a X.env)::starEach es X.env:=by rfl) (hpl:(backTo pos (starEach es X.env)).any (·.1)=false:=by rfl)
  (ht:eval (.Call (.Attribute ob m apos) (a::es) [] pos) X.env=(do
   let ov <-eval ob X.env
   standAt apos.atName
   let (f,first) <-holding [ov] (getMethod ov m pl)
   callWith pos f first (backTo pos (starEach (a::es) X.env)) (backToKw pos (keywordEach [] X.env))):=by rfl) :
  PF X G (.Call (.Attribute ob m apos) (a::es) [] pos) (MJ c m g fo fs):=λ A=>CV (iG (@ho A) cl d.me F (hr.mono hle) d.B .nil Ry (@ha A) hst hpl ht) λ σ H Q ⟨ρ,dd,o,e,k⟩=>by
 unfold MJ at e;cases e0:fo ρ with
 | none=>simp[e0] at e
 | some oo=>
  rw[e0] at e;have e':(if Jp c m oo=true then (fs ρ).bind λ ds=>g (oo::ds) else none)=some dd:=e;split at e'
  ·rename_i hob;cases e1:fs ρ with
   | none=>simp[e1] at e'
   | some ds=>
    have e2:g (oo::ds)=some dd:=by simpa [e1] using e'
    refine⟨ρ,oo,o,e0,λ v H1 s1 r1=>?_⟩;cases oo with
    | ob c' gs=>
     simp only[Jp,z0C,z0J,Option.isNone_iff_eq_none] at hob;obtain⟨rfl,hn⟩:=hob;cases r1 with
     | ob hC h1 l1 r2=>
      rw[hc] at hC;cases hC;refine⟨_,_,_,rfl,Am _ _ h1,SN l1 hn,ρ,ds,o.mono s1,e1,λ vs H2 s2 r3=>?_⟩;refine⟨A,.ob c' gs::ds,dd,((o.mono s1).mono s2).live,?_,e2,λ v H3 s3 r4=>k v H3 ((s1.trans s2).trans s3) r4⟩;rw[z0w];exact .cons (Rep.mono (.ob hc h1 l1 r2) (Ar s2)) r3
    | _=>simp[Jp] at hob
  ·cases e'
end
abbrev Mu:=List (Addr×D)
def ksM (μ:Mu):List Addr:=μ.map (·.1)
abbrev KM:=Out->Mu->Prop
abbrev FM:=Rho->Mu->KM->Prop
structure OkM (G:Gx) (A0:List Addr) (He Hb:Hp) (A:List Addr) (σ:St) (H:Hp) (ρ:Rho) (μ:Mu):Prop where
 w:OkW G (ksM μ++A0) Hb A σ H ρ
 sb:Same He Hb
 l0:∀ a∈A0,He a≠none
 nf:∀ a∈ksM μ,He a=none
 nd:(ksM μ).Nodup
 top:∀ p∈μ,Top G A H p.1 p.2
def OkMS (G:Gx) (A0:List Addr) (He:Hp) (σ:St) (H:Hp) (ρ:Rho) (μ:Mu):Prop:=∃ A Hb,OkM G A0 He Hb A σ H ρ μ
theorem Top.keep {A':List Addr}{d:D}(t:Top G A H a d) (e:H' a=H a) (s:Same (hid A H) (hid A' H')):Top G A' H' a d:=by
 cases d with
 | lst ds=>obtain⟨xs,a1,a2⟩:=t;exact⟨xs,by rw[e];exact a1,a2.mono s⟩
 | dk ds=>obtain⟨xs,a1,a2,a3⟩:=t;exact⟨xs,by rw[e];exact a1,a2,a3.mono s⟩
 | dt ds=>obtain⟨xs,a1,a2,a3⟩:=t;exact⟨xs,by rw[e];exact a1,a2,a3.mono s⟩
 | ob c gs=>obtain⟨C,dx,xs,a1,a2,a3⟩:=t;exact⟨C,dx,xs,by rw[e];exact a1,a2,a3.mono s⟩
 | _=>exact t.elim
theorem Fp {μ:Mu}{p:Addr×D}(h:p∈μ):p.1∈ksM μ:=z05.mpr ⟨p,h,rfl⟩
theorem lX {μ:Mu}(h:a∈ksM μ):∃ d,(a,d)∈μ:=by
 obtain⟨p,h1,h2⟩:=z05.mp h;exact⟨p.2,by rw[<-h2];exact h1⟩
theorem lookup_mem {μ:Mu}{d:D}(h:μ.lookup a=some d):(a,d)∈μ:=by
 induction μ with
 | nil=>cases h
 | cons p r ih=>
  rw[z0d] at h;cases q:(a==p.1) with
  | true=>
   rw[q] at h;cases h;rw[eq_of_beq q];exact z0h
  | false=>
   rw[q] at h;exact z0b _ (ih h)
def putA (a:Addr) (c:D) (μ:Mu):Mu:=μ.map λ p=>if p.1=a then (a,c) else p
theorem XH (a:Addr) (c:D) (μ:Mu):ksM (putA a c μ)=ksM μ:=by
 unfold ksM putA;rw[z0k];refine List.map_congr_left λ p _=>?_;show (if p.1=a then (a,c) else p).1=p.1;split
 ·rename_i h;exact h.symm
 ·rfl
section
variable {μ:Mu}
theorem OkM.mono (o:OkM G A0 He Hb A σ H ρ μ) (s:Same H H'):OkM G A0 He Hb A σ H' ρ μ:=
 ⟨o.w.mono s,o.sb,o.l0,o.nf,o.nd,λ p h=>(o.top p h).mono s⟩
theorem OkM.set {v:V}{d:D}(o:OkM G A0 He Hb A σ H ρ μ) (r:Rep G (hid A H) v d) (i:Nat):OkM G A0 He Hb A (σ.set i (some v)) H (ρ.set i (.fz d)) μ:=
 ⟨o.w.set r i,o.sb,o.l0,o.nf,o.nd,o.top⟩
theorem OkM.inA (o:OkM G A0 He Hb A σ H ρ μ) {a:Addr}(h:a∈ksM μ):a∈A:=o.w.sub a (z0M _ h)
theorem OkM.n0 (o:OkM G A0 He Hb A σ H ρ μ) {a:Addr}(h:a∈ksM μ):a∉A0:=λ z=>o.l0 a z (o.nf a h)
theorem OkM.same (o:OkM G A0 He Hb A σ H ρ μ):Same He H:=o.sb.trans o.w.same
theorem OkM.fr (o:OkM G A0 He Hb A σ H ρ μ) {a:Addr}(h:a∈A):a∈A0∨He a=none:=by
 rcases o.w.fr a h with z | z
 ·rcases z0L.mp z with z | z
  ·exact .inr (o.nf a z)
  ·exact .inl z
 ·exact .inr (o.sb.free z)
theorem OkM.lift (o:OkM G A0 He Hb A σ H ρ μ):∃ Hf,OkW G (ksM μ++A0) Hf A σ H ρ/\∀ A' σ' H' ρ',OkW G (ksM μ++A0) Hf A' σ' H' ρ'->OkM G A0 He Hf A' σ' H' ρ' μ:=by
 obtain⟨s1,w2⟩:=o.w.here;refine⟨_,w2,λ A' σ' H' ρ' w'=>⟨w',o.sb.trans s1,o.l0,o.nf,o.nd,λ p hp=>?_⟩⟩;have t:=o.top p hp;refine t.keep ?_ (OkW.plain o.w.sub w');cases e:H p.1 with
 | none=>exact absurd e t.live.ne
 | some u=>
  refine w'.same p.1 u ?_;rw[Av (λ z=>by
   have:=(z0q.mp z).2;exact (z12 this) (z0M _ (Fp hp)))]
  exact e
theorem OkM.new {c:D}(o:OkM G A0 He Hb A σ H ρ μ) (s:Same H H') (hp:H p=none) (t:Top G (p::A) H' p c):OkMS G A0 He σ H' ρ ((p,c)::μ)/\p∉ksM μ/\OkM G A0 He (λ b=>if b=p then H' b else Hb b) (p::A) σ H' ρ ((p,c)::μ):=by
 have npA:p∉A:=λ z=>(o.w.ok.live p z).ne hp;have npk:p∉ksM μ:=λ z=>npA (o.inA z);have m:OkM G A0 He (λ b=>if b=p then H' b else Hb b) (p::A) σ H' ρ ((p,c)::μ):=by
  refine⟨⟨λ b u h=>?_,λ a ha=>?_,λ a ha=>?_,λ a ha=>?_,o.w.ok.fill s hp t.live,λ i d a h1 h2=>?_,o.w.lt⟩,λ b u h=>?_,o.l0,λ a ha=>?_,?_,λ q hq=>?_⟩
  ·by_cases q:b=p
   ·simp only[q,if_true] at h ⊢;exact h
   ·simp only[q,if_false] at h;exact s b u (o.w.same b u h)
  ·rcases z08.mp ha with z | z
   ·rw[z];exact z0h
   ·exact z0b _ (o.w.sub a z)
  ·rcases z08.mp ha with z | z
   ·rw[z];exact .inl z0h
   ·rcases o.w.fr a z with q | q
    ·exact .inl (z0b _ q)
    ·right;have:a≠p:=λ e=>npA (e▸z);simp only[this,if_false];exact q
  ·rcases z08.mp ha with z | z
   ·have z':a=p:=z;simp only[z',if_true];exact t.live.ne
   ·have:a≠p:=λ e=>npA (e▸o.w.sub a z);simp only[this,if_false];exact o.w.l0 a z
  ·intro z
   rcases z08.mp z with z | z
   ·obtain⟨q,q1,q2,_⟩:=o.w.ok.ow i d h1;rw[h2] at q1;cases q1;exact npA ((show a=p from z)▸q2)
   ·exact o.w.ow0 i d a h1 h2 z
  ·have h':=o.sb b u h;have:b≠p:=λ e=>by
    rw[e] at h';rw[o.w.same p u h'] at hp;cases hp
   simp only[this,if_false];exact h'
  ·rcases z08.mp ha with z | z
   ·rw[z];exact o.same.free hp
   ·exact o.nf a z
  ·exact z0G.mpr ⟨npk,o.nd⟩
  ·rcases z08.mp hq with z | z
   ·rw[z];exact t
   ·exact (o.top q z).fill s hp
 exact⟨⟨_,_,m⟩,npk,m⟩
theorem OkM.wr {c:D}(o:OkM G A0 He Hb A σ H ρ μ) (hq:q∈ksM μ) (sx:Ku q H H') (t:Top G A H' q c):OkM G A0 He (λ b=>if b=q then H' b else Hb b) A σ H' ρ (putA q c μ):=by
 have hA:=o.inA hq;have sm:=G7 hA sx;have own:∀ (i:Nat) (d:D) (a:Addr),ρ[i]?=some (.ow d)->σ[i]?=some (some (.ref a))->a≠q:=λ i d a h1 h2 z=>o.w.ow0 i d a h1 h2 (z▸z0M _ hq);have key:OkW G (ksM μ++A0) (λ b=>if b=q then H' b else Hb b) A σ H' ρ:=by
  refine⟨λ b u h=>?_,o.w.sub,λ a ha=>?_,λ a ha=>?_,⟨o.w.ok.len,λ b hb=>?_,λ j e h=>?_,λ j e h=>?_,o.w.ok.inj⟩,o.w.ow0,o.w.lt⟩
  ·by_cases z:b=q
   ·simp only[z,if_true] at h ⊢;exact h
   ·simp only[z,if_false] at h;exact sx b u z (o.w.same b u h)
  ·by_cases z:a=q
   ·exact .inl (z▸z0M _ hq)
   ·rcases o.w.fr a ha with y | y
    ·exact .inl y
    ·right;simp only[z,if_false];exact y
  ·by_cases z:a=q
   ·simp only[z,if_true];exact t.live.ne
   ·simp only[z,if_false];exact o.w.l0 a ha
  ·by_cases z:b=q
   ·rw[z];exact t.live
   ·exact (o.w.ok.live b hb).mono λ u e=>sx b u z e
  ·obtain⟨v,q1,q2⟩:=o.w.ok.fz j e h;exact⟨v,q1,q2.mono sm⟩
  ·obtain⟨a,q1,q2,q3⟩:=o.w.ok.ow j e h;exact⟨a,q1,q2,q3.other (own j e a h q1) hA sx⟩
 refine⟨by rw[XH];exact key,λ b u h=>?_,o.l0,by rw[XH];exact o.nf,by rw[XH];exact o.nd,λ p hp=>?_⟩
 ·have:b≠q:=λ e=>by
   rw[e,o.nf q hq] at h;cases h
  simp only[this,if_false];exact o.sb b u h
 ·obtain⟨p0,h0,e0⟩:=z05.mp hp;split at e0
  ·rw[<-e0];exact t
  ·rename_i z;rw[<-e0];exact (o.top p0 h0).other z hA sx
theorem OkM.at (o:OkM G A0 He Hb A σ H ρ μ) {i:Nat}{a:Addr}(h:ρ[i]?=some (.fz (.adr a))):σ[i]?=some (some (.ref a)):=by
 obtain⟨v,q1,q2⟩:=o.w.ok.fz i _ h;cases q2;exact q1
end
def HD (μ:Mu):List Nat->List Addr->Rho->Option Rho
 | [],_,ρ=>some ρ
 | j::js,seen,ρ=>match ρ[j]? with
  | some (.fz (.adr a))=>if a∈seen then none else (μ.lookup a).bind λ c=>HD μ js (a::seen) (ρ.set j (.ow c))
  | _=>none
theorem SQ {G:Gx}{A:List Addr}{σ:St}{H:Hp}{μ:Mu}(inA:∀ p∈μ,p.1∈A) (top:∀ p∈μ,Top G A H p.1 p.2):∀ (js:List Nat) (seen:List Addr) (ρ ρ':Rho),Okp G A σ H ρ->(∀ (i:Nat) (d:D) (a:Addr),ρ[i]?=some (.ow d)->σ[i]?=some (some (.ref a))->a∉ksM μ∨a∈seen)->HD μ js seen ρ=some ρ'->Okp G A σ H ρ'
 | [],_,ρ,ρ',o,_,e=>by cases e;exact o
 | j::js,seen,ρ,ρ',o,hs,e=>by
  unfold HD at e;split at e
  ·rename_i a ej;split at e
   ·cases e
   ·rename_i na;cases el:μ.lookup a with
    | none=>rw[el] at e;cases e
    | some c=>
     rw[el] at e;have hm:=lookup_mem el;obtain⟨v,q1,q2⟩:=o.fz j _ ej;cases q2;have ne:∀ (i:Nat) (d:D) (b:Addr),ρ[i]?=some (.ow d)->σ[i]?=some (some (.ref b))->b≠a:=λ i d b h1 h2 z=>by
      rcases hs i d b h1 h2 with y | y
      ·exact y (z▸Fp hm)
      ·exact na (z▸y)
     refine SQ inA top js (a::seen) _ ρ' ⟨by rw[z13];exact o.len,o.live,λ i d h=>?_,λ i d h=>?_,λ i k d f b h1 h2 h3 h4=>?_⟩ (λ i d b h1 h2=>?_) e
     ·rcases Bg h with ⟨_,hz,_⟩ | ⟨_,hz⟩
      ·cases hz
      ·exact o.fz i d hz
     ·rcases Bg h with ⟨hj,hz,_⟩ | ⟨_,hz⟩
      ·cases hz;subst hj;exact⟨a,q1,inA _ hm,top _ hm⟩
      ·exact o.ow i d hz
     ·rcases Bg h1 with ⟨hi,_,_⟩ | ⟨hi,z1⟩<;>rcases Bg h2 with ⟨hk,_,_⟩ | ⟨hk,z2⟩
      ·rw[hi,hk]
      ·subst hi;rw[q1] at h3;cases h3;exact absurd rfl (ne k f _ z2 h4)
      ·subst hk;rw[q1] at h4;cases h4;exact absurd rfl (ne i d _ z1 h3)
      ·exact o.inj i k d f b z1 z2 h3 h4
     ·rcases Bg h1 with ⟨hi,_,_⟩ | ⟨hi,z1⟩
      ·subst hi;rw[q1] at h2;cases h2;exact .inr z0h
      ·exact (hs i d b z1 h2).imp id λ y=>z0b _ y
  ·cases e
theorem OkM.view {μ:Mu}(o:OkM G A0 He Hb A σ H ρ μ) {js:List Nat}{ρ':Rho}(e:HD μ js [] ρ=some ρ'):Okp G A σ H ρ':=
 SQ (λ p h=>o.inA (Fp h)) o.top js [] ρ ρ' o.w.ok (λ i d a h1 h2=>.inl λ z=>o.w.ow0 i d a h1 h2 (z0M _ z)) e
abbrev FXM:=Rho->Mu->(D->Mu->Prop)->Prop
def puM (g:FS):FM:=λ ρ μ K=>∃ o,g ρ=some o/\K o μ
def thM (gs:FM) (K:KM):KM:=λ o μ=>match o with | .nx ρ=>gs ρ μ K | o=>K o μ
def seqM (g gs:FM):FM:=λ ρ μ K=>g ρ μ (thM gs K)
def nxM:FM:=λ ρ μ K=>K (.nx ρ) μ
def vwM {α:Type}(js:List Nat) (f:Rho->Option α) (ρ:Rho) (μ:Mu):Option α:=(HD μ js [] ρ).bind f
def ifM (js:List Nat) (t:FT) (g gs:FM):FM:=λ ρ μ K=>match vwM js t ρ μ with | some true=>g ρ μ K | some false=>gs ρ μ K | none=>False
def bdM (go:FM) (K:KM):KM:=λ o μ=>match o with | .nx ρ=>go ρ μ K | .ct ρ=>go ρ μ K | .bk ρ=>K (.nx ρ) μ | .rt e ρ=>K (.rt e ρ) μ
def Jq (tg:FG) (b:FM):List D->FM
 | [],ρ,μ,K=>K (.nx ρ) μ
 | d::r,ρ,μ,K=>∃ ρ1,tg d ρ=some ρ1/\b ρ1 μ (bdM (Jq tg b r) K)
def forM (src:FI) (tg:FG) (b:FM):FM:=λ ρ μ K=>∃ ds,src ρ=some ds/\Jq tg b ds ρ μ K
def pvX (js:List Nat) (f:FE):FXM:=λ ρ μ K=>∃ d,vwM js f ρ μ=some d/\K d μ
def newX (f:FE):FXM:=λ ρ μ K=>∃ c,f ρ=some c/\∀ p,p∉ksM μ->K (.adr p) ((p,c)::μ)
abbrev GM:=List D->Mu->(D->Mu->Prop)->Prop
def calX (g:GM) (fs:FA):FXM:=λ ρ μ K=>∃ ds,fs ρ=some ds/\g ds μ K
def Qv (i:Nat) (h:FXM):FM:=λ ρ μ K=>h ρ μ λ d μ'=>K (.nx (ρ.set i (.fz d))) μ'
def Qw (h:FXM):FM:=λ ρ μ K=>h ρ μ λ _ μ'=>K (.nx ρ) μ'
def lY (h:FXM):FM:=λ ρ μ K=>h ρ μ λ d μ'=>K (.rt d ρ) μ'
def V1 (i:Nat) (fk:FE) (h:FXM):FM:=λ ρ μ K=>h ρ μ λ v μ'=>∃ y x z,fk ρ=some y/\ρ[i]?=some (.ow x)/\Cq x y v=some z/\K (.nx (ρ.set i (.ow z))) μ'
def mutX (i:Nat) (js:List Nat) (g:D->List D->Option (D×D)) (fs:FA):FXM:=λ ρ μ K=>∃ ds a c v c',vwM js fs ρ μ=some ds/\ρ[i]?=some (.fz (.adr a))/\μ.lookup a=some c/\g c ds=some (v,c')/\K v (putA a c' μ)
def der:Nat->Mu->D->D
 | 0,_,d=>d
 | n+1,μ,.adr a=>match μ.lookup a with | some c=>der n μ c | none=>.adr a
 | n+1,μ,.lst ds=>.lst (ds.map (der n μ))
 | n+1,μ,.tup ds=>.tup (ds.map (der n μ))
 | n+1,μ,.dk kds=>.dk (kds.map λ p=>(p.1,der n μ p.2))
 | _+1,_,d=>d
def derS (n:Nat) (μ:Mu):Slot->Slot
 | .fz d=>.fz (der n μ d)
 | z=>z
def frzM (n:Nat) (g:FM):FM:=λ ρ μ K=>g (ρ.map (derS n μ)) [] K
def finM (K:D->Mu->Prop):KM:=λ o μ=>match o with | .rt d _=>K d μ | .nx _=>K .non μ | _=>False
def runM (n np:Nat) (b:FM):GM:=λ ds μ K=>ds.length=np/\b (CN n ds) μ (finM K)
def Ng (G:Gx) (A0:List Addr) (He:Hp) (D:Ends):Out->Mu->Prop
 | .nx ρ,μ=>∀ σ H,OkMS G A0 He σ H ρ μ->D.nx σ H
 | .rt d ρ,μ=>∀ v σ H A Hb,OkM G A0 He Hb A σ H ρ μ->Rep G (hid A H) v d->D.rt v H
 | .bk ρ,μ=>∀ σ H,OkMS G A0 He σ H ρ μ->D.bk σ H
 | .ct ρ,μ=>∀ σ H,OkMS G A0 He σ H ρ μ->D.ct σ H
def tM (G:Gx) (A0:List Addr) (He:Hp) (g:FM):TS:=λ D σ H=>∃ ρ μ K,OkMS G A0 He σ H ρ μ/\g ρ μ K/\∀ o μ',K o μ'->Ng G A0 He D o μ'
def PSM (X:Cx) (G:Gx) (st:Stmt) (g:FM):Prop:=∀ ⦃A0⦄ He,PS X st (tM G A0 He g)
def PSMs (X:Cx) (G:Gx) (st:List Stmt) (g:FM):Prop:=∀ ⦃A0⦄ He,PSs X st (tM G A0 He g)
def tMX (G:Gx) (A0:List Addr) (He:Hp) (h:FXM):TE:=λ σ H Q=>∃ ρ μ K,OkMS G A0 He σ H ρ μ/\h ρ μ K/\∀ v H' d μ' A Hb,K d μ'->OkM G A0 He Hb A σ H' ρ μ'->Rep G (hid A H') v d->Q v H'
def PMX (X:Cx) (G:Gx) (e:Expr) (h:FXM):Prop:=∀ ⦃A0⦄ He,PE X e (tMX G A0 He h)
section
variable {μ:Mu}
theorem OkM.base (o:OkM G A0 Hf Hb A σ H ρ μ) (s:Same He Hf) (l0:∀ a∈A0,He a≠none):OkM G A0 He Hb A σ H ρ μ:=
 ⟨o.w,s.trans o.sb,l0,λ a h=>s.free (o.nf a h),o.nd,o.top⟩
theorem OkM.here (o:OkM G A0 He Hb A σ H ρ μ):Same He (hid (A.filter λ a=>decide (a∉A0)) H)/\∃ Hc,OkM G A0 (hid (A.filter λ a=>decide (a∉A0)) H) Hc A σ H ρ μ:=by
 have hb:∀ b,b∈(A.filter λ a=>decide (a∉A0))↔b∈A/\b∉A0:=λ b=>by simp[z0q]
 have s1:Same He (hid (A.filter λ a=>decide (a∉A0)) H):=λ b u h=>by
  rw[Av]
  ·exact o.same b u h
  ·intro z;obtain⟨z1,z2⟩:=(hb b).mp z
   rcases o.fr z1 with q | q
   ·exact z2 q
   ·rw[q] at h;cases h
 obtain⟨s2,w2⟩:=o.w.here;refine⟨s1,_,w2,λ b u h=>?_,λ a ha h=>?_,λ a ha=>?_,o.nd,o.top⟩
 ·unfold hid at h ⊢;split at h
  ·cases h
  ·rename_i nb;rw[if_neg]
   ·exact h
   ·intro z;have z':=z0q.mp z;refine nb ((hb b).mpr ⟨z'.1,λ y=>?_⟩);exact (z12 z'.2) (z0A _ y)
 ·rw[Av (λ z=>((hb a).mp z).2 ha)] at h;exact (o.w.ok.live a (o.w.sub a (z0A _ ha))).ne h
 ·unfold hid;rw[if_pos ((hb a).mpr ⟨o.inA ha,o.n0 ha⟩)]
theorem OkM.plain (sub:∀ a∈A0,a∈B) (o:OkM G A0 (hid (B.filter λ a=>decide (a∉A0)) H1) Hb A σ H ρ μ):Same (hid B H1) (hid A H):=λ b u h=>by
 unfold hid at h;split at h
 ·cases h
 ·rename_i hb;have e:hid (B.filter λ a=>decide (a∉A0)) H1 b=some u:=by
   rw[Av (λ z=>hb (z0q.mp z).1)];exact h
  rw[Av]
  ·exact o.same b u e
  ·intro z
   rcases o.fr z with q | q
   ·exact hb (sub b q)
   ·rw[q] at e;cases e
theorem Ng.base {Hf:Hp}{D:Ends}{o:Out}(k:Ng G A0 He D o μ) (s:Same He Hf) (l0:∀ a∈A0,He a≠none):Ng G A0 Hf D o μ:=by
 cases o with
 | nx ρ=>exact λ σ H ⟨A,Hb,w⟩=>k σ H ⟨A,Hb,w.base s l0⟩
 | rt d ρ=>exact λ v σ H A Hb w r=>k v σ H A Hb (w.base s l0) r
 | bk ρ=>exact λ σ H ⟨A,Hb,w⟩=>k σ H ⟨A,Hb,w.base s l0⟩
 | ct ρ=>exact λ σ H ⟨A,Hb,w⟩=>k σ H ⟨A,Hb,w.base s l0⟩
theorem OkM.subA0 (o:OkM G A0 He Hb A σ H ρ μ):∀ a∈A0,a∈A:=λ a h=>o.w.sub a (z0A _ h)
theorem OkM.ends {D:Ends}(up:∀ A' σ' H' ρ',OkW G (ksM μ++A0) Hf A' σ' H' ρ'->OkM G A0 He Hf A' σ' H' ρ' μ) {o:Out}(k:Ng G A0 He D o μ):Ob G (ksM μ++A0) Hf D o:=by
 cases o with
 | nx ρ=>exact λ σ H ⟨A,w⟩=>k σ H ⟨A,Hf,up _ _ _ _ w⟩
 | rt d ρ=>exact λ v σ H A w r=>k v σ H A Hf (up _ _ _ _ w) r
 | bk ρ=>exact λ σ H ⟨A,w⟩=>k σ H ⟨A,Hf,up _ _ _ _ w⟩
 | ct ρ=>exact λ σ H ⟨A,w⟩=>k σ H ⟨A,Hf,up _ _ _ _ w⟩
theorem OkM.wrO {d0 d:D}{u:HO}(o:OkM G A0 He Hb A σ H ρ μ) (hi:ρ[i]?=some (.ow d0)) (hs:σ[i]?=some (some (.ref p))) (t:Top G A (upd H p u) p d):OkM G A0 He Hb A σ (upd H p u) (ρ.set i (.ow d)) μ:=by
 have n:=o.w.ow0 i d0 p hi hs;obtain⟨q,q1,q2,_⟩:=o.w.ok.ow i d0 hi;rw[hs] at q1;cases q1;exact⟨o.w.wr hi hs t,o.sb,o.l0,o.nf,o.nd,λ c hc=>(o.top c hc).other (λ z:c.1=p=>n (by rw[<-z];exact z0M _ (Fp hc))) q2 (λ b x nb hb=>by rw[Al nb];exact hb)⟩
end
section
variable {a b c:Expr}{fa fb fc:FE}{p2:Pos}{rest:List Stmt}{gp:FS}{g gs gb:FM}{h:FXM}
theorem Ho:PSMs X G [] nxM:=λ A0 He π s σ H D I ⟨ρ,μ,K,ok,e,k⟩=>O2 π s σ H D I (k _ _ e σ H ok)
theorem Ai (h1:PSM X G st g) (h2:PSMs X G rest gs):PSMs X G (st::rest) (seqM g gs):=λ A0 He π s σ H D I ⟨ρ,μ,K,ok,e,k⟩=>by
 refine Lf (@h1 A0 He) (@h2 A0 He) π s σ H D I ⟨ρ,μ,_,ok,e,λ o μ' q=>?_⟩;cases o with
 | nx ρ'=>exact λ σ' H' ok'=>⟨ρ',μ',K,ok',q,k⟩
 | rt d ρ'=>exact k _ _ q
 | bk ρ'=>exact k _ _ q
 | ct ρ'=>exact k _ _ q
theorem Bm (h1:PSM X G st g):PSMs X G [st] g:=λ A0 He=>S6 (@h1 A0 He)
theorem Ao (h:PSD X G st gp):PSM X G st (puM gp):=λ A0 He π s σ H D I ⟨ρ,μ,K,⟨A,Hb,w⟩,⟨o,e,q⟩,k⟩=>by
 obtain⟨Hf,w1,up⟩:=w.lift;exact @h (ksM μ++A0) Hf π s σ H D I ⟨ρ,o,⟨A,w1⟩,e,OkM.ends up (k _ _ q)⟩
theorem JC {α:Type}{f:Rho->Option α}{μ:Mu}{d:α}(e:vwM js f ρ μ=some d):∃ ρ',HD μ js [] ρ=some ρ'/\f ρ'=some d:=by
 unfold vwM at e;cases e1:HD μ js [] ρ with
 | none=>rw[e1] at e;cases e
 | some ρ'=>rw[e1] at e;exact⟨ρ',rfl,e⟩
theorem dg (js:List Nat) (ht:PFT X G c ga) (h1:PSMs X G s1 g) (h2:PSMs X G s2 gs):PSM X G (.If c s1 s2 pos) (ifM js ga g gs):=λ A0 He π s σ H D I ⟨ρ,μ,K,⟨A,Hb,w⟩,e,k⟩=>by
 refine VJ (@ht A) (@h1 A0 He) (@h2 A0 He) π s σ H D I ?_;unfold ifM at e;split at e
 ·rename_i e1;obtain⟨ρ',e2,e3⟩:=JC e1;exact⟨ρ',_,w.view e2,e3,λ H1 s1=>iteT ⟨ρ,μ,K,⟨A,Hb,w.mono s1⟩,e,k⟩⟩
 ·rename_i e1;obtain⟨ρ',e2,e3⟩:=JC e1;exact⟨ρ',_,w.view e2,e3,λ H1 s1=>iteF ⟨ρ,μ,K,⟨A,Hb,w.mono s1⟩,e,k⟩⟩
 ·exact e.elim
theorem Uo {it:Expr}(hp:PassesOwn (model X.prog X.w) X.A X.env X.xe) (hc:X.calm=true) (hi:PFI X G false tg it src) (hg:PGD X G tg fg) (hb:PSMs X G body gb)
  (hs:∀ x,foldedSetIterable it X.env x=pure x:=by intro _;rfl):PSM X G (.For tg it body [] pos) (forM src fg gb):=λ A0 He π s σ H D I ⟨ρ,μ,K,⟨A,Hb,w⟩,⟨ds,e1,e⟩,k⟩=>by
 have hb':PSs X body (λ D σ H=>∃ A0 He,tM G A0 He gb D σ H):=λ π s σ H D I ⟨A0,He,q⟩=>@hb A0 He π s σ H D I q;have hg':PG X tg (λ v σ H Q=>∃ A0 He,tGD G A0 He fg v σ H Q):=λ π s σ H v u Q I r ⟨A0,He,q⟩=>@hg A0 He π s σ H v u Q I r q;refine Wg hp hc (@hi A) hg' hb' hs π s σ H D I ⟨ρ,ds,w.w.ok,e1,λ J H1 s1 sr=>?_⟩;obtain⟨sHe,Hc,w2⟩:=(w.mono s1).here;have k2:∀ o μ',K o μ'->Ng G A0 _ D o μ':=λ o μ' q=>(k o μ' q).base sHe w.l0;generalize hHf:hid (A.filter λ a=>decide (a∉A0)) H1=Hf at sHe w2 k2;refine⟨λ i m σ' H'=>m=ds.length-i/\i<=ds.length/\∃ ρ' μ',OkMS G A0 Hf σ' H' ρ' μ'/\Jq fg gb (ds.drop i) ρ' μ' K,⟨ds.length,by simp,z0s _,ρ,μ,⟨A,Hc,w2⟩,by simpa using e⟩,?_⟩;rintro i m σ3 H3 ⟨rfl,hil,ρ3,μ3,⟨B,Hd,w3⟩,e3⟩;have pl:Same (hid A H1) (hid B H3):=by rw[<-hHf] at w3;exact OkM.plain w.subA0 w3
 by_cases hlt:i<ds.length
 ·right;have hd:ds[i]?=some ds[i]:=by simp[hlt]
  have ed:ds.drop i=ds[i]::ds.drop (i+1):=z1l hlt;rw[ed] at e3;obtain⟨ρ4,e4,e5⟩:=e3;refine⟨sr.go i H3 (pl.trans Am) hlt,λ σ' H'=>∃ ρ' μ',OkMS G A0 Hf σ' H' ρ' μ'/\Jq fg gb (ds.drop (i+1)) ρ' μ' K,λ σ' H' q=>⟨ds.length-(i+1),by omega,rfl,hlt,q⟩,λ x H' y=>?_⟩;obtain⟨sy,rx⟩:=sr.yld i H3 x H' _ (pl.trans Am) hd y;obtain⟨Hg,w4,up⟩:=(w3.mono sy).lift;refine⟨ksM μ3++A0,Hg,B,ρ3,ds[i],ρ4,w4,rx B w3.w.ok.live pl,e4,λ σ5 H5 ⟨A5,ok5⟩=>⟨A0,Hf,ρ4,μ3,_,⟨A5,Hg,up _ _ _ _ ok5⟩,e5,λ o5 μ5 q5=>?_⟩⟩;cases o5 with
  | nx ρ5=>exact λ σ' H' ok'=>⟨ρ5,μ5,ok',q5⟩
  | ct ρ5=>exact λ σ' H' ok'=>⟨ρ5,μ5,ok',q5⟩
  | bk ρ5=>exact λ σ' H' ok'=>k2 _ _ q5 σ' H' ok'
  | rt d5 ρ5=>exact k2 _ _ q5
 ·left;have ei:i=ds.length:=by omega
  subst ei;rw[List.drop_length] at e3;exact⟨sr.stop _ H3 (pl.trans Am) (z01 _),k2 _ _ e3 σ3 H3 ⟨B,Hd,w3⟩⟩
theorem dh (js:List Nat) (ha:PF X G a fa):PMX X G a (pvX js fa):=λ A0 He π s σ H Q I ⟨ρ,μ,K,⟨A,Hb,w⟩,⟨d,e,q⟩,k⟩=>by
 obtain⟨ρ',e2,e3⟩:=JC e;exact @ha A π s σ H Q I ⟨ρ',d,w.view e2,e3,λ v H' sm r=>k v H' d μ A Hb q (w.mono sm) r⟩
theorem Yz (ha:PN X G a fa):PMX X G a (newX fa):=λ A0 He π s σ H Q I ⟨ρ,μ,K,⟨A,Hb,w⟩,⟨c,e,q⟩,k⟩=>
 @ha A π s σ H Q I ⟨ρ,c,w.w.ok,e,λ p H' sm hp t=>by
  obtain⟨_,np,m⟩:=w.new sm hp t;exact k _ H' _ _ _ _ (q p np) m (.adr p)⟩
theorem di {x:Str}{p:Pos}(hp:∀ te,PE X a te->PS X (.Assign [.Name x p] a pos) (tAsg te (GR i))) (ha:PMX X G a h):PSM X G (.Assign [.Name x p] a pos) (Qv i h):=λ A0 He π s σ H D I ⟨ρ,μ,K,ok,e,k⟩=>
 hp _ (@ha A0 He) π s σ H D I ⟨ρ,μ,_,ok,e,λ v H' d μ' A Hb q w r=>k _ _ q _ _ ⟨A,Hb,w.set r i⟩⟩
theorem MP (ha:PMX X G a h) (hs:swapsWith a none pos.line X.env=pure false:=by rfl):PSM X G (.Expr a pos) (Qw h):=λ A0 He π s σ H D I ⟨ρ,μ,K,ok,e,k⟩=>
 O3 (@ha A0 He) hs π s σ H D I ⟨ρ,μ,_,ok,e,λ v H' d μ' A Hb q w r=>k _ _ q _ _ ⟨A,Hb,w⟩⟩
theorem dq (ha:PMX X G a h):PSM X G (.Return (some a) pos) (lY h):=λ A0 He π s σ H D I ⟨ρ,μ,K,ok,e,k⟩=>
 aa (@ha A0 He) π s σ H D I ⟨ρ,μ,_,ok,e,λ v H' d μ' A Hb q w r=>k _ _ q v σ H' A Hb w r⟩
theorem du {x y v z:D}{vv yv:V}(t:Top G A H p x) (hA:p∈A) (e3:Cq x y v=some z) (ry:Rep G (hid A H) yv y) (rv:Rep G (hid A H) vv v):∃ u,DPut H p yv vv (upd H p u)/\Top G A (upd H p u) p z:=by
 unfold Cq at e3;split at e3
 ·rename_i kds;cases e4:keyD y with
  | none=>simp[e4] at e3
  | some q=>
   simp only[e4,z0p] at e3;split at e3
   ·rename_i hz;cases e3;obtain⟨kvs,h2,hk,r⟩:=t;have ek:=Iz ry e4;subst ek;have hl:kvs.length<sizeLine:=by
     have:=congrArg List.length hk;rw[z00,z00] at this;omega
    have pk:=Py (k:=q) rv hk r;refine⟨_,DPut.k h2 hl,_,Ag,pk.1,?_⟩;rw[Bc hA];exact pk.2
   ·cases e3
 ·cases e3
theorem V2 {x:Str}(hu:X.A.units+1<cLine) (hv:PE X (.Name x xpos) (tVar i)) (ha:PF X G a fa) (hb:PMX X G b h)
  (hs:swapsWith b (some (.Subscript (.Name x xpos) a spos)) pos.line X.env=pure false:=by rfl):PSM X G (.Assign [.Subscript (.Name x xpos) a spos] b pos) (V1 i fa h):=λ A0 He π s σ H D I ⟨ρ,μ,K,ok,e,k⟩=>by
 have ha':PE X a (λ σ H Q=>∃ A,tF G A fa σ H Q):=λ π s σ H Q I ⟨A,q⟩=>@ha A π s σ H Q I q;refine O7 hu hv ha' (@hb A0 He) hs π s σ H D I ⟨ρ,μ,_,ok,e,λ v H' d μ' A Hb ⟨y,x0,z,e2,hi,e3,q⟩ w r=>?_⟩;obtain⟨p,h1,hA,t⟩:=w.w.ok.ow i _ hi;refine⟨_,h1,A,ρ,y,w.w.ok,e2,λ yv H2 s2 r2=>?_⟩;have w2:=w.mono s2;obtain⟨u,q1,q2⟩:=du (t.mono s2) hA e3 r2 (r.mono (Ar s2));exact⟨p,_,rfl,q1,k _ _ q _ _ ⟨A,Hb,w2.wrO hi h1 q2⟩⟩
def SndM (G:Gx) (r:V->List V->Hp->VK->Prop) (g:D->List D->Option (D×D)):Prop:=∀ (A:List Addr) (H:Hp) (l:Addr) (vs:List V) (c:D) (ds:List D) (v c':D) (Q:VK),(∀ a∈A,Nt (H a))->l∈A->Top G A H l c->RepL G (hid A H) vs ds->g c ds=some (v,c')->(∀ vv H',Ku l H H'->Top G A H' l c'->Rep G (hid A H') vv v->Q vv H')->r (.ref l) vs H Q
theorem Y0 {x name:Str}{T id:String}{r:V->List V->Hp->VK->Prop}{gm:D->List D->Option (D×D)}{fs:FA}(js:List Nat) (pa:PlainAttrs T) (slot:PySem.Slot T name id) (hty:typeOf (.builtin id)=pure (.type "method_descriptor")) (hm:MtM X id r) (sn:SndM G r gm)
  (tv:∀ (A:List Addr) (H:Hp) (l:Addr) (c:D) (ds:List D) (vc:D×D),gm c ds=some vc->Top G A H l c->tyV X.K T (.ref l) H) (hv:PE X (.Name x xpos) (tVar i)) (ha:PFA X G (e::es) fs)
  (hbase:attributeBase (.Name x xpos) name X.env (eval (.Name x xpos) X.env)=eval (.Name x xpos) X.env:=by rfl)
  (hfew:((backTo pos (starEach (e::es) X.env)).all (λ x=>!x.1)&&(backToKw pos (keywordEach [] X.env)).all (λ x=>x.1.isSome)&&decide ((e::es).length+([]:List Keyword).length+(if ([]:List Keyword).isEmpty then 0 else 1)<30))=true:=by rfl)
  (hline:(apos.endLine==pos.line)=true:=by rfl) (hs:starEach (e::es) X.env=(false,eval e X.env)::starEach es X.env:=by rfl) (hpl:(backTo pos (starEach es X.env)).any (·.1)=false:=by rfl) :
  PMX X G (.Call (.Attribute (.Name x xpos) name apos) (e::es) [] pos) (mutX i js gm fs):=λ A0 He π s σ H Q I ⟨ρ,μ,K,⟨A,Hb,w⟩,⟨ds,l,c,v,c',e1,hi,hl,e2,q⟩,k⟩=>by
 obtain⟨ρ',e3,e4⟩:=JC e1;have hm':=lookup_mem hl;refine Xm pa slot hty hm hv (@ha A) hbase hfew hline hs hpl π s σ H Q I ⟨_,w.at hi,tv _ _ _ _ _ _ e2 (w.top _ hm'),ρ',ds,w.view e3,e4,λ vs H1 s1 r1=>?_⟩;have w1:=w.mono s1;exact sn A H1 l vs c ds v c' Q w1.w.ok.live (w.inA (Fp hm')) (w1.top _ hm') r1 e2 λ vv H' sx t rv=>k vv H' v _ A _ q (w1.wr (Fp hm') sx t) rv
end
def spM (G:Gx) (g:GM):Sp:=λ vs H Q _=>∃ A ds μ K,(∀ a∈A,Nt (H a))/\(ksM μ).Nodup/\(∀ p∈μ,p.1∈A/\Top G A H p.1 p.2)/\RepL G (hid A H) vs ds/\g ds μ K ∧
 ∀ v H' A' μ' d,K d μ'->(∀ b u,b∉ksM μ->H b=some u->H' b=some u)->(∀ a∈A,a∉ksM μ->a∈A')->(∀ a∈A',Nt (H' a))->(ksM μ').Nodup->(∀ p∈μ',p.1∈A'/\Top G A' H' p.1 p.2)->(∀ a∈ksM μ',a∈ksM μ∨H a=none)->Rep G (hid A' H') v d->Q v H'
theorem aF {μ:Mu}(live:∀ a∈A,Nt (H a)) (nd:(ksM μ).Nodup) (ct:∀ p∈μ,p.1∈A/\Top G A H p.1 p.2) (r:RepL G (hid A H) vs ds) (hn:vs.length<=N.length):OkM G (A.filter λ a=>decide (a∉ksM μ)) (hid (ksM μ) H) H A (start N vs) H (CN N.length ds) μ:=by
 have inA:∀ a∈ksM μ,a∈A:=λ a h=>by obtain⟨d,hd⟩:=lX h;exact (ct _ hd).1
 have hm:∀ a,a∈(A.filter λ a=>decide (a∉ksM μ))↔a∈A/\a∉ksM μ:=λ a=>by simp[z0q]
 obtain⟨A1,w⟩:=Lw (N:=N) live r hn;have key:∀ a,a∈ksM μ++(A.filter λ a=>decide (a∉ksM μ))↔a∈A:=λ a=>by
  rw[z0L,hm];constructor
  ·rintro (h | h)
   ·exact inA a h
   ·exact h.1
  ·intro h
   by_cases z:a∈ksM μ
   ·exact .inl z
   ·exact .inr ⟨h,z⟩
 have no:∀ (i:Nat) (d:D),(CN N.length ds)[i]?≠some (.ow d):=λ i d h=>by
  unfold CN at h
  by_cases hi:i<ds.length
  ·rw[z0Y (by simpa using hi),z04] at h;cases e:ds[i]? with
   | none=>rw[e] at h;cases h
   | some d=>rw[e] at h;cases h
  ·rw[z0X (by simpa using z0Z.mp hi),List.getElem?_replicate] at h;split at h<;>cases h
 have okp:Okp G A (start N vs) H (CN N.length ds):=by
  refine⟨w.ok.len,live,λ i d h=>?_,λ i d h=>absurd h (no i d),λ i j d e a h _ _ _=>absurd h (no i d)⟩;obtain⟨v,q1,q2⟩:=w.ok.fz i d h;exact⟨v,q1,q2.mono (Cv w.sub)⟩
 refine⟨⟨Same.refl H,λ a ha=>(key a).mp ha,λ a ha=>.inl ((key a).mpr ha),λ a ha=>(live a ((key a).mp ha)).ne,okp,λ i d a h _=>absurd h (no i d),λ x d _ h=>absurd h (no 0 d)⟩,Am,λ a ha=>?_,λ a ha=>?_,nd,λ p hp=>(ct p hp).2⟩
 ·rw[Av ((hm a).mp ha).2];exact (live a ((hm a).mp ha).1).ne
 ·unfold hid;rw[if_pos ha]
theorem fn_M {base:Heap}{x:Str}{k:Nat}{b:FM}(F:FunD G.K x qual st f fd) (S:FnScope N ps (Ab st)) (hl:ps.length<=N.length)
  (hb:∀ (cdv:Value) (A:Around) (outer:List Env) (s:Shared) (H:Hp) (E:XK),Room k (A.deeper (envOfC qual (Ab st) s.heap.objs.size f cdv))->PSMs (cxOf CX0 P w G.K mg base N qual (Ab st) f cdv A outer s H E).nox G (Bb st) b) :
  FnOk P w G.K mg base CX0 (k+1) f fd ps (spM G (runM N.length ps.length b)):=by
 obtain⟨oc,od,dV,kV,doc,pm,an,cdv,ct,osl,rfl,lk,hcd⟩:=F.ex;refine bG lk hcd S (λ vs H Q E h=>?_) (λ A outer s H vs Q E hr h=>?_)
 ·obtain⟨A,ds,μ,K,lv,nd,ct,r,e,_⟩:=h;rw[r.1];exact e.1
 ·obtain⟨A1,ds,μ,K,lv,nd,ct,r,e,k⟩:=h;have hzz:=hb cdv A outer s H E hr;have fin:∀ (σ':St) (H':Hp) (A2:List Addr) (Hb:Hp) (ρ:Rho) (μ':Mu) (v:V) (d:D),OkM G (A1.filter λ a=>decide (a∉ksM μ)) (hid (ksM μ) H) Hb A2 σ' H' ρ μ'->Rep G (hid A2 H') v d->K d μ'->Q v H':=λ σ' H' A2 Hb ρ μ' v d w rv kd=>by
   refine k v H' A2 μ' d kd (λ b u nb hb=>w.same b u (by rw[Av nb];exact hb)) (λ a ha na=>w.subA0 a (by simp[z0q,ha,na])) w.w.ok.live w.nd (λ p hp=>⟨w.inA (Fp hp),w.top p hp⟩) (λ a ha=>?_) rv;have:=w.nf a ha
   by_cases z:a∈ksM μ
   ·exact .inl z
   ·rw[Av z] at this;exact .inr this
  refine⟨_,(@hzz (A1.filter λ a=>decide (a∉ksM μ)) (hid (ksM μ) H)).nox,CN N.length ds,μ,_,⟨A1,H,aF lv nd ct r (by rw[r.1,e.1];exact hl)⟩,e.2,λ o μ' q=>?_⟩;cases o with
  | nx ρ=>exact λ σ H' ⟨A,Hb,w⟩=>fin σ H' A Hb ρ μ' .non .non w .non q
  | rt d' ρ'=>exact λ v σ H' A Hb w r'=>fin σ H' A Hb ρ' μ' v d' w r' q
  | bk ρ=>exact q.elim
  | ct ρ=>exact q.elim
theorem rA {base:Heap}{x:Str}{k:Nat}{b:FM}{g:List D->Option D}(F:FunD G.K x qual st f fd) (S:FnScope N ps (Ab st)) (hl:ps.length<=N.length)
  (hb:∀ (cdv:Value) (A:Around) (outer:List Env) (s:Shared) (H:Hp) (E:XK),Room k (A.deeper (envOfC qual (Ab st) s.heap.objs.size f cdv))->PSMs (cxOf CX0 P w G.K mg base N qual (Ab st) f cdv A outer s H E).nox G (Bb st) b)
  (hg:∀ ds d,g ds=some d->runM N.length ps.length b ds [] λ d' _=>d'=d) :
  FnOk P w G.K mg base CX0 (k+1) f fd ps (spD G g):=
 (fn_M F S hl hb).imp λ vs H Q E ⟨A,ds,d,lv,r,e,q⟩=>⟨A,ds,[],_,lv,List.nodup_nil,λ p hp=>(nomatch hp),r,hg ds d e,λ v H' A' μ' d' e' sm sb lv' nd' ct' fr' rv=>by
  subst e';exact q v H' (λ b u hb=>sm b u (λ z=>nomatch z) hb) (rv.mono (Cv λ a ha=>sb a ha (λ z=>nomatch z)))⟩
section
variable {a b c:Expr}{fa fb fc:FE}{p2 p:Pos}{fs:FA}{g:FM}
theorem dw {μ:Mu}{gm:GM}{K:D->Mu->Prop}{Q:VK}{E:XK}(w1:OkM G A0 He Hb A σ H1 ρ μ) (r1:RepL G (hid A H1) vs ds) (e2:gm ds μ K)
  (k:∀ v H' d μ' A Hb,K d μ'->OkM G A0 He Hb A σ H' ρ μ'->Rep G (hid A H') v d->Q v H'):spM G gm vs H1 Q E:=by
 refine⟨A,ds,μ,K,w1.w.ok.live,w1.nd,λ p hp=>⟨w1.inA (Fp hp),w1.top p hp⟩,r1,e2,λ v H' A' μ' d kd sm sb lv nd ct fr rv=>?_⟩;have hA:∀ z,z∈(A.filter λ a=>decide (a∉ksM μ))++ksM μ'↔(z∈A/\z∉ksM μ)∨z∈ksM μ':=λ z=>by simp[z0q]
 generalize hA2:(A.filter λ a=>decide (a∉ksM μ))++ksM μ'=A2 at hA;have sub:∀ z∈A2,z∈A':=λ z hz=>by
  rcases (hA z).mp hz with h | h
  ·exact sb z h.1 h.2
  ·obtain⟨d,hd⟩:=lX h;exact (ct _ hd).1
 have pl:Same (hid A H1) (hid A2 H'):=λ b u hb=>by
  unfold hid at hb;split at hb
  ·cases hb
  ·rename_i nb;rw[Av]
   ·exact sm b u (λ z=>nb (w1.inA z)) hb
   ·intro z
    rcases (hA b).mp z with h | h
    ·exact nb h.1
    ·rcases fr b h with y | y
     ·exact nb (w1.inA y)
     ·rw[y] at hb;cases hb
 have own:∀ (i:Nat) (e:D) (q:Addr),ρ[i]?=some (.ow e)->σ[i]?=some (some (.ref q))->q∈A->q∉ksM μ/\q∉ksM μ'/\q∉A0:=λ i e q h1 h2 h3=>by
  have n:=w1.w.ow0 i e q h1 h2;have n1:q∉ksM μ:=λ z=>n (z0M _ z);refine⟨n1,λ z=>?_,λ z=>n (z0A _ z)⟩
  rcases fr q z with y | y
  ·exact n1 y
  ·exact (w1.w.ok.live q h3).ne y
 have keepB:∀ z,z∈A->z∉ksM μ->H' z=H1 z:=λ z hz nz=>by
  cases e:H1 z with
  | none=>exact absurd e (w1.w.ok.live z hz).ne
  | some u=>exact sm z u nz e
 have okp:Okp G A2 σ H' ρ:=by
  refine⟨w1.w.ok.len,λ z hz=>lv z (sub z hz),λ i e h=>?_,λ i e h=>?_,w1.w.ok.inj⟩
  ·obtain⟨v,q1,q2⟩:=w1.w.ok.fz i e h;exact⟨v,q1,q2.mono pl⟩
  ·obtain⟨q,q1,q2,q3⟩:=w1.w.ok.ow i e h;have n:=own i e q h q1 q2;exact⟨q,q1,(hA q).mpr (.inl ⟨q2,n.1⟩),q3.keep (keepB q q2 n.1) pl⟩
 have hb2:∀ z,z∈(A2.filter λ a=>decide (a∉ksM μ'++A0))↔z∈A2/\z∉ksM μ'++A0:=λ z=>by simp[z0q]
 have sub2:∀ z∈ksM μ'++A0,z∈A2:=λ z hz=>by
  rcases z0L.mp hz with h | h
  ·exact (hA z).mpr (.inr h)
  ·exact (hA z).mpr (.inl ⟨w1.subA0 z h,λ y=>w1.n0 y h⟩)
 refine k v H' d μ' A2 (hid (A2.filter λ a=>decide (a∉ksM μ'++A0)) H') kd ⟨⟨Am,sub2,λ z hz=>?_,λ z hz h=>?_,okp,λ i e q h1 h2 z=>?_,w1.w.lt⟩,λ b u hb=>?_,w1.l0,λ z hz=>?_,nd,λ q hq=>((ct q hq).2).sub sub⟩ (rv.mono (Cv sub))
 ·by_cases y:z∈ksM μ'++A0
  ·exact .inl y
  ·right;unfold hid;rw[if_pos ((hb2 z).mpr ⟨hz,y⟩)]
 ·rw[Av (λ y=>((hb2 z).mp y).2 hz)] at h;exact (lv z (sub z (sub2 z hz))).ne h
 ·obtain⟨q',q1,q2,_⟩:=w1.w.ok.ow i e h1;rw[h2] at q1;cases q1;have n:=own i e q h1 h2 q2
  rcases z0L.mp z with y | y
  ·exact n.2.1 y
  ·exact n.2.2 y
 ·have h1:=w1.same b u hb;have nb:b∉ksM μ:=λ z=>by rw[w1.nf b z] at hb;cases hb
  rw[Av]
  ·exact sm b u nb h1
  ·intro z;obtain⟨z1,z2⟩:=(hb2 b).mp z
   rcases (hA b).mp z1 with y | y
   ·rcases w1.fr y.1 with x | x
    ·exact z2 (z0A _ x)
    ·rw[x] at hb;cases hb
   ·exact z2 (z0M _ y)
 ·rcases fr z hz with y | y
  ·exact w1.nf z y
  ·exact w1.same.free y
theorem dz {k:Nat}{gm:GM}{x:Str}(F:FnOk X.prog X.w X.K X.mg X.base CX0 k f fd ps (spM G gm)) (hr:Room k X.A) (hg:Gl X x) (hm:X.mg x=some (.ref f)) (hk:PySem.W.keepIn X.K (.ref f)=true)
  (hb:Binds X.K fd ps []) (ha:PFA X G (a::es) fs) (hdb:(x==("__debug__":Str))=false:=by decide) (he:starEach (a::es) X.env=(false,eval a X.env)::starEach es X.env:=by rfl) (hpl:(backTo pos (starEach es X.env)).any (·.1)=false:=by rfl) :
  PMX X G (.Call (.Name x p) (a::es) [] pos) (calX gm fs):=λ A0 He π s σ H Q I ⟨ρ,μ,K,⟨A,Hb,w⟩,⟨ds,e1,e2⟩,k⟩=>by
 refine S8 F hr hg hm hk hb .nil Ry (@ha A) hdb he hpl π s σ H Q I ⟨ρ,ds,w.w.ok,e1,λ vs H1 s1 r1=>?_⟩;have w1:=w.mono s1;show spM G gm (vs++[]) H1 Q E0;rw[z0w];exact dw w1 r1 e2 k
theorem MT {F:Hp}{μ:Mu}(hc:∀ p∈μ,Rep G F (.ref p.1) p.2):∀ (n:Nat) {v:V}{d:D},Rep G F v d->Rep G F v (der n μ d)
 | 0,v,d,r=>r
 | n+1,v,d,r=>by
  have getm:∀ {ds:List D}{i:Nat}{e:D},(ds.map (der n μ))[i]?=some e->∃ e0,ds[i]?=some e0/\e=der n μ e0:=λ {ds i e} h=>by
   rw[z04] at h;cases q:ds[i]? with
   | none=>rw[q] at h;cases h
   | some e0=>rw[q] at h;exact⟨e0,rfl,(z0e h).symm⟩
  cases r with
  | non=>exact .non
  | bl b=>exact .bl b
  | int i=>exact .int i
  | str x=>exact .str x
  | tup h l k=>
   refine .tup h (by rw[z00];exact l) λ i x e h1 h2=>?_;obtain⟨e0,q1,rfl⟩:=getm h2;exact MT hc n (k i x e0 h1 q1)
  | lst h l k=>
   refine .lst h (by rw[z00];exact l) λ i x e h1 h2=>?_;obtain⟨e0,q1,rfl⟩:=getm h2;exact MT hc n (k i x e0 h1 q1)
  | dk h l k=>
   refine .dk h (by rw[z0k];exact l) λ i x e h1 h2=>?_;rw[z0k,z04] at h2;rename_i kds;cases q:kds[i]? with
   | none=>rw[q] at h2;cases h2
   | some e0=>
    rw[q] at h2;cases h2;exact MT hc n (k i x e0.2 h1 (by rw[z04,q];rfl))
  | dt h l k=>exact .dt h l k
  | adr a=>
   show Rep G F _ (match μ.lookup a with | some c=>der n μ c | none=>.adr a);cases e:μ.lookup a with
   | none=>exact .adr a
   | some c=>exact MT hc n (hc _ (lookup_mem e))
  | ob c h l k=>exact .ob c h l k
  | err c h q f=>exact .err c h q f
theorem SX {A:List Addr}{π:zP}{s:Shared}{σ:St}:∀ {μ:Mu}{H:Hp},Inv X π σ H s->(ksM μ).Nodup->(∀ p∈μ,p.1∈A/\Top G A H p.1 p.2) ->
  ∃ H' A',Inv X π σ H' s/\(∀ b,b∉ksM μ->H' b=H b)/\(∀ b,b∈A'↔b∈A/\b∉ksM μ)/\Same (hid A H) (hid A' H')/\∀ p∈μ,Rep G (hid A' H') (.ref p.1) p.2
 | [],H,I,_,_=>⟨H,A,I,λ _ _=>rfl,λ b=>by simp[ksM],Same.refl _,λ p hp=>(nomatch hp)⟩
 | (a,d)::μ,H,I,nd,ct=>by
  obtain⟨na,nd'⟩:=z0G.mp nd;obtain⟨H1,A1,i1,i2,i3,i4,i5⟩:=SX (μ:=μ) I nd' λ p hp=>ct p (z0b _ hp);obtain⟨hA,t⟩:=ct (a,d) z0h;have ha:a∈A1:=(i3 a).mpr ⟨hA,na⟩;obtain⟨H2,j1,j2,j3,j4⟩:=Yj i1 ha (t.keep (i2 a na) i4);refine⟨H2,A1.filter λ b=>decide (b≠a),j1,λ b hb=>?_,λ b=>?_,i4.trans j3,λ p hp=>?_⟩
  ·have hb':b≠a/\b∉ksM μ:=⟨λ z=>hb (by rw[z];exact z0h),λ z=>hb (z0b _ z)⟩;rw[j2 b hb'.1,i2 b hb'.2]
  ·rw[MF,i3 b];show _↔b∈A/\b∉a::ksM μ;simp only[z08,not_or];exact⟨λ ⟨⟨p1,p2⟩,p3⟩=>⟨p1,p3,p2⟩,λ ⟨p1,p3,p2⟩=>⟨⟨p1,p2⟩,p3⟩⟩
  ·rcases z08.mp hp with z | z
   ·rw[z];exact j4
   ·exact (i5 p z).mono j3
theorem jY (n:Nat) (h:PSM X G st g):PSM X G st (frzM n g):=λ A0 He π s σ H Ds I ⟨ρ,μ,K,⟨A,Hb,w⟩,q,k⟩=>by
 obtain⟨H',A',i1,i2,i3,i4,i5⟩:=SX (A:=A) I w.nd λ p hp=>⟨w.inA (Fp hp),w.top p hp⟩;have getm:∀ {i:Nat}{z:Slot},(ρ.map (derS n μ))[i]?=some z->(∃ d,ρ[i]?=some (.fz d)/\z=.fz (der n μ d))∨(ρ[i]?=some z/\∀ d,z≠.fz d):=λ {i z} hz=>by
  rw[z04] at hz;cases q:ρ[i]? with
  | none=>rw[q] at hz;cases hz
  | some y=>
   rw[q] at hz;cases y with
   | fz d=>exact .inl ⟨d,rfl,(z0e hz).symm⟩
   | ow d=>cases hz;exact .inr ⟨rfl,λ d=>nofun⟩
   | un=>cases hz;exact .inr ⟨rfl,λ d=>nofun⟩
 have getO:∀ {i:Nat}{d:D},(ρ.map (derS n μ))[i]?=some (.ow d)->ρ[i]?=some (.ow d):=λ {i d} hz=>by
  rcases getm hz with ⟨_,_,e⟩ | ⟨e,_⟩
  ·cases e
  ·exact e
 have sub0:∀ a∈A0,a∈A':=λ a ha=>(i3 a).mpr ⟨w.subA0 a ha,λ z=>w.n0 z ha⟩;have lv:∀ a∈A',Nt (H' a):=λ a ha=>by
  obtain⟨h1,h2⟩:=(i3 a).mp ha;rw[i2 a h2];exact w.w.ok.live a h1
 have okp:Okp G A' σ H' (ρ.map (derS n μ)):=by
  refine⟨by rw[z00];exact w.w.ok.len,lv,λ i d hz=>?_,λ i d hz=>?_,λ i j d e a h1 h2 h3 h4=>w.w.ok.inj i j d e a (getO h1) (getO h2) h3 h4⟩
  ·rcases getm hz with ⟨d0,e0,e1⟩ | ⟨_,e⟩
   ·cases e1;obtain⟨v,q1,q2⟩:=w.w.ok.fz i d0 e0;exact⟨v,q1,MT i5 n (q2.mono i4)⟩
   ·exact absurd rfl (e d)
  ·obtain⟨a,q1,q2,q3⟩:=w.w.ok.ow i d (getO hz);have na:a∉ksM μ:=λ z=>w.w.ow0 i d a (getO hz) q1 (z0M _ z);exact⟨a,q1,(i3 a).mpr ⟨q2,na⟩,q3.keep (i2 a na) i4⟩
 have hm:∀ z,z∈(A'.filter λ a=>decide (a∉A0))↔z∈A'/\z∉A0:=λ z=>by simp[z0q]
 refine @h A0 He π s σ H' Ds i1 ⟨_,[],K,⟨A',hid (A'.filter λ a=>decide (a∉A0)) H',⟨Am,sub0,λ a ha=>?_,λ a ha hz=>?_,okp,λ i d a h1 h2 z=>?_,λ x d hx h0=>w.w.lt x d hx (getO h0)⟩,λ b u hb=>?_,w.l0,λ a ha=>(nomatch ha),List.nodup_nil,λ p hp=>(nomatch hp)⟩,q,k⟩
 ·by_cases y:a∈A0
  ·exact .inl y
  ·right;unfold hid;rw[if_pos ((hm a).mpr ⟨ha,y⟩)]
 ·rw[Av (λ y=>((hm a).mp y).2 ha)] at hz;exact (lv a (sub0 a ha)).ne hz
 ·exact w.w.ow0 i d a (getO h1) h2 (z0A _ z)
 ·have nb:b∉ksM μ:=λ z=>by rw[w.nf b z] at hb;cases hb
  rw[Av]
  ·rw[i2 b nb];exact w.same b u hb
  ·intro z;obtain⟨z1,z2⟩:=(hm b).mp z
   rcases w.fr ((i3 b).mp z1).1 with x | x
   ·exact z2 x
   ·rw[x] at hb;cases hb
end
def Itv (K:zFr) (a:Addr) (n:Nat):It:=
 ⟨λ i H=>(∃ xs,SqL K H a xs/\xs.length=n)/\i<n,λ i H x H'=>H'=H/\∀ xs,SqL K H a xs->xs[n-1-i]?=some x,λ i H=>n<=i⟩
theorem d7 {K:zFr}(a it:Addr) (n:Nat):Turn P w K tg (Itv K a n) [it] it (λ i h=>i<=n/\h.IsRevIter it a ((n:Int)-1-(i:Nat))) where
 mem:=by simp
 obj:=λ i h st b hb=>by
  have e:b=it:=by simpa using hb
  subst e;obtain⟨_,o,e,c,d⟩:=st;exact⟨o,e,λ v z=>by rw[d] at z;cases z⟩
 keep:=λ i h h' st k=>⟨st.1,st.2.at λ o e=>k it (by simp) o e⟩
 item:=by
  intro X hP hw hK hc i π s σ H E I hf st hg;subst hP hw hK;obtain⟨⟨xs,hq,hn⟩,hi⟩:=hg;obtain⟨its,rv,p,hz⟩:=I.list hq;have hx:xs[n-1-i]?=some (xs[n-1-i]'(by omega)):=by simp[show n-1-i<xs.length by omega]
  obtain⟨u,hu,ru⟩:=rv.get hx;obtain⟨f0,f1,f2,f3,f4,f5⟩:=hf it (by simp);have e1:(n:Int)-1-(i:Nat)=((n-1-i:Nat):Int):=by omega
  have e2:((n-1-i:Nat):Int)-1=(n:Int)-1-((i+1:Nat):Int):=by omega
  replace st:=st.2;rw[e1] at st;refine wpAny_pyNext_rev_item st p.isList (x:=u) (by simpa using hu) λ h' st' sb=>?_;rw[e2] at st';have I1:Inv X π σ H { s with heap:=h' }:=I.turned (t':=s.toks) (λ b o hb e=>(sb.2 b hb).trans e) f0 f1 f3 f4 f5;obtain⟨o,e,c,d⟩:=id st';exact⟨u,rfl,Rp (s:={ s with heap:=h' }) e c d (by decide) ⟨_,H,I1,ru,⟨rfl,λ ys hy=>by rw[I.list_inj hy hq];exact hx⟩,⟨hi,st'⟩,λ b hb=>(hf b hb).1⟩⟩
 done:=by
  intro X hP hw hK hc i π s σ H E I hf st hg;subst hP hw hK;obtain⟨f0,f1,f2,f3,f4,f5⟩:=hf it (by simp);have e1:(n:Int)-1-(i:Nat) = -1:=by have:n<=i:=hg;have:=st.1;omega
  replace st:=st.2;rw[e1] at st;exact wpAny_pyNext_rev_end (I.ok.hd hc) st λ h' eb=>⟨rfl,I.turned (t':=s.toks) (λ b o hb e=>eb b o hb e) f0 f1 f3 f4 f5⟩
 self:=λ _ _ _ _ _ st h=>wpAny_pyIter_revIter st.2 h
theorem boot_reversed:bootBuiltins "reversed"=some (.type "reversed"):=by decide +kernel
section
variable {a:Expr}{fa:FE}{p:Pos}{ta:TA}
def iRev (K:zFr) (ta:TA):TI:=λ σ H R=>ta σ H λ vs H1=>∃ a xs,vs=[.ref a]/\SqL K H1 a xs/\R (Itv K a xs.length) H1
theorem o8 (hg:Gl X "reversed") (hm:X.mg "reversed"=none) (ha:PA X [a] ta) (hs:starEach [a] X.env=[(false,eval a X.env)]:=by rfl):PI X tg (.Call (.Name "reversed" p) [a] [] pos) (iRev X.K ta):=by
 intro π s σ H R I h;refine Call_ (QM I hg hm boot_reversed (PyProof.Rows.callWith_type1 (thn (ha pos π s σ H _ I h) λ us s1 ⟨vs,H1,I1,r1,q1⟩=>?_) hs rfl));obtain⟨l,xs,e,hq,q⟩:=q1;subst e;cases r1 with
 | cons r rr=>
  cases rr;cases r;obtain⟨its,rv,p,hz⟩:=I1.list hq;refine call_reversed_list p.isList ?_;have hl:=rv.length;have e1:((its.toArray.size:Nat):Int)-1=(xs.length:Int)-1-((0:Nat):Int):=by simp[hl]
  rw[e1];refine wpAny_pyIter_revIter ⟨_,z0i _ rfl,rfl,rfl⟩ ?_;refine⟨s1.heap.objs.size,[s1.heap.objs.size],_,_,H1,rfl,I1.kept (t':=s1.toks) λ b o e=>z0c _ e,d7 l _ xs.length,⟨z0s _,_,z0i _ rfl,rfl,rfl⟩,λ b hb=>?_,q⟩;have e:b=s1.heap.objs.size:=by simpa using hb
  subst e;exact I1.fpOk (z01 _) (I1.hok.fresh (z01 _))
def revI (f:FE):FI:=λ ρ=>match f ρ with | some (.lst ds)=>some ds.reverse | _=>none
theorem jZ {p:Addr}(h:SqL G.K F1 p xs) (r:RepL G F2 xs ds):Src G (Itv G.K p xs.length) ds.reverse F1 F2 where
 go:=λ i H s hi=>⟨⟨xs,s.seq h,rfl⟩,by rw[List.length_reverse,<-r.1] at hi;exact hi⟩
 yld:=λ i H x H' d s hd y=>NB ⟨y.1,by
  have hi:i<ds.length:=by have:=(z0m.mp hd).1;rwa [List.length_reverse] at this
  rw[List.getElem?_reverse hi,<-r.1] at hd;exact r.2 _ x d (y.2 xs (s.seq h)) hd⟩
 stop:=λ i H s hi=>by rw[List.length_reverse,<-r.1] at hi;exact hi
theorem Y4 (hG:G.K=X.K) (hg:Gl X "reversed") (hm:X.mg "reversed"=none) (h:PF X G a fa) (hs:starEach [a] X.env=[(false,eval a X.env)]:=by rfl):PFI X G false tg (.Call (.Name "reversed" p) [a] [] pos) (revI fa):=λ A=>Ql (o8 hg hm (Cu (@h A) Fi hs) hs) λ σ H R ⟨ρ,ds,o,e,k⟩=>by
 unfold revI at e;split at e
 ·rename_i ds' e1;cases e;refine⟨ρ,_,o,e1,λ v H1 s1 r1=>?_⟩;cases r1 with
  | lst h l r=>
   rename_i b xs;refine⟨b,xs,rfl,by rw[<-hG];exact Am.seq h,?_⟩;rw[<-hG];exact k _ H1 s1 (jZ h ⟨l,r⟩)
 ·cases e
end
section
open PySem.MeetsSeq PySem.SeqAt
theorem o9 (q:Addr) (vs:Array Value) (c:Nat) (u:Value) (f:Nat->Bool) (j:Nat) (lj:j<vs.size) (yes:f j=true) (sz:vs.size<=sizeLine):∀ k i:Nat,j-i=k->i<=j->(∀ m,i<=m->m<j->f m=false) ->
  Meets (Builtin.«list.remove.loop» ⟨[.ref q,u,rawInt i],[]⟩) (λ A R s=>s.heap.get? q=some { cls:=.type "list",dict:=none,data:=.seq vs c,slots:=#[] }/\(∀ m (hm:m<vs.size),EqAt A.in1 s vs[m] u (f m)) ∧
   R (.ok (.ret .none)) { s with heap:=s.heap.update q (Obj.mapSeq λ xs=>xs.eraseIdxIfInBounds j) }):=by
 intro k
 induction k with
 | zero=>
  intro i h1 h2 h3 prog w A R s hs;obtain⟨hp,gn,dr,tk,os⟩:=s;obtain⟨hl,he,go⟩:=hs;obtain rfl:i=j:=by omega
  wp_walk using AutoSeq1.wpAny_loadPart' hl
  rw[show vs[((i:Nat):Int).toNat]?=some vs[i] by simp[lj]];refine z02 (he i lj prog w _ _ ?_);rw[yes];have le:(vs.eraseIdxIfInBounds i).size<=sizeLine+1:=z0t (size_erased vs _) (Nat.le_succ_of_le sz)
  wp_walk using (wpAny_updateSeq hl rfl (hz:=sz) (_hz':=le)),AutoSeq1.wpAny_loadPart' hl
  simpa using go
 | succ k ih=>
  intro i h1 h2 h3 prog w A R s hs;obtain⟨hp,gn,dr,tk,os⟩:=s;obtain⟨hl,he,go⟩:=hs;have li:i<vs.size:=by omega
  wp_walk using AutoSeq1.wpAny_loadPart' hl
  rw[show vs[((i:Nat):Int).toNat]?=some vs[i] by simp[li]];refine z02 (he i li prog w _ _ ?_);rw[h3 i (z01 _) (by omega)]
  wp_walk
  rw[show ((i:Int)+1)=((i+1:Nat):Int) by push_cast;rfl];exact⟨plainId_quiet plain_remove_loop _,codeAny_builtin entry_remove_loop (by
   rw[Around.under_plainId plain_remove_loop _];exact ih (i+1) (by omega) (by omega) (λ m a b=>h3 m (by omega) b) prog w A R _ ⟨hl,he,go⟩)⟩
theorem aG (q:Addr) (vs:Array Value) (c:Nat) (u:Value) (f:Nat->Bool) (j:Nat) (lj:j<vs.size) (yes:f j=true) (no:∀ m,m<j->f m=false) (sz:vs.size<=sizeLine) :
  Meets (Builtin.«list.remove» ⟨[.ref q,u],[]⟩) (λ A R s=>s.heap.get? q=some { cls:=.type "list",dict:=none,data:=.seq vs c,slots:=#[] }/\(∀ m (hm:m<vs.size),EqAt A.in1 s vs[m] u (f m)) ∧
   R (.ok (.ret .none)) { s with heap:=s.heap.update q (Obj.mapSeq λ xs=>xs.eraseIdxIfInBounds j) }):=by
 intro prog w A R s hs;obtain⟨hp,gn,dr,tk,os⟩:=s;obtain⟨hl,he,go⟩:=hs
 wp_walk using AutoSeq1.wpAny_loadPart' hl
 exact⟨plainId_quiet plain_remove_loop _,codeAny_builtin entry_remove_loop (by
  rw[Around.under_plainId plain_remove_loop _];exact o9 q vs c u f j lj yes sz _ 0 rfl (z0s _) (λ m _ b=>no m b) prog w A R _ ⟨hl,he,go⟩)⟩
end
def remL (x:D):List D->Option (List D)
 | []=>none
 | d::r=>match eqK 62 d x with | some true=>some r | some false=>(remL x r).map (d::·) | none=>none
theorem Sd {x:D}:∀ {ds es:List D},remL x ds=some es->∃ j dj,ds[j]?=some dj/\eqK 62 dj x=some true/\(∀ m dm,m<j->ds[m]?=some dm->eqK 62 dm x=some false)/\es=ds.eraseIdx j
 | [],es,h=>by cases h
 | d::r,es,h=>by
  unfold remL at h;split at h
  ·rename_i e;cases h;exact⟨0,d,rfl,e,λ m dm z=>by omega,rfl⟩
  ·rename_i e;cases q:remL x r with
   | none=>rw[q] at h;cases h
   | some fs=>
    rw[q] at h;cases h;obtain⟨j,dj,h1,h2,h3,rfl⟩:=Sd q;refine⟨j+1,dj,h1,h2,λ m dm hm hd=>?_,rfl⟩;cases m with
    | zero=>cases hd;exact e
    | succ m=>exact h3 m dm (by omega) hd
  ·cases h
def rRem (G:Gx):V->List V->Hp->VK->Prop:=λ v vs H Q=>∃ A l xs x ds dx j dj,v=.ref l/\vs=[x]/\H l=some (.lst xs)/\RepL G (hid A H) xs ds/\Rep G (hid A H) x dx/\ds[j]?=some dj/\eqK 62 dj dx=some true/\(∀ m dm,m<j->ds[m]?=some dm->eqK 62 dm dx=some false)/\(∀ d∈ds,(eqK 62 d dx).isSome=true)/\Q .non (upd H l (.lst (xs.eraseIdx j)))
section
theorem RepL.erase (r:RepL G H xs ds) (j:Nat):RepL G H (xs.eraseIdx j) (ds.eraseIdx j):=by
 rw[List.eraseIdx_eq_take_drop_succ,List.eraseIdx_eq_take_drop_succ];exact (r.take j).append (r.drop (j+1))
theorem o_ (hG:G.K=X.K) (hu:X.A.units+64<cLine):MtM X "list.remove" (rRem G):=by
 intro π s σ H x vs v us Q I rx rv h;obtain⟨A,l,xs,y,ds,dx,j,dj,rfl,rfl,hH,r,ry,hj,hy,hn,hk,q⟩:=h;cases rx;obtain⟨u,rfl,ru⟩:=rv.one;obtain⟨z,its,n,rr,hl,e⟩:=I.lstM hH;have lj:j<its.toArray.size:=by
  have:=(z0m.mp hj).1;rw[z0f,<-hl,r.1];exact this
 have eq1:∀ m (hm:m<its.toArray.size),SeqAt.EqAt X.A.in1 s its.toArray[m] u (((ds[m]?).bind λ d=>eqK 62 d dx).getD false):=λ m hm=>by
  have hm':m<its.length:=by simpa using hm
  have hx:m<xs.length:=by rw[hl];exact hm'
  have hd:m<ds.length:=by rw[<-r.1];exact hx
  obtain⟨y',h1,h2⟩:=rr.get (i:=m) (x:=xs[m]) (by simp[hx]);have ey:y'=its[m]:=by rw[z06 hm'] at h1;exact (z0e h1).symm
  subst ey;obtain⟨b,hb⟩:=Option.isSome_iff_exists.mp (hk ds[m] (z15 hd));have:(((ds[m]?).bind λ d=>eqK 62 d dx).getD false)=b:=by rw[z06 hd];show (eqK 62 ds[m] dx).getD false=b;rw[hb];rfl
  rw[this];exact K_ I hG 62 X.A.in1 (by show X.A.units+1+62<cLine;omega) hb ((r.2 m _ _ (by simp[hx]) (by simp[hd])).mono Am) (ry.mono Am) h2 ru
 refine call_meets F.slot_list_remove ⟨_,e,rfl⟩ F.entry_list_remove (F.args_list_remove_2 _ _) (aG l its.toArray n u (λ m=>((ds[m]?).bind λ d=>eqK 62 d dx).getD false) j lj (by show ((ds[j]?).bind λ d=>eqK 62 d dx).getD false=true;rw[hj];show (eqK 62 dj dx).getD false=true;rw[hy];rfl) (λ m hm=>?_) (by rw[z0f];omega)) ⟨e,eq1,?_⟩
 ·have hd:m<ds.length:=by have:=(z0m.mp hj).1;omega
  show ((ds[m]?).bind λ d=>eqK 62 d dx).getD false=false;rw[z06 hd];show (eqK 62 ds[m] dx).getD false=false;rw[hn m _ hm (z06 hd)];rfl
 ·refine⟨.non,_,I.lset (its':=its.eraseIdx j) hH e ?_ (rr.eraseIdx j) ?_,rfl,q⟩
  ·show its.toArray.eraseIdxIfInBounds j=(its.eraseIdx j).toArray;rw[List.eraseIdxIfInBounds_toArray]
  ·have:=Mz xs j;omega
def remM:D->List D->Option (D×D)
 | .lst ds,[x]=>if ds.all (λ d=>(eqK 62 d x).isSome)=true then (remL x ds).map λ es=>(.non,.lst es) else none
 | _,_=>none
theorem d8:SndM G (rRem G) remM:=λ A H l vs c ds v c' Q lv hA t r e k=>by
 unfold remM at e;split at e
 ·rename_i zs x;split at e
  ·rename_i hk;cases q:remL x zs with
   | none=>rw[q] at e;cases e
   | some es=>
    rw[q] at e;cases e;obtain⟨xs,h1,h2⟩:=t;obtain⟨y,ys,rfl,r1,r2⟩:=r.uncons;have e0:=r2.nil_inv;subst e0;obtain⟨j,dj,a1,a2,a3,rfl⟩:=Sd q;refine⟨A,l,xs,y,zs,x,j,dj,rfl,rfl,h1,h2,r1,a1,a2,a3,λ d hd=>z0x.mp hk d hd,k _ _ (λ b o nb hb=>by rw[Al nb];exact hb) ⟨_,Ag,?_⟩ .non⟩;rw[Bc hA];exact h2.erase j
  ·cases e
 ·cases e
def appM:D->List D->Option (D×D)
 | .lst ds,[x]=>if ds.length<sizeLine then some (.non,.lst (ds++[x])) else none
 | _,_=>none
theorem d9:SndM G Xn appM:=λ A H l vs c ds v c' Q lv hA t r e k=>by
 unfold appM at e;split at e
 ·rename_i zs x;split at e
  ·rename_i hz;cases e;obtain⟨xs,h1,h2⟩:=t;obtain⟨y,ys,rfl,r1,r2⟩:=r.uncons;have e0:=r2.nil_inv;subst e0;refine⟨l,xs,y,rfl,rfl,h1,by rw[h2.1];exact hz,k _ _ (λ b o nb hb=>by rw[Al nb];exact hb) ⟨_,Ag,?_⟩ .non⟩;rw[Bc hA];exact h2.append (.cons r1 .nil)
  ·cases e
 ·cases e
theorem XJ {l:Addr}(t:Top G A H l (.lst ds)):tyV X.K "list" (.ref l) H:=by
 obtain⟨xs,h,_⟩:=t;exact .inl ⟨rfl,xs,.of h⟩
theorem pA (A:List Addr) (H:Hp) (l:Addr) (c:D) (ds:List D) (vc:D×D) (e:remM c ds=some vc) (t:Top G A H l c):tyV X.K "list" (.ref l) H:=by
 unfold remM at e;split at e
 ·exact XJ t
 ·cases e
theorem pB (A:List Addr) (H:Hp) (l:Addr) (c:D) (ds:List D) (vc:D×D) (e:appM c ds=some vc) (t:Top G A H l c):tyV X.K "list" (.ref l) H:=by
 unfold appM at e;split at e
 ·exact XJ t
 ·cases e
end
def popD (x k:D):Option (D×D):=match x,k with
 | .lst ds,.int i=>if 0<=i/\i<ds.length then (ds[i.toNat]?).map λ d=>(d,.lst (ds.eraseIdx i.toNat)) else none
 | _,_=>none
def popX (j:Nat) (f:FE):FZ:=λ ρ=>(f ρ).bind λ k=>(ownO ρ j).bind λ x=>(popD x k).map λ r=>(r.1,ρ.set j (.ow r.2))
def lstQ:D->Option Unit
 | .lst _=>some ()
 | _=>none
def appX (i:Nat) (h:FZ):FS:=λ ρ=>(h ρ).bind λ r=>((ownO ρ i).bind lstQ).bind λ _=>(ownO r.2 i).bind λ x=>(appL x r.1).map λ y=>.nx (r.2.set i (.ow y))
section
variable {a:Expr}{fa:FE}{p2 px rp p:Pos}{h:FZ}
theorem d_ {x:Str}(hv:PE X (.Name x xpos) (tVar j)) (ha:PF X G a fa)
  (hbase:attributeBase (.Name x xpos) "pop" X.env (eval (.Name x xpos) X.env)=eval (.Name x xpos) X.env:=by rfl)
  (hfew:((backTo pos (starEach [a] X.env)).all (λ x=>!x.1)&&(backToKw pos (keywordEach [] X.env)).all (λ x=>x.1.isSome)&&decide ([a].length+([]:List Keyword).length+(if ([]:List Keyword).isEmpty then 0 else 1)<30))=true:=by rfl)
  (hline:(apos.endLine==pos.line)=true:=by rfl) (hs:starEach [a] X.env=[(false,eval a X.env)]:=by rfl) :
  PX X G (.Call (.Attribute (.Name x xpos) "pop" apos) [a] [] pos) (popX j fa):=λ A0 He π s σ H Q I ⟨ρ,d,ρ',A,w,e,k⟩=>by
 unfold popX at e;cases e1:fa ρ with
 | none=>simp[e1] at e
 | some v=>
  cases e2:ownO ρ j with
  | none=>simp[e1,e2] at e
  | some x0=>
   cases e3:popD x0 v with
   | none=>simp[e1,e2,e3] at e
   | some r=>
    simp only[e1,e2,e3,z0p,z0E] at e;cases e;have hi:=G6 e2;refine Xm z1m PySem.F.slot_list_pop PySem.F.type_list_pop bN hv (Cu (@ha A) Fi hs) hbase hfew hline hs rfl π s σ H Q I ?_;unfold popD at e3;split at e3
    ·rename_i ds i;split at e3
     ·rename_i hz;obtain⟨q,h1,hA,xs,h2,rr⟩:=w.ok.ow j _ hi;refine⟨_,h1,.inl ⟨rfl,xs,.of h2⟩,ρ,_,w.ok,e1,λ u H1 s1 r1=>?_⟩;cases r1;cases e4:ds[i.toNat]? with
      | none=>rw[e4] at e3;cases e3
      | some d0=>
       rw[e4] at e3;cases e3;obtain⟨y,y1,y2⟩:=rr.get e4;have hn:i.toNat<xs.length:=(z0m.mp y1).1;have hlz:ds.length<2^62:=by
        have:=rr.1;obtain⟨z,_⟩:=I.lstM h2;have hsl:sizeLine<2^62:=by decide
        omega
       have w1:=w.mono s1;have r2:=rr.mono (Ar s1);refine⟨q,xs,i,i.toNat,y,rfl,rfl,s1 _ _ h2,by omega,by omega,?_,y1,?_⟩
       ·unfold seqIndex?;simp only[show ¬ i<0 by omega,if_false];rw[if_pos (by have:=rr.1;simp;omega)]
       ·refine k y _ A (w1.wr hi h1 ⟨_,Ag,?_⟩) ?_ ?_
        ·rw[Bc hA];exact r2.erase _
        ·rw[Bc hA];exact Ar s1
        ·rw[Bc hA];exact y2.mono (Ar s1)
     ·cases e3
    ·cases e3
theorem jb {x:Str}(hv:PE X (.Name x xpos) (tVar i)) (ha:PX X G a h)
  (hbase:attributeBase (.Name x xpos) "append" X.env (eval (.Name x xpos) X.env)=eval (.Name x xpos) X.env:=by rfl)
  (hfew:((backTo pos (starEach [a] X.env)).all (λ x=>!x.1)&&(backToKw pos (keywordEach [] X.env)).all (λ x=>x.1.isSome)&&decide ([a].length+([]:List Keyword).length+(if ([]:List Keyword).isEmpty then 0 else 1)<30))=true:=by rfl)
  (hline:(apos.endLine==pos.line)=true:=by rfl) (hs:starEach [a] X.env=[(false,eval a X.env)]:=by rfl) (hsw:swapsWith (.Call (.Attribute (.Name x xpos) "append" apos) [a] [] pos) none p2.line X.env=pure false:=by rfl) :
  PSD X G (.Expr (.Call (.Attribute (.Name x xpos) "append" apos) [a] [] pos) p2) (appX i h):=λ A0 He π s σ H D I ⟨ρ,o,⟨A,w⟩,e,k⟩=>by
 unfold appX at e;cases e1:h ρ with
 | none=>simp[e1] at e
 | some r=>
  cases e2:ownO ρ i with
  | none=>simp[e1,e2] at e
  | some x0=>
   cases e5:lstQ x0 with
   | none=>simp[e1,e2,e5] at e
   | some uu=>
   cases e3:ownO r.2 i with
   | none=>simp[e1,e2,e3,e5] at e
   | some x1=>
    cases e4:appL x1 r.1 with
    | none=>simp[e1,e2,e3,e4,e5] at e
    | some y=>
     simp only[e1,e2,e3,e4,e5,z0p,z0E] at e;cases e;have hi:=G6 e2;have hi':=G6 e3;refine O3 (Xm z1m PySem.F.slot_list_append PySem.F.type_list_append Kd hv (Cu (@ha A0 He) Fi hs) hbase hfew hline hs rfl) hsw π s σ H D I ?_;obtain⟨q,h1,hA,t0⟩:=w.ok.ow i _ hi;unfold appL at e4;split at e4
     ·rename_i ds;split at e4
      ·rename_i hz;cases e4;have ty:tyV X.K "list" (.ref q) H:=by
        cases x0 with
        | lst z=>obtain⟨xs,hh,_⟩:=t0;exact .inl ⟨rfl,xs,.of hh⟩
        | _=>cases e5
       refine⟨_,h1,ty,ρ,r.1,r.2,A,w,e1,λ u H1 A1 w1 sm r1=>?_⟩;obtain⟨q',g1,gA,xs,g2,rr⟩:=w1.ok.ow i _ hi';rw[h1] at g1;cases g1;refine⟨q,xs,u,rfl,rfl,g2,by rw[rr.1];exact hz,k _ _ ⟨A1,w1.wr hi' h1 ⟨xs++[u],Ag,?_⟩⟩⟩;rw[Bc gA];exact rr.append (.cons r1 .nil)
      ·cases e4
     ·cases e4
def rB (te:TE):TE:=λ σ H Q=>te σ H λ x H1=>∃ d kvs,x=.ref d/\Rd H1 d (.dK kvs)/\∀ r,H1 r=none->Q (.ref r) (upd H1 r (.ext λ h=>h.IsValuesView r d))
theorem aH (ha:PE X a te) (hbase:attributeBase a "values" X.env (eval a X.env)=eval a X.env:=by rfl) (hline:(apos.endLine==cpos.line)=true:=by rfl) :
  PE X (.Call (.Attribute a "values" apos) [] [] cpos) (rB te):=by
 intro π s σ H R I h;refine wpAny_Call_method (T:="dict") (id:="dict.values") hbase rfl hline F.plainAttrs_dict F.slot_dict_values F.type_dict_values (thn (ha π s σ H _ I h) λ v s1 ⟨x,H1,I1,r1,q1⟩=>?_);obtain⟨d,kvs,e,hq,q⟩:=q1;subst e;cases r1;obtain⟨z,hd,vs,rel,dd⟩:=Im I1.hok hq;refine⟨dd.typeIs,dd.mapOf.noDict,?_⟩;show wpAny _ _ (callWith cpos (.builtin "dict.values") [.ref d] [] []) _ _ s1;refine method_meetsIn F.slot_dict_values F.entry_dict_values rfl (PySem.evalArgs_none ⟨rfl,dd.typeIs,F.args_dict_values_1 _,_,meets_dict_values (Aw X.prog X.w) d hd,⟨vs,dd⟩,?_⟩);have hn:(s1.heap.push { cls:=.type "dict_values",data:=.fields #[.ref d] }).get? s1.heap.objs.size=some { cls:=.type "dict_values",data:=.fields #[.ref d] }:=z0i _ rfl;exact⟨.ref s1.heap.objs.size,_,I1.laid (a:=s1.heap.objs.size) (t':=s1.toks) (λ b o e=>z0c _ e) (z01 _) (show BK X.prog X.w _ _ s1.heap.objs.size (.ext λ h=>h.IsValuesView s1.heap.objs.size d) from⟨⟨_,hn,rfl,rfl⟩,⟨_,hn⟩,λ h1 h2 ⟨o,e1,e2,e3⟩ kk=>⟨o,kk _ e1,e2,e3⟩⟩),rfl,q _ (I1.hok.fresh (z01 _))⟩
theorem V3:∀ {xs:List V}{us:List Value},us.length=xs.length->(∀ (j:Nat) u,us[j]?=some u->∃ x,xs[j]?=some x/\RelV x u)->Vals xs us
 | [],[],_,_=>.nil
 | [],_::_,h,_=>by simp at h
 | _::_,[],h,_=>by simp at h
 | x::xs,u::us,h,k=>by
  obtain⟨y,h1,h2⟩:=k 0 u rfl;cases h1;exact .cons h2 (V3 (by simpa using h) λ j u hu=>by simpa using k (j+1) u (by simpa using hu))
theorem Qx (hc:X.calm=true):Do X (.type "list") (λ xs H Q=>∃ r p kvs,xs=[.ref r]/\H r=some (.ext λ h=>h.IsValuesView r p)/\Rd H p (.dK kvs)/\∀ l,H l=none->Q (.ref l) (upd H l (.lst (kvs.map λ q=>q.2)))):=by
 intro π s σ H xs us Q I rs h;obtain⟨r,p,kvs,rfl,er,e,q⟩:=h;obtain⟨u,rfl,ru⟩:=rs.one;cases ru;obtain⟨z,hd,vs,rel,dd⟩:=Im I.hok e;obtain⟨ep,dd⟩:=dd.dictAt;have hl:kvs.length=vs.length:=rel.length;obtain⟨vw,_,_⟩:=(show BK X.prog X.w H s.heap r (.ext λ h=>h.IsValuesView r p) from I.hok r _ er);refine PySem.W.kdl_call (PySem.W.kdl_values (knd:=Aw X.prog X.w) (kvs:=vs) (ep:=ep)) (I.ok.hd hc) ⟨vw,dd⟩ (by omega) λ h' tk acc c' kp hn hi=>?_;have va:Vals (kvs.map λ q=>q.2) acc.toList:=by
  refine V3 (by rw[z00,hl,z1b];exact hi.1) λ j u hu=>?_;obtain⟨k,h1⟩:=hi.2 j u (by rw[<-Array.getElem?_toList];exact hu);have hj:j<kvs.length:=by rw[hl];exact (z0m.mp h1).1
  exact⟨kvs[j].2,by rw[z04,z06 hj];rfl,(Gr rel (z06 hj) h1).2⟩
 exact⟨.ref s.heap.objs.size,_,I.laid (t':=tk) kp (z01 _) (show BK X.prog X.w _ h' _ (.lst (kvs.map λ q=>q.2)) from⟨by rw[z00];exact z,acc.toList,c',va,by simpa using hn⟩),rfl,q _ (I.hok.fresh (z01 _))⟩
def Sg:D->Option D
 | .dk kds=>some (.lst (kds.map (·.2)))
 | _=>none
theorem Y5 (hc:X.calm=true) (hg:Gl X "list") (hm:X.mg "list"=none) (ha:PF X G a fa) (hbase:attributeBase a "values" X.env (eval a X.env)=eval a X.env:=by rfl) (hline:(apos.endLine==cpos.line)=true:=by rfl)
  (he:starEach [Expr.Call (.Attribute a "values" apos) [] [] cpos] X.env=[(false,eval (.Call (.Attribute a "values" apos) [] [] cpos) X.env)]:=by rfl) :
  PF X G (.Call (.Name "list" p) [.Call (.Attribute a "values" apos) [] [] cpos] [] pos) (uF Sg fa):=λ A=>CV (Kc (Qx hc) hg hm Hl (Cu (aH (@ha A) hbase hline) Fi he) (by decide) (by decide) he rfl) λ σ H Q ⟨ρ,d,o,e,k⟩=>by
 obtain⟨x,e1,e2⟩:=JW e;unfold Sg at e2;split at e2
 ·rename_i kds;cases e2;refine⟨ρ,_,o,e1,λ v H1 s1 r1=>?_⟩;cases r1 with
  | dk h l r=>
   rename_i b ob kvs;refine⟨b,kvs,rfl,.inr ⟨_,Am _ _ h⟩,λ w hw=>⟨w,b,kvs,rfl,Ag,.inr ⟨ob,?_⟩,λ c hc'=>?_⟩⟩
   ·rw[Al (Ck (Am _ _ h) hw)];exact Am _ _ h
   ·have s2:Same H1 (upd H1 w (.ext λ h=>h.IsValuesView w b)):=Aq hw _;have rl:RepL G (hid A H1) (kvs.map (·.2)) (kds.map (·.2)):=⟨by have:=congrArg List.length l;rwa [z00,z00] at this ⊢,r⟩;exact k _ _ (s1.trans (s2.trans (Aq hc' _))) (Bs ((o.mono s1).mono s2).live hc' (rl.mono (Ar s2)))
 ·cases e2
end
def bd2:D->Option (List D)
 | .tup [a,b]=>some [a,b]
 | _=>none
def V4 (src:FI) (ga:FT) (fe:FE):FE:=IK bd2 src ga fe
section
variable {t u:Str}{elt iter:Expr}{ifs:List Expr}{p1 p2 pt:Pos}{k1:Nat}
theorem bnd2 {N:Nat}:Bnd G N 2 bd2 (gTup G.K 2 (VL (GR N) (VL (GR (N+1)) gNil))):=λ A σ os H x d es Q hl ho e r k=>by
 unfold bd2 at e;split at e
 ·rename_i a b;cases e;cases r with
  | tup h l q=>
   rename_i c xs;obtain⟨x,ys,rfl,r1,r2⟩:=(show RepL G (hid A H) xs [a,b] from⟨l,q⟩).uncons;obtain⟨y,zs,rfl,r3,r4⟩:=r2.uncons;have e0:=r4.nil_inv;subst e0
   match os,ho with
   | [o1,o2],_=>
   refine⟨c,[x,y],rfl,Ga Am h,rfl,x,[y],rfl,?_⟩;refine⟨y,[],rfl,rfl,?_⟩;have z:((σ++[o1,o2]).set N (some x)).set (N+1) (some y)=σ++[some x,some y]:=by
    rw[<-hl,List.set_append_right _ _ (z01 _),Nat.sub_self];show (σ++[some x,o2]).set (σ.length+1) (some y)=_;rw[List.set_append_right _ _ (z0V _),show σ.length+1-σ.length=1 by omega];rfl
   show Q (((σ++[o1,o2]).set N (some x)).set (N+1) (some y)) H;rw[z];exact k [x,y] rfl (.cons r1 (.cons r3 .nil))
 ·cases e
theorem gTwo {N':List Str}(hG:G.K=X.K) (eN:Cp [t,u] X.N++[t,u]=N') (c:CompOkL X scope [t,u]) (hc:X.calm=true) (s2:Shared) (H2:Hp) (fp:List Addr):PG (CT X scope N' s2 H2 fp) (.Tuple [.Name t p1,.Name u p2] k1 pt) (gTup G.K 2 (VL (GR X.N.length) (VL (GR (X.N.length+1)) gNil))):=by
 subst eN;rw[hG];have at0:(Cp [t,u] X.N++[t,u])[X.N.length]?=some t:=by unfold Cp;rw[z0X (by rw[z00];exact z01 _),z00,Nat.sub_self];rfl
 have at1:(Cp [t,u] X.N++[t,u])[X.N.length+1]?=some u:=by unfold Cp;rw[z0X (by rw[z00];exact z0V _),z00,Nat.add_sub_cancel_left];rfl
 have lt:=lookup_relabel_local (env:=X.env) (c.tl t (by simp));have lu:=lookup_relabel_local (env:=X.env) (c.tl u (by simp));exact aj hc (QQ (O4 c.nd at0 (.inl lt) (.inr lt)) (QQ (O4 c.nd at1 (.inl lu) (.inr lu)) Xg rfl) rfl) rfl rfl
theorem eE (N':List Str) (eN:Cp [t,u] X.N++[t,u]=N') (c:CompOkL X scope [t,u]) (hc:X.calm=true) (hG:G.K=X.K) (hi:PFI X G true (.Tuple [.Name t p1,.Name u p2] k1 pt) iter src)
  (hI:∀ s2 H2 fp,PFTs (CT X scope N' s2 H2 fp) G ifs ga) (hE:∀ s2 H2 fp,PF (CT X scope N' s2 H2 fp) G elt fe) (hs:∀ x,foldedSetIterable iter X.env x=pure x:=by intro _;rfl):PN X G (.ListComp elt [⟨.Tuple [.Name t p1,.Name u p2] k1 pt,iter,ifs,0⟩] scope pos) (V4 src ga fe):=
 λ A=>Qm N' eN c hc hi (gTwo hG eN c hc) bnd2 hI hE hs A
theorem jc (N':List Str) (eN:GZ t X.N++[t]=N') (c:M7 X scope t) (hc:X.calm=true) (hi:PFI X G true (.Name t p1) iter src) (hI:∀ s2 H2 fp,PFTs { Qh X scope t s2 H2 fp with N:=N' } G ifs ga) (hE:∀ s2 H2 fp,PF { Qh X scope t s2 H2 fp with N:=N' } G elt fe)
  (hs:∀ x,foldedSetIterable iter X.env x=pure x:=by intro _;rfl):PN X G (.ListComp elt [⟨.Name t p1,iter,ifs,0⟩] scope pos) (CK src ga fe):=λ A=>by
 rw[Vm];exact Qm N' eN c hc hi (lJ eN c) bnd1 hI hE hs A
theorem cO2 {t u:Str}(hN:X.N=N) (hs:X.env.scope=sc) (h:Lx N sc scope [t,u]=true:=by decide +kernel):CompOkL X scope [t,u]:=Qn hN hs h
def catD (x y:D):Option D:=match x,y with
 | .lst i,.lst j=>if i.length+j.length<=sizeLine then some (.lst (i++j)) else none
 | _,_=>none
theorem eF {a b:Expr}{fa fb:FE}(ha:PU X G a fa) (hb:PU X G b fb) (hG:G.K=X.K:=by rfl):PN X G (.BinOp a .Add b pos) (bF catD fa fb):=λ A=>CV (kW YS (@ha A) (@hb A)) λ σ H Q ⟨ρ,d,o,e,k⟩=>by
 obtain⟨x,y,e1,e2,e3⟩:=YQ e;refine⟨ρ,x,o,e1,λ v H1 s1 r1=>⟨ρ,y,o.mono s1,e2,λ u H2 s2 r2=>?_⟩⟩;unfold catD at e3;split at e3
 ·rename_i is js;split at e3
  ·rename_i hz;cases e3;obtain⟨l,xs,rfl,h1,q1⟩:=(r1.mono s2).lst;obtain⟨l',zs,rfl,h2,q2⟩:=r2.lst;refine⟨l,l',xs,zs,rfl,rfl,by rw[<-hG];exact h1,by rw[<-hG];exact h2,by rw[q1.1,q2.1];exact hz,λ p hp=>k p _ (s1.trans (s2.trans (Aq hp _))) (s1.free (s2.free hp)) ⟨_,Ag,?_⟩⟩;exact (q1.append q2).mono (Iw (Aq hp _) hp)
  ·cases e3
 ·cases e3
end
open Classical in
noncomputable def theD (g:GM) (P:List D->D->Prop):List D->Option D:=λ ds=>if h:∃ d,g ds [] (λ d' _=>d'=d)/\P ds d then some (choose h) else none
theorem jd {g:GM}{P:List D->D->Prop}{d:D}(h:theD g P ds=some d):g ds [] (λ d' _=>d'=d):=by
 unfold theD at h;split at h
 ·rename_i q;cases h;exact (Classical.choose_spec q).1
 ·cases h
theorem Y6 {g:GM}{P:List D->D->Prop}{d:D}(h:g ds [] λ d' _=>d'=d) (p:P ds d):∃ e,theD g P ds=some e/\P ds e:=by
 have q:∃ d,g ds [] (λ d' _=>d'=d)/\P ds d:=⟨d,h,p⟩;exact⟨Classical.choose q,dif_pos q,(Classical.choose_spec q).2⟩
section
variable {a b c:Expr}{fa fb fc:FE}{p2:Pos}{fs:FA}{h:FXM}
theorem fM {k:Nat}{x:Str}{p:Pos}{d:Dx X.K X.mg x st ps}{g:GM}(F:FnOk X.prog X.w X.K X.mg X.base CX0 k d.f d.fd ps (spM G g)) (hr:Room k' X.A) (ha:PFA X G (a::es) fs) (hle:k<=k':=by omega) (hg:Gl X x:=by rfl) (hdb:(x==("__debug__":Str))=false:=by decide)
  (he:starEach (a::es) X.env=(false,eval a X.env)::starEach es X.env:=by rfl) (hpl:(backTo pos (starEach es X.env)).any (·.1)=false:=by rfl):PMX X G (.Call (.Name x p) (a::es) [] pos) (calX g fs):=dz F (hr.mono hle) hg d.m d.F.kp d.B ha hdb he hpl
theorem sXM (hN:X.N.Nodup) (i:Nat) {x:Str}{p:Pos}(ha:PMX X G a h) (hi:X.N[i]?=some x:=by rfl) (hx:Loc X.env.scope x:=by first | exact Or.inl rfl | exact Or.inr rfl) (hs:swapsWith a (some (.Name x p)) pos.line X.env=pure false:=by rfl)
  (hf:X.fn x=true∨X.env.scope.names.lookup x=some .local :=by first | exact .inl rfl | exact .inr rfl | assumption):PSM X G (.Assign [.Name x p] a pos) (Qv i h):=di (λ _ h=>Wc hN hi hx h hs hf) ha
theorem mRem {k:Nat}{x:Str}(js:List Nat) (hr:Room k X.A) (hv:PE X (.Name x xpos) (tVar i)) (ha:PFA X G [a] fs) (hG:G.K=X.K:=by rfl) (hbase:attributeBase (.Name x xpos) "remove" X.env (eval (.Name x xpos) X.env)=eval (.Name x xpos) X.env:=by rfl)
  (hfew:((backTo pos (starEach [a] X.env)).all (λ x=>!x.1)&&(backToKw pos (keywordEach [] X.env)).all (λ x=>x.1.isSome)&&decide ([a].length+([]:List Keyword).length+(if ([]:List Keyword).isEmpty then 0 else 1)<30))=true:=by rfl)
  (hline:(apos.endLine==pos.line)=true:=by rfl) (hs:starEach [a] X.env=[(false,eval a X.env)]:=by rfl):PMX X G (.Call (.Attribute (.Name x xpos) "remove" apos) [a] [] pos) (mutX i js remM fs):=
 Y0 js z1m PySem.F.slot_list_remove PySem.F.type_list_remove (o_ hG hr.units) d8 pA hv ha hbase hfew hline hs rfl
theorem mApp {x:Str}(js:List Nat) (hv:PE X (.Name x xpos) (tVar i)) (ha:PFA X G [a] fs) (hbase:attributeBase (.Name x xpos) "append" X.env (eval (.Name x xpos) X.env)=eval (.Name x xpos) X.env:=by rfl)
  (hfew:((backTo pos (starEach [a] X.env)).all (λ x=>!x.1)&&(backToKw pos (keywordEach [] X.env)).all (λ x=>x.1.isSome)&&decide ([a].length+([]:List Keyword).length+(if ([]:List Keyword).isEmpty then 0 else 1)<30))=true:=by rfl)
  (hline:(apos.endLine==pos.line)=true:=by rfl) (hs:starEach [a] X.env=[(false,eval a X.env)]:=by rfl):PMX X G (.Call (.Attribute (.Name x xpos) "append" apos) [a] [] pos) (mutX i js appM fs):=
 Y0 js z1m PySem.F.slot_list_append PySem.F.type_list_append Kd d9 pB hv ha hbase hfew hline hs rfl
end
theorem fnM {base:Heap}{x:Str}{k:Nat}{b:FM}(d:Dx G.K mg x st ps) (S:FnScope N ps (Ab st))
  (hb:∀ (cdv:Value) (A:Around) (outer:List Env) (s:Shared) (H:Hp) (E:XK),Room k (A.deeper (envOfC x (Ab st) s.heap.objs.size d.f cdv))->PSMs (cxOf CX0 P w G.K mg base N x (Ab st) d.f cdv A outer s H E).nox G (Bb st) b) (hl:ps.length<=N.length:=by decide) :
  FnOk P w G.K mg base CX0 (k+1) d.f d.fd ps (spM G (runM N.length ps.length b)):=fn_M d.F S hl hb
theorem fnDM {base:Heap}{x:Str}{k:Nat}{b:FM}{Pr:List D->D->Prop}(d:Dx G.K mg x st ps) (S:FnScope N ps (Ab st))
  (hb:∀ (cdv:Value) (A:Around) (outer:List Env) (s:Shared) (H:Hp) (E:XK),Room k (A.deeper (envOfC x (Ab st) s.heap.objs.size d.f cdv))->PSMs (cxOf CX0 P w G.K mg base N x (Ab st) d.f cdv A outer s H E).nox G (Bb st) b) (hl:ps.length<=N.length:=by decide) :
  FnOk P w G.K mg base CX0 (k+1) d.f d.fd ps (spD G (theD (runM N.length ps.length b) Pr)):=rA d.F S hl hb λ ds d' h=>jd h
end PV
namespace PV
open PySem PySem.Spec PySem.Calls L2 EX
open PyProof.Rows hiding St
section
variable {A:Around}{r l:Addr}{items:Array Value}
end
section
variable {a:Expr}{fa:FE}{p pos2 p2:Pos}
end
end PV
namespace PV
open PySem PySem.Spec L2 EX
open PyProof.Rows hiding St
def seeM (μ:Mu):D->D
 | .adr a=>(match μ.lookup a with | some (.lst ds)=>.lst ds | _=>.adr a)
 | d=>d
def Cd (μ:Mu):Slot->Slot
 | .fz d=>.fz (seeM μ d)
 | z=>z
theorem je {μ:Mu}(o:OkM G A0 He Hb A σ H ρ μ) {v:V}{d:D}(r:Rep G (hid A H) v d):Rep G (hid (A.filter λ a=>decide (a∉ksM μ)) H) v (seeM μ d):=by
 have sb:Same (hid A H) (hid (A.filter λ a=>decide (a∉ksM μ)) H):=Cv λ a ha=>(z0q.mp ha).1;have r':=r.mono sb;unfold seeM;split
 ·rename_i a;split
  ·rename_i ds el;cases r;have hm:=lookup_mem el;obtain⟨xs,h1,h2⟩:=o.top _ hm;have na:a∉(A.filter λ a=>decide (a∉ksM μ)):=λ z=>(z12 (z0q.mp z).2) (Fp hm);exact .lst (.of (by rw[Av na];exact h1)) h2.1 (h2.mono sb).2
  ·exact r'
 ·exact r'
theorem V5 {μ:Mu}(o:OkM G A0 He Hb A σ H ρ μ) {v:V}{d:D}(r:Rep G (hid A H) v d):RepT G A H v (seeM μ d):=by
 unfold seeM;split
 ·rename_i a;split
  ·rename_i ds el;cases r;exact .inr ⟨a,rfl,o.top _ (lookup_mem el)⟩
  ·exact .inl r
 ·exact .inl r
theorem OkM.lend {μ:Mu}(o:OkM G A0 He Hb A σ H ρ μ):Okp G (A.filter λ a=>decide (a∉ksM μ)) σ H (ρ.map (Cd μ)):=by
 have getO:∀ {i:Nat}{d:D},(ρ.map (Cd μ))[i]?=some (.ow d)->ρ[i]?=some (.ow d):=λ {i d} hz=>by
  rw[z04] at hz;cases q:ρ[i]? with
  | none=>rw[q] at hz;cases hz
  | some y=>
   rw[q] at hz;cases y with
   | fz d=>cases hz
   | ow d=>cases hz;rfl
   | un=>cases hz
 refine⟨by rw[z00];exact o.w.ok.len,λ a ha=>o.w.ok.live a (z0q.mp ha).1,λ i d hz=>?_,λ i d hz=>?_,λ i j d e a h1 h2 h3 h4=>o.w.ok.inj i j d e a (getO h1) (getO h2) h3 h4⟩
 ·rw[z04] at hz;cases q:ρ[i]? with
  | none=>rw[q] at hz;cases hz
  | some y=>
   rw[q] at hz;cases y with
   | fz d0=>
    cases hz;obtain⟨v,q1,q2⟩:=o.w.ok.fz i d0 q;exact⟨v,q1,je o q2⟩
   | ow d=>cases hz
   | un=>cases hz
 ·obtain⟨a,q1,q2,q3⟩:=o.w.ok.ow i d (getO hz);have na:a∉ksM μ:=λ z=>o.w.ow0 i d a (getO hz) q1 (z0M _ z);exact⟨a,q1,z0q.mpr ⟨q2,z0g na⟩,q3.sub λ b hb=>(z0q.mp hb).1⟩
def ifL (t:FT) (g gs:FM):FM:=λ ρ μ K=>match t (ρ.map (Cd μ)) with | some true=>g ρ μ K | some false=>gs ρ μ K | none=>False
def J7 (t:FT) (b:FM):Nat->FM
 | 0=>λ _ _ _=>False
 | n+1=>λ ρ μ K=>match t (ρ.map (Cd μ)) with | some false=>K (.nx ρ) μ | some true=>b ρ μ (bdM (J7 t b n) K) | none=>False
def calN (g:GM) (fs:FA) (js:List Nat) (f:FE):FXM:=λ ρ μ K=>∃ ds c,fs ρ=some ds/\vwM js f ρ μ=some c/\∀ p,p∉ksM μ->g (ds++[.adr p]) ((p,c)::μ) K
def ifNe (h:FXM) (fb:FE) (g gs:FM):FM:=λ ρ μ K=>h ρ μ λ d μ'=>∃ y,fb ρ=some y/\(match eqD true (seeM μ' d) y with | some (.bl true)=>g ρ μ' K | some (.bl false)=>gs ρ μ' K | _=>False)
section
variable {a b c:Expr}{fa fb fc:FE}{p2 p:Pos}{fs:FA}{g gs gb:FM}{h:FXM}
theorem Kh (ht:PFT X G c ga) (h1:PSMs X G s1 g) (h2:PSMs X G s2 gs):PSM X G (.If c s1 s2 pos) (ifL ga g gs):=λ A0 He π s σ H D I ⟨ρ,μ,K,⟨A,Hb,w⟩,e,k⟩=>by
 refine VJ (@ht (A.filter λ a=>decide (a∉ksM μ))) (@h1 A0 He) (@h2 A0 He) π s σ H D I ?_;unfold ifL at e;split at e
 ·rename_i e1;exact⟨_,_,w.lend,e1,λ H1 s1=>iteT ⟨ρ,μ,K,⟨A,Hb,w.mono s1⟩,e,k⟩⟩
 ·rename_i e1;exact⟨_,_,w.lend,e1,λ H1 s1=>iteF ⟨ρ,μ,K,⟨A,Hb,w.mono s1⟩,e,k⟩⟩
 ·exact e.elim
theorem aJ (n:Nat) (hp:PassesOwn (model X.prog X.w) X.A X.env X.xe) (ht:PFT X G c ga) (hb:PSMs X G body gb):PSM X G (.While c body [] pos) (J7 ga gb n):=λ A0 He π s σ H D I ⟨ρ,μ,K,ok,e,k⟩=>by
 have ht':PT X c (λ σ H Q=>∃ A,tFT G A ga σ H Q):=λ π s σ H Q I ⟨A,q⟩=>@ht A π s σ H Q I q;refine VM hp ht' (@hb A0 He) π s σ H D I ⟨λ m σ' H'=>∃ ρ' μ',OkMS G A0 He σ' H' ρ' μ'/\J7 ga gb m ρ' μ' K,⟨n,ρ,μ,ok,e⟩,?_⟩;rintro m σ1 H1 ⟨ρ1,μ1,⟨A,Hb,w1⟩,e1⟩;cases m with
 | zero=>exact e1.elim
 | succ m=>
  unfold J7 at e1;cases e2:ga (ρ1.map (Cd μ1)) with
  | none=>simp[e2] at e1
  | some t=>
   refine⟨_,_,t,w1.lend,e2,λ H2 s2=>?_⟩;simp only[e2] at e1;cases t with
   | false=>exact iteF (k _ _ e1 σ1 H2 ⟨A,Hb,w1.mono s2⟩)
   | true=>
    refine iteT ⟨λ σ' H'=>∃ ρ' μ',OkMS G A0 He σ' H' ρ' μ'/\J7 ga gb m ρ' μ' K,λ σ' H' q=>⟨m,Nat.lt_succ_self m,q⟩,ρ1,μ1,_,⟨A,Hb,w1.mono s2⟩,e1,λ o5 μ5 q5=>?_⟩;cases o5 with
    | nx ρ5=>exact λ σ' H' ok'=>⟨ρ5,μ5,ok',q5⟩
    | ct ρ5=>exact λ σ' H' ok'=>⟨ρ5,μ5,ok',q5⟩
    | bk ρ5=>exact λ σ' H' ok'=>k _ _ q5 σ' H' ok'
    | rt d5 ρ5=>exact k _ _ q5
theorem XM (e:Aa fa fs ρ=some ds):∃ x xs,fa ρ=some x/\fs ρ=some xs/\ds=x::xs:=by
 unfold Aa at e;cases e1:fa ρ with
 | none=>simp[e1] at e
 | some d=>
  cases e2:fs ρ with
  | none=>simp[e1,e2] at e
  | some ds'=>
   simp[e1,e2] at e;exact⟨d,ds',rfl,rfl,e.symm⟩
def tAN (G:Gx) (A0:List Addr) (He:Hp) (fs:FA) (js:List Nat) (f:FE):TA:=λ σ H Q=>∃ ρ μ ds c A Hb,OkM G A0 He Hb A σ H ρ μ/\fs ρ=some ds/\vwM js f ρ μ=some c ∧
 ∀ vs q H' Hb',Same H H'->H q=none->q∉ksM μ->OkM G A0 He Hb' (q::A) σ H' ρ ((q,c)::μ)->RepL G (hid (q::A) H') vs ds->Q (vs++[.ref q]) H'
def PAN (X:Cx) (G:Gx) (es:List Expr) (fs:FA) (js:List Nat) (f:FE):Prop:=∀ ⦃A0⦄ He,PA X es (tAN G A0 He fs js f)
theorem V6 {f:FE}(js:List Nat) (hn:PN X G a f) (hs:starEach [a] X.env=[(false,eval a X.env)]:=by rfl):PAN X G [a] nilA js f:=λ A0 He pos π s σ H Q I ⟨ρ,μ,ds,c,A,Hb,w,e1,e2,k⟩=>by
 obtain⟨ρ',e3,e4⟩:=JC e2;refine Cu (@hn A) Fi hs pos π s σ H Q I ⟨ρ',c,w.view e3,e4,λ q H' sm hq t=>?_⟩;obtain⟨_,np,m⟩:=w.new sm hq t;cases e1;exact k [] q H' _ sm hq np m .nil
theorem JD {f:FE}(ha:PF X G a fa) (hr:PAN X G es fs js f) (hs:starEach (a::es) X.env=(false,eval a X.env)::starEach es X.env:=by rfl):PAN X G (a::es) (Aa fa fs) js f:=λ A0 He pos π s σ H Q I ⟨ρ,μ,ds,c,A,Hb,w,e1,e2,k⟩=>by
 obtain⟨x,xs,h1,h2,rfl⟩:=XM e1;refine Cu (@ha A) (@hr A0 He) hs pos π s σ H Q I ⟨ρ,x,w.w.ok,h1,λ v H1 s1 r1=>⟨ρ,μ,xs,c,A,Hb,w.mono s1,h2,e2,λ vs q H' Hb' s2 hq nq m rs=>?_⟩⟩;refine k (v::vs) q H' Hb' (s1.trans s2) (s1.free hq) nq m (.cons (r1.mono λ b u hb=>?_) rs);unfold hid at hb;split at hb
 ·cases hb
 ·rename_i nb;rw[Av]
  ·exact s2 b u hb
  ·intro z
   rcases z08.mp z with z | z
   ·rw[z,hq] at hb;cases hb
   ·exact nb z
theorem aK {k:Nat}{gm:GM}{x:Str}{fn:FE}(F:FnOk X.prog X.w X.K X.mg X.base CX0 k f fd ps (spM G gm)) (hr:Room k X.A) (hg:Gl X x) (hm:X.mg x=some (.ref f)) (hk:PySem.W.keepIn X.K (.ref f)=true)
  (hb:Binds X.K fd ps []) (ha:PAN X G (a::es) fs js fn) (hdb:(x==("__debug__":Str))=false:=by decide) (he:starEach (a::es) X.env=(false,eval a X.env)::starEach es X.env:=by rfl) (hpl:(backTo pos (starEach es X.env)).any (·.1)=false:=by rfl) :
  PMX X G (.Call (.Name x p) (a::es) [] pos) (calN gm fs js fn):=λ A0 He π s σ H Q I ⟨ρ,μ,K,⟨A,Hb,w⟩,⟨ds,c,e1,e2,e3⟩,k⟩=>by
 refine S8 F hr hg hm hk hb .nil Ry (@ha A0 He) hdb he hpl π s σ H Q I ⟨ρ,μ,ds,c,A,Hb,w,e1,e2,λ vs q H1 Hb' s1 hq nq m r1=>?_⟩;show spM G gm (vs++[.ref q]++[]) H1 Q E0;rw[z0w];exact dw m (r1.append (.cons (.adr q) .nil)) (e3 q nq) k
theorem eG (hG:G.K=X.K) (hu:X.A.units+190<cLine) (ha:PMX X G a h) (hb:PF X G b fb) (h1:PSMs X G s1 g) (h2:PSMs X G s2 gs) (hm:behindInMarks .NotEq b=false):PSM X G (.If (.Compare a [.NotEq] [b] pos) s1 s2 p2) (ifNe h fb g gs):=λ A0 He π s σ H D I ⟨ρ,μ,K,ok,e,k⟩=>by
 have hb':PE X b (λ σ H Q=>∃ A,tF G A fb σ H Q):=λ π s σ H Q I ⟨A,q⟩=>@hb A π s σ H Q I q;refine VJ (S7 (W2 hG hu) (@ha A0 He) hb' hm) (@h1 A0 He) (@h2 A0 He) π s σ H D I ⟨ρ,μ,_,ok,e,λ v H' d μ' A Hb ⟨y,ey,q⟩ w r=>⟨A,ρ,y,w.w.ok,ey,λ yv H2 s2 r2=>?_⟩⟩;have w2:=w.mono s2;split at q
 ·rename_i eq;exact M_ true A H2 v yv _ y (.bl true) _ w2.w.ok.live (V5 w2 (r.mono (Ar s2))) (.inl r2) eq λ vv H3 s3 r3=>by
   cases r3;exact⟨true,rfl,iteT ⟨ρ,μ',K,⟨A,Hb,w2.mono s3⟩,q,k⟩⟩
 ·rename_i eq;exact M_ true A H2 v yv _ y (.bl false) _ w2.w.ok.live (V5 w2 (r.mono (Ar s2))) (.inl r2) eq λ vv H3 s3 r3=>by
   cases r3;exact⟨false,rfl,iteF ⟨ρ,μ',K,⟨A,Hb,w2.mono s3⟩,q,k⟩⟩
 ·exact q.elim
def clrM:D->List D->Option (D×D)
 | .lst _,[]=>some (.non,.lst [])
 | _,_=>none
theorem mClr {x:Str}(hv:PE X (.Name x xpos) (tVar i)) (hbase:attributeBase (.Name x xpos) "clear" X.env (eval (.Name x xpos) X.env)=eval (.Name x xpos) X.env:=by rfl) (hline:(apos.endLine==pos.line)=true:=by rfl) :
  PMX X G (.Call (.Attribute (.Name x xpos) "clear" apos) [] [] pos) (mutX i [] clrM nilA):=λ A0 He π s σ H Q I ⟨ρ,μ,K,⟨A,Hb,w⟩,⟨ds,l,c,v,c',e1,hi,hl,e2,q⟩,k⟩=>by
 have hm':=lookup_mem hl;obtain⟨ρ',e3,e4⟩:=JC e1;cases e4;unfold clrM at e2;split at e2
 ·rename_i ds;cases e2;obtain⟨xs,h1,h2⟩:=w.top _ hm';refine nQ z1m PySem.F.slot_list_clear PySem.F.type_list_clear bO hv hbase hline π s σ H Q I ⟨_,w.at hi,XJ (w.top _ hm'),l,xs,rfl,rfl,h1,?_⟩;exact k _ _ _ _ A _ q (w.wr (Fp hm') (λ b o nb hb=>by rw[Al nb];exact hb) ⟨[],Ag,.nil⟩) .non
 ·cases e2
end
section
variable {a b:Expr}{fs:FA}
def lZ (X:Cx):List V->Hp->VK->Prop:=λ xs H Q=>∃ p ns,xs=[.ref p]/\SqL X.K H p (ns.map V.int)/\ns.length<=60/\∀ l,H l=none->Q (.ref l) (upd H l (.lst ((PySem.W.sortI ns).map V.int)))
theorem Uq:Do X (.builtin "sorted") (lZ X):=by
 intro π s σ H xs us Q I r h;obtain⟨p,ns,rfl,hs,hz,k⟩:=h;obtain⟨u,rfl,ru⟩:=r.one;cases ru;obtain⟨its,rv,pl,hz'⟩:=I.list hs;have hl:=rv.length;rw[z00] at hl;refine sorted_ints pl.isList (intsAre_of rv) (by omega) λ out ns' h1 h2 h3=>?_;have e:=PySem.W.eq_sortI h2 h3;subst e;obtain⟨c,hc⟩:=sortedAll_at s.heap its out;refine⟨.ref _,_,I.laid (a:=s.heap.objs.size+1) (o:=.lst ((PySem.W.sortI ns).map V.int)) (t':=s.toks) (λ b o e=>sortedAll_old e) (z0V _) ⟨?_,out.toList,c,M3 h1,by simpa [seqObj] using hc⟩,rfl,k _ (I.hok.fresh (z0V _))⟩;rw[z00,h2.length_eq];exact z0t hz (by decide)
def Kw:List D->Option (List Int)
 | []=>some []
 | .int i::r=>(Kw r).map (i::·)
 | _::_=>none
theorem V7:∀ {ds:List D}{ns:List Int},Kw ds=some ns->ds=ns.map .int
 | [],ns,h=>by cases h;rfl
 | d::r,ns,h=>by
  cases d with
  | int i=>
   cases e:Kw r with
   | none=>simp[Kw,e] at h
   | some m=>
    simp[Kw,e] at h;subst h;rw[V7 e];rfl
  | _=>cases h
theorem aL (ns:List Int):Kw (ns.map .int)=some ns:=by
 induction ns with
 | nil=>rfl
 | cons i r ih=>show (Kw (r.map .int)).map (i::·)=_;rw[ih];rfl
def srtI:D->Option D
 | .lst ds=>(Kw ds).bind λ ns=>if ns.length<=60 then some (.lst ((PySem.W.sortI ns).map .int)) else none
 | _=>none
theorem Sh {F:Hp}:∀ {ns:List Int}{xs:List V},RepL G F xs (ns.map .int)->xs=ns.map V.int
 | [],xs,r=>r.nil_inv
 | i::ns,xs,r=>by
  obtain⟨x,ys,rfl,r1,r2⟩:=r.uncons;cases r1;rw[Sh r2];rfl
theorem eO (hG:G.K=X.K):SndC G (lZ X) srtI:=by
 intro A H x dx d Q lv r e k;cases dx with
 | lst ds=>
  obtain⟨p,xs,rfl,h1,rr⟩:=r.lst;cases ez:Kw ds with
  | none=>simp[srtI,ez] at e
  | some ns=>
   have e':(if ns.length<=60 then some (D.lst ((PySem.W.sortI ns).map .int)) else none)=some d:=by simpa [srtI,ez] using e
   split at e'
   ·rename_i hz;cases e';have ed:=V7 ez;subst ed;have ex:=Sh rr;subst ex;refine⟨p,ns,rfl,hG▸h1,hz,λ l hl=>k _ _ (Aq hl _) (Bs lv hl ⟨by simp,λ i v d h1 h2=>?_⟩)⟩;rw[z04] at h1 h2;cases q:(PySem.W.sortI ns)[i]? with
    | none=>rw[q] at h1;cases h1
    | some z=>rw[q] at h1 h2;cases h1;cases h2;exact .int z
   ·cases e'
 | _=>cases e
theorem fMN {k:Nat}{x:Str}{p:Pos}{d:Dx X.K X.mg x st ps}{g:GM}{fn:FE}(F:FnOk X.prog X.w X.K X.mg X.base CX0 k d.f d.fd ps (spM G g)) (hr:Room k' X.A) (ha:PAN X G (a::es) fs js fn) (hle:k<=k':=by omega) (hg:Gl X x:=by rfl) (hdb:(x==("__debug__":Str))=false:=by decide)
  (he:starEach (a::es) X.env=(false,eval a X.env)::starEach es X.env:=by rfl) (hpl:(backTo pos (starEach es X.env)).any (·.1)=false:=by rfl):PMX X G (.Call (.Name x p) (a::es) [] pos) (calN g fs js fn):=aK F (hr.mono hle) hg d.m d.F.kp d.B ha hdb he hpl
end
theorem eQ {w:PySem.World}{K:zFr}{base:Heap}{k:Nat}:FnOk P w K mg base CX0 k f fd ps (spM G λ _ _ _=>False):=
 ⟨λ vs H Q E ⟨_,_,_,_,_,_,_,_,h,_⟩=>h.elim,λ A outer s H args us vs Q E hr he hb hv ⟨_,_,_,_,_,_,_,_,h,_⟩=>h.elim⟩
end PV
namespace K32
open PySem L2 PV
abbrev cs (x:Str):List Nat:=x.cps.toList
def LET:Str:="abcdefghijklmnopqrstuvwxyz"
def IsL (x:Str):Prop:=∀ c∈cs x,c∈cs LET
def KEPT:List Str:=["not","and","or","some","all"]
structure Wd (x:Str):Prop where
 lo:1<=x.length
 hi:x.length<=8
 isL:IsL x
 kept:x∉KEPT
structure Wl where
 n:Nat
 ms:List (Str×List Nat)
 ts:List (Str×List (Nat×Nat))
abbrev iN (t:Nat):D:=.int (t:Int)
abbrev pN (q:Nat×Nat):D:=.tup [.int (q.1:Int),.int (q.2:Int)]
def lM (l:List Nat):D:=.lst (l.map iN)
def lT (l:List (Nat×Nat)):D:=.lst (l.map pN)
def eM (ms:List (Str×List Nat)):List (Key×D):=ms.map λ p=>(.inr p.1,lM p.2)
def eT (ts:List (Str×List (Nat×Nat))):List (Key×D):=ts.map λ p=>(.inr p.1,lT p.2)
def kM (l:List Nat):D:=.dk (l.map λ (t:Nat)=>((.inl (t:Int):Key),.bl true))
def kT (l:List (Nat×Nat)):D:=.dt (l.map λ q=>([(.inl (q.1:Int):Key),.inl (q.2:Int)],.bl true))
def oM (ms:List (Str×List Nat)):List (Key×D):=ms.map λ p=>(.inr p.1,kM p.2)
def oT (ts:List (Str×List (Nat×Nat))):List (Key×D):=ts.map λ p=>(.inr p.1,kT p.2)
def wob (W:Wl):D:=.ob "World" [("size",.int W.n),("marked",.dk (oM W.ms)),("tied",.dk (oT W.ts))]
structure WOk (W:Wl):Prop where
 n5:W.n<=5
 m3:W.ms.length<=3
 t3:W.ts.length<=3
 mw:∀ p∈W.ms,Wd p.1
 tw:∀ p∈W.ts,Wd p.1
 nd:(W.ms.map (·.1)++W.ts.map (·.1)).Nodup
 ml:∀ p∈W.ms,p.2.Nodup/\p.2.length<=100/\∀ t∈p.2,t<W.n
 tl:∀ p∈W.ts,p.2.Nodup/\p.2.length<=100/\∀ q∈p.2,q.1<W.n/\q.2<W.n
def wd (W:Wl):D:=.lst [.int (W.n:Int),.dk (eM W.ms),.dk (eT W.ts)]
def lN (os:List Nat):D:=.lst (os.map iN)
def mvd (os:List Nat) (W:Wl):Wl:=⟨W.n,(W.ms.map λ p=>(p.1,p.2.map λ t=>os.getD t 0)).reverse,(W.ts.map λ p=>(p.1,p.2.map λ q=>(os.getD q.1 0,os.getD q.2 0))).reverse⟩
structure Two (c8:Int) (m:Nat) (W V:Wl) (os:List Nat):Prop where
 w:WOk W
 v:WOk V
 wn:W.n<=m
 vn:V.n<=m
 mm:(V.ms.map (·.1)).Perm (W.ms.map (·.1))
 tt:(V.ts.map (·.1)).Perm (W.ts.map (·.1))
 pm:os.Perm (List.range W.n)
 al:c8%4=1∨c8%4=2->V=mvd os W
def Good (ds:List D) (d:D):Prop:=∃ (ns:List Int) (m:Nat) (W V:Wl) (os:List Nat),ds=[.lst (ns.map .int),.int (m:Int)]/\d=.lst [wd W,wd V,lN os]/\Two (ns.getD 8 0) m W V os
def lr (_:List D) (d:D):Prop:=d=.bl true
end K32
namespace K32
open PySem PySem.Spec L2 PV EX
open PyProof.Rows hiding St
noncomputable section
def c_KEPT_TEXTS:D:=(.tup ((["not","and","or","some","all"]:List Str).map .str))
def Nh:FT:=blF (bF ltD (vF 5) (vF 1))
def Ni:FE:=vF 5
def Nj:FS:=putF 2 (vF 4) (CK (seqA (bF ixE (bF ixE (vF 0) (kF (.int 1))) (vF 4))) (Nh) (Ni))
def Nk:FT:=andT (blF (bF ltD (bF ixE (vF 5) (kF (.int 0))) (vF 1))) (blF (bF ltD (bF ixE (vF 5) (kF (.int 1))) (vF 1)))
def Np:FE:=vF 5
def Nq:FS:=putF 3 (vF 4) (CK (seqA (bF ixE (bF ixE (vF 0) (kF (.int 2))) (vF 4))) (Nk) (Np))
def HF:FS:=seqF (ifS (blF (bF leD (bF ixE (vF 0) (kF (.int 0))) (vF 1))) (retF (vF 0)) (nxF)) (seqF (setW 2 (kF (.dk []))) (seqF (setW 3 (kF (.dk []))) (seqF (forS (seqA (bF ixE (vF 0) (kF (.int 1)))) (Ay 4) (Nj)) (seqF (forS (seqA (bF ixE (vF 0) (kF (.int 2)))) (Ay 4) (Nq)) (fzS [2,3] (retF (lstF (Aa (vF 1) (Aa (vF 2) (Aa (vF 3) (nilA)))))))))))
def Dd:List D->Option D:=runF 5 2 HF
def Hq:FS:=seqF (ifS (blF (bF ltD (vF 1) (uF lenD (vF 0)))) (retF (bF ixD (vF 0) (vF 1))) (nxF)) (retF (kF (.int 0)))
def Ah:List D->Option D:=runF 2 2 Hq
def Be:FT:=blF (bF (eqD true) (vU 2) (lstF (nilA)))
def Bj:FS:=seqF (appX 3 (popX 2 (bF modD (vF 0) (uF lenD (vU 2))))) (setF 0 (bF DX (vF 0) (bF addD (uF lenD (vU 2)) (kF (.int 1)))))
def Jb:FS:=seqF (setW 2 (uF SM (vF 1))) (seqF (setW 3 (lstF (nilA))) (seqF (Fj (Be) (Bj) 60) (fzS [3] (retF (vF 3)))))
def Gs:List D->Option D:=runF 4 2 Jb
def Dv:FE:=bF ixE (vF 1) (vF 5)
def Dw:FM:=V1 2 (vF 4) (newX (CK (seqA (bF ixE (bF ixE (vF 0) (kF (.int 1))) (vF 4))) (allT) (Dv)))
def Dy:FE:=tupF (Aa (bF ixE (vF 1) (vF 5)) (Aa (bF ixE (vF 1) (vF 6)) (nilA)))
def Dz:FM:=V1 3 (vF 4) (newX (V4 (seqA (bF ixE (bF ixE (vF 0) (kF (.int 2))) (vF 4))) (allT) (Dy)))
def Fz:FM:=seqM (puM (setW 2 (kF (.dk [])))) (seqM (puM (setW 3 (kF (.dk [])))) (seqM (forM (revI (uF J6 (bF ixE (vF 0) (kF (.int 1))))) (Ay 4) (Dw)) (seqM (forM (revI (uF J6 (bF ixE (vF 0) (kF (.int 2))))) (Ay 4) (Dz)) (puM (fzS [2,3] (retF (lstF (Aa (bF ixE (vF 0) (kF (.int 0))) (Aa (vF 2) (Aa (vF 3) (nilA)))))))))))
def Ia:GM:=runM 5 2 Fz
def De:FS:=seqF (setF 10 (bF addD (bF addD (bF DX (vF 3) (bF addD (vF 9) (kF (.int 3)))) (bF mulD (vF 9) (vF 9))) (bF mulD (uF intD (bF (eqD false) (vF 9) (vF 5))) (vF 7)))) (setF 8 (bF addD (vF 8) (bF ixE (vF 2) (bF modD (vF 10) (kF (.int 26))))))
def Df:FS:=seqF (setF 8 (kF (.str ""))) (seqF (forS (rngI (vF 4)) (Ay 9) (De)) (seqF (ifS (blF (bF (inF false) (vF 8) (lstF (Aa (kF (.str "not")) (Aa (kF (.str "and")) (Aa (kF (.str "or")) (Aa (kF (.str "some")) (Aa (kF (.str "all")) (nilA))))))))) (setF 8 (bF addD (vF 8) (kF (.str "x")))) (nxF)) (mutF appL 6 (vF 8))))
def Jc:FS:=seqF (setF 2 (kF (.str "abcdefghijklmnopqrstuvwxyz"))) (seqF (setF 3 (bF modD (vF 0) (kF (.int 2147483629)))) (seqF (setF 4 (bF addD (kF (.int 1)) (bF modD (vF 3) (kF (.int 8))))) (seqF (setF 5 (bF modD (bF DX (vF 3) (kF (.int 8))) (vF 4))) (seqF (setW 6 (lstF (nilA))) (seqF (forS (rngI (vF 1)) (Ay 7) (Df)) (fzS [6] (retF (vF 6))))))))
def Gu:List D->Option D:=runF 11 2 Jc
def DK:FS:=ifS (blF (bF (eqD false) (bF modD (vF 0) (kF (.int 3))) (kF (.int 0)))) (mutF appL 2 (bF (eqD false) (bF modD (bF DX (bF DX (vF 0) (kF (.int 3))) (bF shlD (kF (.int 1)) (vF 4))) (kF (.int 2))) (kF (.int 1)))) (seqF (setF 3 (bF modD (bF addD (bF addD (bF addD (bF mulD (vF 3) (vF 3)) (bF mulD (kF (.int 48271)) (vF 3))) (vF 4)) (kF (.int 1))) (kF (.int 2147483629)))) (mutF appL 2 (bF (eqD false) (bF modD (bF DX (vF 3) (kF (.int 7))) (bF mulD (kF (.int 2)) (bF modD (vF 0) (kF (.int 3))))) (kF (.int 0)))))
def J8:FS:=seqF (setW 2 (lstF (nilA))) (seqF (setF 3 (bF modD (bF DX (vF 0) (kF (.int 3))) (kF (.int 2147483629)))) (seqF (forS (rngI (vF 1)) (Ay 4) (DK)) (fzS [2] (retF (vF 2)))))
def Dg:List D->Option D:=runF 5 2 J8
def HH:FT:=trF (bF ixE (vF 9) (vF 10))
def J9:FE:=vF 10
def HJ:FT:=trF (bF ixE (vF 9) (vF 10))
def HN:FE:=tupF (Aa (bF DX (vF 10) (vF 3)) (Aa (bF modD (vF 10) (vF 3)) (nilA)))
def Bw:FS:=ifS (blF (bF ltD (vF 8) (vF 4))) (seqF (setF 9 (An (Dg) (Aa (An (Ah) (Aa (vF 0) (Aa (bF addD (bF addD (vF 1) (kF (.int 2))) (vF 8)) (nilA)))) (Aa (vF 3) (nilA))))) (putF 6 (bF ixE (vF 5) (vF 8)) (CK (rngI (vF 3)) (HH) (J9)))) (seqF (setF 9 (An (Dg) (Aa (An (Ah) (Aa (vF 0) (Aa (bF subD (bF addD (bF addD (vF 1) (kF (.int 5))) (vF 8)) (vF 4)) (nilA)))) (Aa (bF mulD (vF 3) (vF 3)) (nilA))))) (putF 7 (bF ixE (vF 5) (vF 8)) (CK (rngI (bF mulD (vF 3) (vF 3))) (HJ) (HN))))
def Jd:FS:=seqF (setF 2 (An (Ah) (Aa (vF 0) (Aa (vF 1) (nilA))))) (seqF (setF 3 (bF ixE (lstF (Aa (bF modD (bF DX (vF 2) (kF (.int 9))) (kF (.int 5))) (Aa (kF (.int 5)) (nilA)))) (uF intD (bF (eqD false) (bF modD (bF DX (vF 2) (kF (.int 45))) (kF (.int 12))) (kF (.int 11)))))) (seqF (setF 4 (bF modD (vF 2) (kF (.int 4)))) (seqF (setF 5 (An (Gu) (Aa (An (Ah) (Aa (vF 0) (Aa (bF addD (vF 1) (kF (.int 1))) (nilA)))) (Aa (bF addD (vF 4) (bF modD (bF DX (vF 2) (kF (.int 4))) (kF (.int 4)))) (nilA))))) (seqF (setW 6 (kF (.dk []))) (seqF (setW 7 (kF (.dk []))) (seqF (forS (rngI (uF lenE (vF 5))) (Ay 8) (Bw)) (fzS [6,7] (retF (lstF (Aa (vF 3) (Aa (vF 6) (Aa (vF 7) (nilA)))))))))))))
def Et:List D->Option D:=runF 10 2 Jd
def F_:FM:=seqM (puM (setF 2 (uF Sg (bF ixE (vF 0) (kF (.int 1)))))) (seqM (puM (ifS (andT (blF (bF (eqF true) (vF 2) (lstF (nilA)))) (andT (blF (bF gtD (bF ixE (vF 0) (kF (.int 0))) (kF (.int 0)))) (orT (blF (bF (eqF false) (bF modD (vF 1) (kF (.int 2))) (kF (.int 0)))) (blF (bF (eqF false) (bF ixE (vF 0) (kF (.int 2))) (kF (.dk []))))))) (seqF (setF 3 (bF modD (bF DX (vF 1) (kF (.int 2))) (bF ixE (vF 0) (kF (.int 0))))) (setF 4 (bF ixE (vF 2) (bF modD (bF DX (vF 1) (kF (.int 10))) (uF lenE (vF 2)))))) (ifS (andT (blF (bF (eqF true) (bF ixE (vF 0) (kF (.int 2))) (kF (.dk [])))) (blF (bF gtD (bF ixE (vF 0) (kF (.int 0))) (kF (.int 0))))) (seqF (setF 2 (uF Sg (bF ixE (vF 0) (kF (.int 2))))) (seqF (setF 3 (tupF (Aa (bF modD (bF DX (vF 1) (kF (.int 2))) (bF ixE (vF 0) (kF (.int 0)))) (Aa (bF modD (bF DX (vF 1) (kF (.int 10))) (bF ixE (vF 0) (kF (.int 0)))) (nilA))))) (setF 4 (bF ixE (vF 2) (bF modD (bF DX (vF 1) (kF (.int 50))) (uF lenE (vF 2))))))) (retN)))) (ifM [4] (blF (bF (inF false) (vF 3) (vU 4))) (Qw (mutX 4 [] remM (Aa (vF 3) (nilA)))) (Qw (mutX 4 [] appM (Aa (vF 3) (nilA))))))
def Ib:GM:=runM 5 2 F_
def HQ:FT:=trF (bF ixE (vF 9) (vF 10))
def J_:FE:=vF 10
def Eu:FS:=seqF (setF 7 (bF addD (vF 7) (kF (.int 1)))) (seqF (setF 9 (An (Dg) (Aa (An (Ah) (Aa (vF 0) (Aa (vF 7) (nilA)))) (Aa (vF 4) (nilA))))) (putF 5 (vF 8) (CK (rngI (vF 4)) (HQ) (J_))))
def HR:FT:=trF (bF ixE (vF 9) (vF 10))
def HS:FE:=tupF (Aa (bF DX (vF 10) (vF 4)) (Aa (bF modD (vF 10) (vF 4)) (nilA)))
def Ew:FS:=seqF (setF 7 (bF addD (vF 7) (kF (.int 1)))) (seqF (setF 9 (An (Dg) (Aa (An (Ah) (Aa (vF 0) (Aa (vF 7) (nilA)))) (Aa (bF mulD (vF 4) (vF 4)) (nilA))))) (putF 6 (vF 8) (CK (rngI (bF mulD (vF 4) (vF 4))) (HR) (HS))))
def Je:FS:=seqF (setF 4 (bF ixE (lstF (Aa (bF ixE (vF 2) (kF (.int 0))) (Aa (bF modD (bF DX (An (Ah) (Aa (vF 0) (Aa (vF 1) (nilA)))) (kF (.int 8))) (bF addD (vF 3) (kF (.int 1)))) (nilA)))) (bF modD (bF DX (An (Ah) (Aa (vF 0) (Aa (vF 1) (nilA)))) (kF (.int 4))) (kF (.int 2))))) (seqF (setW 5 (kF (.dk []))) (seqF (setW 6 (kF (.dk []))) (seqF (setF 7 (vF 1)) (seqF (forS (seqA (bF ixE (vF 2) (kF (.int 1)))) (Ay 8) (Eu)) (seqF (forS (seqA (bF ixE (vF 2) (kF (.int 2)))) (Ay 8) (Ew)) (fzS [5,6] (retF (lstF (Aa (vF 4) (Aa (vF 5) (Aa (vF 6) (nilA))))))))))))
def Ex:List D->Option D:=runF 10 4 Je
def Cy:FM:=seqM (puM (setF 2 (An (Dd) (Aa (An (Et) (Aa (vF 0) (Aa (kF (.int 0)) (nilA)))) (Aa (vF 1) (nilA)))))) (seqM (puM (setF 3 (An (Ah) (Aa (vF 0) (Aa (kF (.int 8)) (nilA)))))) (seqM (puM (setF 4 (An (Gs) (Aa (An (Ah) (Aa (vF 0) (Aa (kF (.int 15)) (nilA)))) (Aa (bF ixE (vF 2) (kF (.int 0))) (nilA)))))) (seqM (puM (ifS (blF (bF (eqD false) (bF modD (vF 3) (kF (.int 4))) (kF (.int 0)))) (retF (lstF (Aa (vF 2) (Aa (An (Ex) (Aa (vF 0) (Aa (kF (.int 8)) (Aa (vF 2) (Aa (vF 1) (nilA)))))) (Aa (vF 4) (nilA)))))) (nxF))) (seqM (Qv 5 (calX (Ia) (Aa (vF 2) (Aa (vF 4) (nilA))))) (seqM (ifM [] (blF (bF (eqD false) (bF modD (vF 3) (kF (.int 4))) (kF (.int 3)))) (Qw (calX (Ib) (Aa (vF 5) (Aa (An (Ah) (Aa (vF 0) (Aa (kF (.int 16)) (nilA)))) (nilA))))) (nxM)) (frzM 3 (puM (retF (lstF (Aa (vF 2) (Aa (vF 5) (Aa (vF 4) (nilA)))))))))))))
def HW:List D->Option D:=theD (runM 6 2 Cy) Good
def HX:FS:=ifS (blF (bF gtD (vF 0) (vF 1))) (badF) (nxF)
def Bf:List D->Option D:=runF 2 2 HX
def Ey:FS:=ifS (orT (blF (bF ltD (vF 1) (kF (.int 0)))) (blF (bF geD (vF 1) (vF 0)))) (badF) (nxF)
def BL:List D->Option D:=runF 2 2 Ey
def D_:FS:=seqF (Ff (An (BL) (Aa (vF 0) (Aa (vF 3) (nilA))))) (putF 2 (vF 3) (kF (.bl true)))
def Ie:FS:=seqF (setW 2 (kF (.dk []))) (seqF (forS (seqA (vF 1)) (Ay 3) (D_)) (fzS [2] (retF (vF 2))))
def DN:List D->Option D:=runF 4 2 Ie
def Ez:FS:=seqF (Ff (An (BL) (Aa (vF 0) (Aa (vF 3) (nilA))))) (seqF (Ff (An (BL) (Aa (vF 0) (Aa (vF 4) (nilA))))) (Vp 2 (Aa (vF 3) (Aa (vF 4) (nilA))) (kF (.bl true))))
def Jf:FS:=seqF (setW 2 (kF (.dt []))) (seqF (forS (seqA (vF 1)) (tupG 2 (BZ 3 (BZ 4 (nilG)))) (Ez)) (fzS [2] (retF (vF 2))))
def Dm:List D->Option D:=runF 5 2 Jf
def Gd:FE:=bF (inF false) (vF 1) (kF (.str "abcdefghijklmnopqrstuvwxyz"))
def Nr:FS:=seqF (ifS (orT (blF (bF (inF false) (vF 0) (kF c_KEPT_TEXTS))) (orT (blF (bF (eqD false) (uF lenE (vF 0)) (kF (.int 0)))) (blF (bF gtD (uF lenE (vF 0)) (kF (.int 8)))))) (retF (kF (.bl false))) (nxF)) (retF (uF allD (CK (seqA (vF 0)) (allT) (Gd))))
def Dn:List D->Option D:=runF 1 1 Nr
def Bx:FEs:=HB (ifE (Qp (notT (trF (An (Dn) (Aa (vF 4) (nilA))))))) (Od "marked" (vF 4) (An (DN) (Aa (vF 1) (Aa (vF 5) (nilA)))))
def By:FEs:=HB (ifE (orTE (Qp (notT (trF (An (Dn) (Aa (vF 4) (nilA)))))) (inTE "marked" (vF 4)))) (Od "tied" (vF 4) (An (Dm) (Aa (vF 1) (Aa (vF 6) (nilA)))))
def Fq:FEs:=HB (pureE (Ff (An (Bf) (Aa (vF 1) (Aa (kF (.int 5)) (nilA)))))) (HB (pureE (Ff (An (Bf) (Aa (uF lenE (vF 2)) (Aa (kF (.int 3)) (nilA)))))) (HB (pureE (Ff (An (Bf) (Aa (uF lenE (vF 3)) (Aa (kF (.int 3)) (nilA)))))) (HB (Yg "size" (vF 1)) (HB (Oc "marked" (kF (.dk []))) (HB (Oc "tied" (kF (.dk []))) (HB (forE (LC (vF 2)) (tupG 2 (BZ 4 (BZ 5 (nilG)))) (Bx)) (HB (forE (LC (vF 3)) (tupG 2 (BZ 4 (BZ 6 (nilG)))) (By)) (nilE))))))))
def Bu:Addr->List D->Option Ef:=runI 7 4 Fq
def Az:FS:=ifS (andT (blF (bF gtD (bF ixE (vF 1) (kF (.int 0))) (kF (.int 0)))) (blF (bF gtD (bF ixE (vF 2) (kF (.int 0))) (kF (.int 0))))) (seqF (setF 6 (bF modD (bF DX (vF 5) (kF (.int 2))) (bF ixE (vF 1) (kF (.int 0))))) (seqF (setF 7 (bF modD (bF DX (vF 5) (kF (.int 10))) (bF ixE (vF 2) (kF (.int 0))))) (seqF (ifS (andT (blF (bF (eqD false) (bF modD (vF 5) (kF (.int 2))) (kF (.int 1)))) (blF (bF (eqD false) (bF ixE (vF 1) (kF (.int 0))) (bF ixE (vF 2) (kF (.int 0)))))) (setF 7 (bF ixE (vF 3) (vF 6))) (nxF)) (mutF appL 4 (tupF (Aa (vF 6) (Aa (vF 7) (nilA)))))))) (nxF)
def Jg:FS:=seqF (setW 4 (lstF (nilA))) (seqF (forS (seqA (vF 0)) (Ay 5) (Az)) (fzS [4] (retF (vF 4))))
def Gv:List D->Option D:=runF 8 4 Jg
def Ed:FS:=retF (uF sdkD (uF (fldD "marked") (vF 0)))
def B_:List D->Option D:=runF 1 1 Ed
def E_:FS:=retF (uF sdkD (uF (fldD "tied") (vF 0)))
def Ce:List D->Option D:=runF 1 1 E_
def Gj:FS:=ifS (orT (blF (bF (eqD true) (MJ "World" "mark_words" (B_) (vF 0) nilA) (MJ "World" "mark_words" (B_) (vF 1) nilA))) (blF (bF (eqD true) (MJ "World" "tie_words" (Ce) (vF 0) nilA) (MJ "World" "tie_words" (Ce) (vF 1) nilA)))) (badF) (nxF)
def EY:List D->Option D:=runF 2 2 Gj
def Bh:FS:=seqF (Ff (An (BL) (Aa (uF (fldD "size") (vF 0)) (Aa (vF 3) (nilA))))) (Ff (An (BL) (Aa (uF (fldD "size") (vF 1)) (Aa (vF 4) (nilA)))))
def Cz:FS:=seqF (Ff (An (EY) (Aa (vF 0) (Aa (vF 1) (nilA))))) (forS (seqA (vF 2)) (tupG 2 (BZ 3 (BZ 4 (nilG)))) (Bh))
def Bq:List D->Option D:=runF 5 3 Cz
def FJ:FS:=ifS (blF (bF (eqD true) (bF (inF false) (bF ixE (vF 2) (kF (.int 0))) (bF ixE (uF (fldD "marked") (vF 0)) (vF 3))) (bF (inF false) (bF ixE (vF 2) (kF (.int 1))) (bF ixE (uF (fldD "marked") (vF 1)) (vF 3))))) (retF (kF (.bl false))) (nxF)
def Gk:FS:=seqF (forS (seqA (uF (fldD "marked") (vF 0))) (Ay 3) (FJ)) (retF (kF (.bl true)))
def Ea:List D->Option D:=runF 4 3 Gk
def FN:FS:=ifS (blF (bF (eqD true) (inTF (Aa (bF ixE (vF 2) (kF (.int 0))) (Aa (bF ixE (vF 3) (kF (.int 0))) (nilA))) (bF ixE (uF (fldD "tied") (vF 0)) (vF 4))) (inTF (Aa (bF ixE (vF 2) (kF (.int 1))) (Aa (bF ixE (vF 3) (kF (.int 1))) (nilA))) (bF ixE (uF (fldD "tied") (vF 1)) (vF 4))))) (retF (kF (.bl false))) (nxF)
def Gm:FS:=seqF (forS (seqA (uF (fldD "tied") (vF 0))) (Ay 4) (FN)) (retF (kF (.bl true)))
def CP:List D->Option D:=runF 5 4 Gm
def Ig:FS:=seqF (ifS (blF (bF (eqD true) (bF (eqD false) (bF ixE (vF 2) (kF (.int 0))) (bF ixE (vF 3) (kF (.int 0)))) (bF (eqD false) (bF ixE (vF 2) (kF (.int 1))) (bF ixE (vF 3) (kF (.int 1)))))) (retF (kF (.bl false))) (nxF)) (retF (andF (An (CP) (Aa (vF 0) (Aa (vF 1) (Aa (vF 2) (Aa (vF 3) (nilA)))))) (An (CP) (Aa (vF 0) (Aa (vF 1) (Aa (vF 3) (Aa (vF 2) (nilA))))))))
def GC:List D->Option D:=runF 4 4 Ig
def Ih:FE:=An (GC) (Aa (vF 0) (Aa (vF 1) (Aa (vF 4) (Aa (vF 3) (nilA)))))
def KC:FS:=seqF (ifS (orT (notT (trF (An (Ea) (Aa (vF 0) (Aa (vF 1) (Aa (vF 3) (nilA))))))) (notT (trF (An (CP) (Aa (vF 0) (Aa (vF 1) (Aa (vF 3) (Aa (vF 3) (nilA))))))))) (retF (kF (.bl false))) (nxF)) (retF (uF allD (CK (seqA (vF 2)) (allT) (Ih))))
def Ge:List D->Option D:=runF 4 4 KC
def Ii (rec_completed:GM):FM:=seqM (Qv 5 (pvX [3] (tupF (Aa (uF lenE (vU 3)) (Aa (vF 4) (nilA)))))) (ifL (trF (An (Ge) (Aa (vF 0) (Aa (vF 1) (Aa (vF 2) (Aa (vF 5) (nilA))))))) (seqM (Qv 6 (calN (rec_completed) (Aa (vF 0) (Aa (vF 1) (Aa (bF addD (vF 2) (lstF (Aa (vF 5) (nilA)))) (nilA)))) [3] (bF catD (vU 3) (lstF (Aa (vF 4) (nilA)))))) (ifL (blF (uF (isND true) (vF 6))) (puM (retF (vF 6))) (nxM))) (nxM))
def Oh (rec_completed:GM):FM:=seqM (ifL (blF (bF (eqD false) (uF lenE (vF 3)) (uF (fldD "size") (vF 0)))) (puM (retF (vF 3))) (nxM)) (seqM (forM (rngI (uF (fldD "size") (vF 1))) (Ay 4) ((Ii rec_completed))) (puM (retF (kF .non))))
def Dh:Nat->GM
 | 0=>λ _ _ _=>False
 | n+1=>runM 7 4 (Oh (Dh n))
def Lb:FM:=seqM (puM (Ff (An (Bq) (Aa (vF 0) (Aa (vF 1) (Aa (vF 2) (nilA))))))) (seqM (puM (ifS (blF (bF (eqD true) (uF (fldD "size") (vF 0)) (uF (fldD "size") (vF 1)))) (retF (kF .non)) (nxF))) (lY (calN (Dh 10) (Aa (vF 0) (Aa (vF 1) (Aa (uF J6 (vF 2)) (nilA)))) [] (lstF (nilA)))))
def Jh:GM:=runM 3 3 Lb
def Di:FS:=mutF appL 3 (bF (inF false) (vF 1) (bF ixE (bF ixE (vF 0) (kF (.int 1))) (vF 4)))
def FP:FS:=setW 3 (bF catD (vU 3) (lstF (Aa (bF (inF false) (tupF (Aa (vF 1) (Aa (vF 2) (nilA)))) (bF ixE (bF ixE (vF 0) (kF (.int 2))) (vF 4))) (Aa (bF (inF false) (tupF (Aa (vF 2) (Aa (vF 1) (nilA)))) (bF ixE (bF ixE (vF 0) (kF (.int 2))) (vF 4))) (nilA)))))
def Ji:FS:=seqF (setW 3 (lstF (Aa (bF (eqD false) (vF 1) (vF 2)) (nilA)))) (seqF (forS (seqA (uF sdkD (bF ixE (vF 0) (kF (.int 1))))) (Ay 4) (Di)) (seqF (forS (seqA (uF sdkD (bF ixE (vF 0) (kF (.int 2))))) (Ay 4) (FP)) (fzS [3] (retF (vF 3)))))
def FQ:List D->Option D:=runF 5 3 Ji
def Ij:FS:=ifS (blF (bF (eqD true) (An (FQ) (Aa (vF 0) (Aa (bF ixE (bF ixE (vF 2) (vF 3)) (kF (.int 0))) (Aa (bF ixE (bF ixE (vF 2) (vF 4)) (kF (.int 0))) (nilA))))) (An (FQ) (Aa (vF 1) (Aa (bF ixE (bF ixE (vF 2) (vF 3)) (kF (.int 1))) (Aa (bF ixE (bF ixE (vF 2) (vF 4)) (kF (.int 1))) (nilA))))))) (retF (kF (.bl false))) (nxF)
def GD:FS:=forS (rngI (bF addD (vF 3) (kF (.int 1)))) (Ay 4) (Ij)
def KD:FS:=seqF (forS (rngI (uF lenE (vF 2))) (Ay 3) (GD)) (retF (kF (.bl true)))
def Hr:List D->Option D:=runF 5 3 KD
def Ik:FS:=ifS (orT (notT (trF (uF (isiD "int") (vF 4)))) (trF (uF (isiD "bool") (vF 4)))) (retF (kF (.bl false))) (nxF)
def GF:FS:=ifS (blF (bF (eqD true) (bF ixE (vF 3) (vF 5)) (vF 6))) (retF (kF (.bl false))) (nxF)
def Il:FE:=tupF (Aa (vF 7) (Aa (bF ixE (vF 3) (vF 7)) (nilA)))
def KH:FS:=seqF (ifS (orT (notT (trF (uF (isiD "list") (vF 3)))) (orT (blF (bF (eqD true) (uF srtI (vF 3)) (uF SM (bF ixE (vF 1) (kF (.int 0)))))) (blF (bF (eqD true) (uF lenE (vF 3)) (bF ixE (vF 0) (kF (.int 0))))))) (retF (kF (.bl false))) (nxF)) (seqF (forS (seqA (vF 3)) (Ay 4) (Ik)) (seqF (forS (seqA (vF 2)) (tupG 2 (BZ 5 (BZ 6 (nilG)))) (GF)) (retF (An (Hr) (Aa (vF 0) (Aa (vF 1) (Aa (CK (rngI (bF ixE (vF 0) (kF (.int 0)))) (allT) (Il)) (nilA))))))))
def Hs:List D->Option D:=runF 7 4 KH
def QC:FT:=blF (bF (eqD false) (bF ixE (vF 16) (kF (.int 1))) (bF ixE (vF 3) (bF ixE (vF 16) (kF (.int 0)))))
def QD:FE:=vF 16
def Kl:FT:=andT (blF (bF leD (vF 8) (uF lenE (vF 6)))) (blF (bF ltD (vF 9) (kF (.int 8))))
def Ur:FM:=seqM (puM (setF 9 (bF addD (vF 9) (kF (.int 1))))) (seqM (puM (setF 10 (bF modD (bF addD (An (Ah) (Aa (vF 6) (Aa (vF 8) (nilA)))) (vF 8)) (kF (.int 6))))) (seqM (puM (setF 11 (An (Gv) (Aa (slF (vF 6) (someO (bF addD (vF 8) (kF (.int 1)))) (someO (bF addD (bF addD (vF 8) (kF (.int 1))) (vF 10)))) (Aa (vF 1) (Aa (vF 2) (Aa (vF 3) (nilA)))))))) (seqM (puM (setF 12 (uF J6 (vF 11)))) (seqM (Qv 13 (calX (Jh) (Aa (vF 4) (Aa (vF 5) (Aa (vF 12) (nilA)))))) (seqM (puM (setF 14 (bF (eqD false) (uF lenE (CK (seqA (vF 11)) (QC) (QD))) (uF lenE (vF 11))))) (seqM (ifL (orT (blF (bF (eqD true) (vF 12) (vF 11))) (andT (blF (uF (isND false) (vF 13))) (andT (trF (vF 7)) (trF (vF 14))))) (puM (retF (kF (.bl false)))) (nxM)) (seqM (ifL (blF (uF (isND true) (vF 13))) (seqM (ifL (notT (trF (An (Hs) (Aa (vF 1) (Aa (vF 2) (Aa (vF 11) (Aa (vF 13) (nilA)))))))) (puM (retF (kF (.bl false)))) (nxM)) (seqM (Qv 15 (pvX [13] (uF J6 (vU 13)))) (seqM (Qw (mutX 13 [] clrM nilA)) (ifNe (calX (Jh) (Aa (vF 4) (Aa (vF 5) (Aa (vF 12) (nilA))))) (vF 15) (puM (retF (kF (.bl false)))) (nxM))))) (nxM)) (puM (setF 8 (bF addD (bF addD (vF 8) (kF (.int 1))) (vF 10)))))))))))
def Y7:FM:=seqM (puM (asgF (An (HW) (Aa (vF 0) (Aa (kF (.int 5)) (nilA)))) (tupG 3 (BZ 1 (BZ 2 (BZ 3 (nilG))))))) (seqM (puM (setF 4 (mkI "World" (Bu) (Aa (bF ixE (vF 1) (kF (.int 0))) (Aa (bF ixE (vF 1) (kF (.int 1))) (Aa (bF ixE (vF 1) (kF (.int 2))) (nilA))))))) (seqM (puM (setF 5 (mkI "World" (Bu) (Aa (bF ixE (vF 2) (kF (.int 0))) (Aa (bF ixE (vF 2) (kF (.int 1))) (Aa (bF ixE (vF 2) (kF (.int 2))) (nilA))))))) (seqM (puM (setF 6 (slF (vF 0) (someO (kF (.int 17))) (someO (kF (.int 63)))))) (seqM (puM (setF 7 (bF (inF false) (bF modD (An (Ah) (Aa (vF 0) (Aa (kF (.int 8)) (nilA)))) (kF (.int 4))) (lstF (Aa (kF (.int 1)) (Aa (kF (.int 2)) (nilA))))))) (seqM (puM (setF 8 (kF (.int 0)))) (seqM (puM (setF 9 (kF (.int 0)))) (seqM (J7 (Kl) (Ur) 60) (puM (retF (kF (.bl true)))))))))))
def V8:List D->Option D:=theD (runM 16 1 Y7) lr
end
def top (i:Nat):Stmt:=PySem.Challenge.pw_twinrounds_k32_matchings_walk.main.body.getD i (.Pass ⟨0,0,0,0⟩)
abbrev FW:Stmt:=top 36
abbrev Oi:Stmt:=top 29
abbrev Ma:Stmt:=top 33
abbrev GJ:Stmt:=top 34
abbrev Mf:Stmt:=top 31
abbrev Oj:Stmt:=top 30
abbrev Gw:Stmt:=top 32
abbrev Ky:Stmt:=top 37
abbrev Gy:Stmt:=top 35
abbrev Qy:Stmt:=top 38
abbrev KJ:Stmt:=top 14
abbrev Ht:Stmt:=top 15
abbrev Kz:Stmt:=top 16
abbrev Mg:Stmt:=top 17
abbrev Nu:Stmt:=top 13
abbrev JF:Stmt:=inClass (top 18) 0
abbrev Mh:Stmt:=top 41
abbrev HY:Stmt:=inClass (top 18) 3
abbrev Hu:Stmt:=inClass (top 18) 4
abbrev Jr:Stmt:=top 20
abbrev Fb:Stmt:=top 21
abbrev Js:Stmt:=top 22
abbrev Jt:Stmt:=top 23
abbrev K1:Stmt:=top 24
abbrev KN:Stmt:=top 25
abbrev Ol:Stmt:=top 26
abbrev Qz:Stmt:=top 27
abbrev Mi:Stmt:=top 39
abbrev Om:Stmt:=top 40
abbrev KQ:Stmt:=top 42
abbrev eU:Stmt:=top 43
set_option genInjectivity false in
structure Tx (G:Gx) (mg:Str->Option Value) where
 C_World:Addr
 gc_World:G.cl "World"=some C_World
 cl_World:Cls G.K C_World
 mC_World:mg "World"=some (.ref C_World)
 x__law_trimmed:Dx G.K mg "_law_trimmed" FW ["_law_world_here","_law_most"]
 x__law_cell:Dx G.K mg "_law_cell" Oi ["_law_script","_law_k"]
 x__law_order:Dx G.K mg "_law_order" Ma ["_law_cell_here","_law_size"]
 x__law_copied:Dx G.K mg "_law_copied" GJ ["_law_one","_law_order_here"]
 x__law_words:Dx G.K mg "_law_words" Mf ["_law_cell_here","_law_many"]
 x__law_bits:Dx G.K mg "_law_bits" Oj ["_law_cell_here","_law_many"]
 x__law_world:Dx G.K mg "_law_world" Gw ["_law_script","_law_start"]
 x__law_turned:Dx G.K mg "_law_turned" Ky ["_law_world_here","_law_cell_here"]
 x__law_other:Dx G.K mg "_law_other" Gy ["_law_script","_law_start","_law_one","_law_most"]
 x__law_two:Dx G.K mg "_law_two" Qy ["_law_script","_law_most"]
 x_refuse_above:Dx G.K mg "refuse_above" KJ ["number","most"]
 x_refuse_no_thing:Dx G.K mg "refuse_no_thing" Ht ["size","thing"]
 x_kept_things:Dx G.K mg "kept_things" Kz ["size","things"]
 x_kept_pairs:Dx G.K mg "kept_pairs" Mg ["size","pairs"]
 x_is_word:Dx G.K mg "is_word" Nu ["text"]
 x_World___init__:Ix G.K C_World "World.__init__" JF ["self","size","marks","ties"]
 x__law_pairs:Dx G.K mg "_law_pairs" Mh ["_law_cells","_law_one","_law_other_here","_law_order_here"]
 x_World_mark_words:Mx G.K C_World "mark_words" "World.mark_words" HY ["self"]
 x_World_tie_words:Mx G.K C_World "tie_words" "World.tie_words" Hu ["self"]
 x_refuse_unlike:Dx G.K mg "refuse_unlike" Jr ["one","other"]
 x_refuse_strange_pairs:Dx G.K mg "refuse_strange_pairs" Fb ["one","other","pairs"]
 x_bear_the_same:Dx G.K mg "bear_the_same" Js ["one","other","pair"]
 x_lead_the_same:Dx G.K mg "lead_the_same" Jt ["one","other","pair","further"]
 x_go_together:Dx G.K mg "go_together" K1 ["one","other","pair","further"]
 x_fits_with:Dx G.K mg "fits_with" KN ["one","other","pairs","further"]
 x_completed:Dx G.K mg "completed" Ol ["one","other","pairs","chosen"]
 x_matching:Dx G.K mg "matching" Qz ["one","other","pairs"]
 x__law_facts:Dx G.K mg "_law_facts" Mi ["_law_world_here","_law_here","_law_there"]
 x__law_fits:Dx G.K mg "_law_fits" Om ["_law_one","_law_other_here","_law_pairs_here"]
 x__law_good:Dx G.K mg "_law_good" KQ ["_law_one","_law_other_here","_law_rows","_law_found"]
 x_law:Dx G.K mg "law" eU ["_law_script"]
 z_all:mg "all"=none
 z_bool:mg "bool"=none
 z_int:mg "int"=none
 z_isinstance:mg "isinstance"=none
 z_len:mg "len"=none
 z_list:mg "list"=none
 z_range:mg "range"=none
 z_reversed:mg "reversed"=none
 z_sorted:mg "sorted"=none
 s_MOST_LETTERS:Sx mg "MOST_LETTERS" (.int 8)
 s_LETTERS:Sx mg "LETTERS" (.str "abcdefghijklmnopqrstuvwxyz")
 s_MOST_THINGS:Sx mg "MOST_THINGS" (.int 5)
 s_MOST_WORDS:Sx mg "MOST_WORDS" (.int 3)
 fl_size:∀ c C,G.cl c=some C->Cls G.K C/\DQ G.K C "size"
 fl_marked:∀ c C,G.cl c=some C->Cls G.K C/\DQ G.K C "marked"
 fl_tied:∀ c C,G.cl c=some C->Cls G.K C/\DQ G.K C "tied"
 c_KEPT_TEXTS:Kx G mg "KEPT_TEXTS" K32.c_KEPT_TEXTS
section
variable {base:Heap}
abbrev Bk:List Str:=["_law_world_here","_law_most","_law_marks","_law_ties","_law_word"]
theorem DG:FnScope Bk ["_law_world_here","_law_most"] (Ab FW):=scO
theorem Oz (T:Tx G mg):DOk P w base T.x__law_trimmed 1 (spD G Dd):=
 fnX (k:=0) (N:=Bk) (b:=HF) T.x__law_trimmed DG λ _ _ _ _ _ _ hr=>Ad (Bv (tLe (pU (iX hr (vp 0) (iP))) (vp 1)) (Ae (Ak (vr 0))) (Bp)) (Ad (sW DG.nd 2 (Jo)) (Ad (sW DG.nd 3 (Jo)) (Ad (Bl z0n rfl (BP rfl (iX hr (vp 0) (iP))) (BX (gN DG.nd 4)) (Ae (JZ (GX hr) (pv 2) (vr 4) (Fw (nT Bk "_law_thing") (by show GZ "_law_thing" Bk++(["_law_thing"]:List Str)=_;decide +kernel) (cO (N:=Bk) (sc:=Ab FW) rfl rfl) rfl (PFI.top (BP rfl (iX hr (pU (iX hr (vp 0) (iP))) (vp 4)))) (λ _ _ _=>G9 (tLt (vp 5) (vp 1))) (λ _ _ _=>vr 5))))) (Ad (Bl z0n rfl (BP rfl (iX hr (vp 0) (iP))) (BX (gN DG.nd 4)) (Ae (JZ (GX hr) (pv 3) (vr 4) (Fw (nT Bk "_law_row") (by show GZ "_law_row" Bk++(["_law_row"]:List Str)=_;decide +kernel) (cO (N:=Bk) (sc:=Ab FW) rfl rfl) rfl (PFI.top (BP rfl (iX hr (pU (iX hr (vp 0) (iP))) (vp 4)))) (λ _ _ _=>G9 (PFW.pt (Gq (tLt (pU (iX hr (vp 5) (iP))) (vp 1)) (Eb (tLt (pU (iX hr (vp 5) (iP))) (vp 1)))))) (λ _ _ _=>vr 5))))) (Ae (G_ [2,3] (Ak (Ec (pav 1 (pav 2 (pav 3 (Ac))))))))))))
abbrev Oo:List Str:=["_law_script","_law_k"]
theorem Us:FnScope Oo ["_law_script","_law_k"] (Ab Oi):=scO
theorem BJ (T:Tx G mg):DOk P w base T.x__law_cell 1 (spD G Ah):=
 fnX (k:=0) (N:=Oo) (b:=Hq) T.x__law_cell Us λ _ _ _ _ _ _ hr=>Ad (Bv (tLt (vp 1) (pU (Ax (BW rfl) Px rfl T.z_len Dc (vp 0)))) (Ae (Ak (iD (vp 0) (vp 1)))) (Bp)) (Ae (Ak (Qi)))
abbrev Mj:List Str:=["_law_cell_here","_law_size","_law_things","_law_found"]
theorem GK:FnScope Mj ["_law_cell_here","_law_size"] (Ab Ma):=scO
theorem Rh (T:Tx G mg):DOk P w base T.x__law_order 1 (spD G Gs):=
 fnX (k:=0) (N:=Mj) (b:=Jb) T.x__law_order GK λ _ _ _ _ _ _ hr=>Ad (sW GK.nd 2 (Yy rfl T.z_list rfl T.z_range (vp 1))) (Ad (sW GK.nd 3 (NP (Ac))) (Ad (Z3 60 z0n (tNe hr (vq 2) (pU (Ec (Ac)))) (Ad (jb (pv 3) (d_ (pv 2) (bMod (vp 0) (pU (Ax (BW rfl) Px rfl T.z_len Dc (vq 2)))))) (Ae (sF GK.nd 0 (bDiv (vp 0) (pU (bAdd (pU (Ax (BW rfl) Px rfl T.z_len Dc (vq 2))) (iP)))))))) (Ae (G_ [3] (Ak (vr 3))))))
abbrev Cm:List Str:=["_law_one","_law_order_here","_law_marks","_law_ties","_law_word"]
theorem Dj:FnScope Cm ["_law_one","_law_order_here"] (Ab GJ):=scO
theorem Q0 (T:Tx G mg):DOk P w base T.x__law_copied 1 (spM G Ia):=
 fnM (k:=0) (N:=Cm) (b:=Fz) T.x__law_copied Dj λ _ _ _ _ _ _ hr=>Ai (Ao (sW Dj.nd 2 (Jo))) (Ai (Ao (sW Dj.nd 3 (Jo))) (Ai (Uo z0n rfl (Y4 rfl rfl T.z_reversed (Fo ((Ei.or (En rfl)).or (Ep rfl)) JB rfl T.z_list Hl (pU (iX hr (vp 0) (iP))))) (BX (gN Dj.nd 4)) (Bm (V2 (GX hr) (pv 2) (vr 4) (Yz (jc (nT Cm "_law_thing") (by show GZ "_law_thing" Cm++(["_law_thing"]:List Str)=_;decide +kernel) (cO (N:=Cm) (sc:=Ab GJ) rfl rfl) rfl (PFI.top (BP rfl (iX hr (pU (iX hr (vp 0) (iP))) (vp 4)))) (λ _ _ _=>J4) (λ _ _ _=>iX hr (vp 1) (vp 5))))))) (Ai (Uo z0n rfl (Y4 rfl rfl T.z_reversed (Fo ((Ei.or (En rfl)).or (Ep rfl)) JB rfl T.z_list Hl (pU (iX hr (vp 0) (iP))))) (BX (gN Dj.nd 4)) (Bm (V2 (GX hr) (pv 3) (vr 4) (Yz (eE ["_law_one","_law_order_here","_law_marks","_law_ties","_law_word","_law_here","_law_there"] (by show Cp ["_law_here","_law_there"] Cm++(["_law_here","_law_there"]:List Str)=_;decide +kernel) (cO2 (N:=Cm) (sc:=Ab GJ) rfl rfl) rfl rfl (PFI.top (BP rfl (iX hr (pU (iX hr (vp 0) (iP))) (vp 4)))) (λ _ _ _=>J4) (λ _ _ _=>JV (Af (iX hr (vp 1) (vp 5)) (Af (iX hr (vp 1) (vp 6)) (Ac) Aj) Aj))))))) (Bm (Ao (G_ [2,3] (Ak (Ec (Af (iX hr (vp 0) (iP)) (pav 2 (pav 3 (Ac))) Aj)))))))))
abbrev Ml:List Str:=["_law_cell_here","_law_many","_law_letters","_law_number","_law_long","_law_at","_law_found","_law_k","_law_word","_law_j","_law_place"]
theorem A_:FnScope Ml ["_law_cell_here","_law_many"] (Ab Mf):=scO
theorem Ri (T:Tx G mg):DOk P w base T.x__law_words 1 (spD G Gu):=
 fnX (k:=0) (N:=Ml) (b:=Jc) T.x__law_words A_ λ _ _ _ _ _ _ hr=>Ad (sF A_.nd 2 (Ua)) (Ad (sF A_.nd 3 (bMod (vp 0) (iP))) (Ad (sF A_.nd 4 (bAdd (iP) (pU (bMod (vp 3) (iP))))) (Ad (sF A_.nd 5 (bMod (pU (bDiv (vp 3) (iP))) (vp 4))) (Ad (sW A_.nd 6 (NP (Ac))) (Ad (Bl z0n rfl (Dt rfl T.z_range (vp 1)) (BX (gN A_.nd 7)) (Ad (sF A_.nd 8 (Ua)) (Ad (Bl z0n rfl (Dt rfl T.z_range (vp 4)) (BX (gN A_.nd 9)) (Ad (sF A_.nd 10 (bAdd (pU (bAdd (pU (bDiv (vp 3) (pU (bAdd (vp 9) (iP))))) (pU (bMul (vp 9) (vp 9))))) (pU (bMul (pU (Fo Rq YT rfl T.z_int W4 (pU (cEq hr (vp 9) (vp 5))))) (vp 7))))) (Ae (sF A_.nd 8 (bAdd (vp 8) (pU (iX hr (vp 2) (pU (bMod (vp 10) (iP)))))))))) (Ad (Bv (tIn hr (vp 8) (pU (Ec (iS (iS (iS (iS (iS (Ac))))))))) (Ae (sF A_.nd 8 (bAdd (vp 8) (sP)))) (Bp)) (Ae (Ly (pv 6) (vr 8))))))) (Ae (G_ [6] (Ak (vr 6)))))))))
abbrev Oq:List Str:=["_law_cell_here","_law_many","_law_found","_law_number","_law_k"]
theorem Fd:FnScope Oq ["_law_cell_here","_law_many"] (Ab Oj):=scO
theorem Gz (T:Tx G mg):DOk P w base T.x__law_bits 1 (spD G Dg):=
 fnX (k:=0) (N:=Oq) (b:=J8) T.x__law_bits Fd λ _ _ _ _ _ _ hr=>Ad (sW Fd.nd 2 (NP (Ac))) (Ad (sF Fd.nd 3 (bMod (pU (bDiv (vp 0) (iP))) (iP))) (Ad (Bl z0n rfl (Dt rfl T.z_range (vp 1)) (BX (gN Fd.nd 4)) (Ae (Bv (tEq hr (pU (bMod (vp 0) (iP))) (iP)) (Ae (Ly (pv 2) (cEq hr (pU (bMod (pU (bDiv (pU (bDiv (vp 0) (iP))) (pU (M8 ie ir (iP) (vp 4))))) (iP))) (iP)))) (Ad (sF Fd.nd 3 (bMod (pU (bAdd (pU (bAdd (pU (bAdd (pU (bMul (vp 3) (vp 3))) (pU (bMul (iP) (vp 3))))) (vp 4))) (iP))) (iP))) (Ae (Ly (pv 2) (cEq hr (pU (bMod (pU (bDiv (vp 3) (iP))) (pU (bMul (iP) (pU (bMod (vp 0) (iP))))))) (iP)))))))) (Ae (G_ [2] (Ak (vr 2))))))
abbrev Cg:List Str:=["_law_script","_law_start","_law_cell_here","_law_size","_law_many","_law_words_here","_law_marks","_law_ties","_law_k","_law_bits_here"]
theorem Ba:FnScope Cg ["_law_script","_law_start"] (Ab Gw):=scO
theorem Rj (T:Tx G mg):DOk P w base T.x__law_world 2 (spD G Et):=
 fnX (k:=1) (N:=Cg) (b:=Jd) T.x__law_world Ba λ _ _ _ _ _ _ hr=>Ad (sF Ba.nd 2 (fX (BJ T) hr (pav 0 (pav 1 (Ac))))) (Ad (sF Ba.nd 3 (iX hr (pU (Ec (Af (bMod (pU (bDiv (vp 2) (iP))) (iP)) (iI (Ac)) Ca))) (pU (Fo Rq YT rfl T.z_int W4 (pU (cEq hr (pU (bMod (pU (bDiv (vp 2) (iP))) (iP))) (iP))))))) (Ad (sF Ba.nd 4 (bMod (vp 2) (iP))) (Ad (sF Ba.nd 5 (fX (Ri T) hr (Af (fX (BJ T) hr (pav 0 (Af (bAdd (vp 1) (iP)) (Ac) Ca))) (Af (bAdd (vp 4) (pU (bMod (pU (bDiv (vp 2) (iP))) (iP)))) (Ac) Ca) Du))) (Ad (sW Ba.nd 6 (Jo)) (Ad (sW Ba.nd 7 (Jo)) (Ad (Bl z0n rfl (Dt rfl T.z_range (pU (Ax ((BW rfl).or Bd) CW rfl T.z_len Dc (vp 5)))) (BX (gN Ba.nd 8)) (Ae (Bv (tLt (vp 8) (vp 4)) (Ad (sF Ba.nd 9 (fX (Gz T) hr (Af (fX (BJ T) hr (pav 0 (Af (bAdd (pU (bAdd (vp 1) (iP))) (vp 8)) (Ac) Ca))) (pav 3 (Ac)) Du))) (Ae (JZ (GX hr) (pv 6) (iX hr (vp 5) (vp 8)) (Fw (nT Cg "_law_thing") (by show GZ "_law_thing" Cg++(["_law_thing"]:List Str)=_;decide +kernel) (cO (N:=Cg) (sc:=Ab Gw) rfl rfl) rfl (Dt rfl T.z_range (vp 3)) (λ _ _ _=>G9 (Cw (pU (iX hr (vp 9) (vp 10))) rfl)) (λ _ _ _=>vr 10))))) (Ad (sF Ba.nd 9 (fX (Gz T) hr (Af (fX (BJ T) hr (pav 0 (Af (bSub (pU (bAdd (pU (bAdd (vp 1) (iP))) (vp 8))) (vp 4)) (Ac) Ca))) (Af (bMul (vp 3) (vp 3)) (Ac) Ca) Du))) (Ae (JZ (GX hr) (pv 7) (iX hr (vp 5) (vp 8)) (Fw (nT Cg "_law_at") (by show GZ "_law_at" Cg++(["_law_at"]:List Str)=_;decide +kernel) (cO (N:=Cg) (sc:=Ab Gw) rfl rfl) rfl (Dt rfl T.z_range (pU (bMul (vp 3) (vp 3)))) (λ _ _ _=>G9 (Cw (pU (iX hr (vp 9) (vp 10))) rfl)) (λ _ _ _=>JV (Af (bDiv (vp 10) (vp 3)) (Af (bMod (vp 10) (vp 3)) (Ac) Ca) Ca))))))))) (Ae (G_ [6,7] (Ak (Ec (pav 3 (pav 6 (pav 7 (Ac))))))))))))))
abbrev K3:List Str:=["_law_world_here","_law_cell_here","_law_rows","_law_thing","_law_row"]
theorem CG:FnScope K3 ["_law_world_here","_law_cell_here"] (Ab Ky):=scO
theorem Q3 (T:Tx G mg):DOk P w base T.x__law_turned 1 (spM G Ib):=
 fnM (k:=0) (N:=K3) (b:=F_) T.x__law_turned CG λ _ _ _ _ _ _ hr=>Ai (Ao (sF CG.nd 2 (Y5 rfl rfl T.z_list (iX hr (vp 0) (iP))))) (Ai (Ao (Bv (PFW.pt (Gq (tNeF hr (vp 2) (pU (Ec (Ac)))) (Gq (tGt (pU (iX hr (vp 0) (iP))) (iP)) (Eb (PFW.pt (H_ (tEqF hr (pU (bMod (vp 1) (iP))) (iP)) (Eh (tEqF hr (pU (iX hr (vp 0) (iP))) (pU (lK)))))))))) (Ad (sF CG.nd 3 (bMod (pU (bDiv (vp 1) (iP))) (pU (iX hr (vp 0) (iP))))) (Ae (sF CG.nd 4 (iX hr (vp 2) (pU (bMod (pU (bDiv (vp 1) (iP))) (pU (Ax ((BW rfl).or Bd) CW rfl T.z_len Dc (vp 2))))))))) (Ae (Bv (PFW.pt (Gq (tNeF hr (pU (iX hr (vp 0) (iP))) (pU (lK))) (Eb (tGt (pU (iX hr (vp 0) (iP))) (iP))))) (Ad (sF CG.nd 2 (Y5 rfl rfl T.z_list (iX hr (vp 0) (iP)))) (Ad (sF CG.nd 3 (JV (Af (bMod (pU (bDiv (vp 1) (iP))) (pU (iX hr (vp 0) (iP)))) (Af (bMod (pU (bDiv (vp 1) (iP))) (pU (iX hr (vp 0) (iP)))) (Ac) Ca) Ca))) (Ae (sF CG.nd 4 (iX hr (vp 2) (pU (bMod (pU (bDiv (vp 1) (iP))) (pU (Ax ((BW rfl).or Bd) CW rfl T.z_len Dc (vp 2)))))))))) (Ae (cJ)))))) (Bm (dg [4] (tIn hr (vp 3) (vq 4)) (Bm (MP (mRem [] hr (pv 4) (pav 3 (Ac))))) (Bm (MP (mApp [] (pv 4) (pav 3 (Ac))))))))
abbrev Ci:List Str:=["_law_script","_law_start","_law_one","_law_most","_law_size","_law_marks","_law_ties","_law_k","_law_word","_law_bits_here"]
theorem BR:FnScope Ci ["_law_script","_law_start","_law_one","_law_most"] (Ab Gy):=scO
theorem Rk (T:Tx G mg):DOk P w base T.x__law_other 2 (spD G Ex):=
 fnX (k:=1) (N:=Ci) (b:=Je) T.x__law_other BR λ _ _ _ _ _ _ hr=>Ad (sF BR.nd 4 (iX hr (pU (Ec (Af (iX hr (vp 2) (iP)) (Af (bMod (pU (bDiv (pU (fX (BJ T) hr (pav 0 (pav 1 (Ac))))) (iP))) (pU (bAdd (vp 3) (iP)))) (Ac) Ca) Aj))) (pU (bMod (pU (bDiv (pU (fX (BJ T) hr (pav 0 (pav 1 (Ac))))) (iP))) (iP))))) (Ad (sW BR.nd 5 (Jo)) (Ad (sW BR.nd 6 (Jo)) (Ad (sF BR.nd 7 (vr 1)) (Ad (Bl z0n rfl (BP rfl (iX hr (vp 2) (iP))) (BX (gN BR.nd 8)) (Ad (sF BR.nd 7 (bAdd (vp 7) (iP))) (Ad (sF BR.nd 9 (fX (Gz T) hr (Af (fX (BJ T) hr (pav 0 (pav 7 (Ac)))) (pav 4 (Ac)) Du))) (Ae (JZ (GX hr) (pv 5) (vr 8) (Fw (nT Ci "_law_thing") (by show GZ "_law_thing" Ci++(["_law_thing"]:List Str)=_;decide +kernel) (cO (N:=Ci) (sc:=Ab Gy) rfl rfl) rfl (Dt rfl T.z_range (vp 4)) (λ _ _ _=>G9 (Cw (pU (iX hr (vp 9) (vp 10))) rfl)) (λ _ _ _=>vr 10))))))) (Ad (Bl z0n rfl (BP rfl (iX hr (vp 2) (iP))) (BX (gN BR.nd 8)) (Ad (sF BR.nd 7 (bAdd (vp 7) (iP))) (Ad (sF BR.nd 9 (fX (Gz T) hr (Af (fX (BJ T) hr (pav 0 (pav 7 (Ac)))) (Af (bMul (vp 4) (vp 4)) (Ac) Ca) Du))) (Ae (JZ (GX hr) (pv 6) (vr 8) (Fw (nT Ci "_law_at") (by show GZ "_law_at" Ci++(["_law_at"]:List Str)=_;decide +kernel) (cO (N:=Ci) (sc:=Ab Gy) rfl rfl) rfl (Dt rfl T.z_range (pU (bMul (vp 4) (vp 4)))) (λ _ _ _=>G9 (Cw (pU (iX hr (vp 9) (vp 10))) rfl)) (λ _ _ _=>JV (Af (bDiv (vp 10) (vp 4)) (Af (bMod (vp 10) (vp 4)) (Ac) Ca) Ca)))))))) (Ae (G_ [5,6] (Ak (Ec (pav 4 (pav 5 (pav 6 (Ac)))))))))))))
abbrev Q4:List Str:=["_law_script","_law_most","_law_one","_law_cell_here","_law_order_here","_law_other_here"]
theorem Gf:FnScope Q4 ["_law_script","_law_most"] (Ab Qy):=scO
theorem V9 (T:Tx G mg):DOk P w base T.x__law_two 3 (spD G HW):=
 fnDM (k:=2) (N:=Q4) (b:=Cy) T.x__law_two Gf λ _ _ _ _ _ _ hr=>Ai (Ao (sF Gf.nd 2 (fX (Oz T) hr (Af (fX (Rj T) hr (pav 0 (iI (Ac)))) (pav 1 (Ac)) Du)))) (Ai (Ao (sF Gf.nd 3 (fX (BJ T) hr (pav 0 (iI (Ac)))))) (Ai (Ao (sF Gf.nd 4 (fX (Rh T) hr (Af (fX (BJ T) hr (pav 0 (iI (Ac)))) (Af (iX hr (vp 2) (iP)) (Ac) Aj) Du)))) (Ai (Ao (Bv (tEq hr (pU (bMod (vp 3) (iP))) (iP)) (Ae (Ak (Ec (pav 2 (Af (fX (Rk T) hr (pav 0 (iI (pav 2 (pav 1 (Ac)))))) (pav 4 (Ac)) Du))))) (Bp))) (Ai (sXM Gf.nd 5 (fM (Q0 T) hr (pav 2 (pav 4 (Ac))))) (Ai (dg [] (tEq hr (pU (bMod (vp 3) (iP))) (iP)) (Bm (MP (fM (Q3 T) hr (pav 5 (Af (fX (BJ T) hr (pav 0 (iI (Ac)))) (Ac) Du))))) (Ho)) (Bm (jY 3 (Ao (Ak (Ec (pav 2 (pav 5 (pav 4 (Ac))))))))))))))
abbrev KR:List Str:=["number","most"]
theorem O1:FnScope KR ["number","most"] (Ab KJ):=scO
theorem Gn (T:Tx G mg):DOk P w base T.x_refuse_above 1 (spD G Bf):=
 fnX (k:=0) (N:=KR) (b:=HX) T.x_refuse_above O1 λ _ _ _ _ _ _ hr=>Ae (Bv (tGt (vp 0) (vp 1)) (Ae (Iu)) (Bp))
abbrev Hv:List Str:=["size","thing"]
theorem Ld:FnScope Hv ["size","thing"] (Ab Ht):=scO
theorem CJ (T:Tx G mg):DOk P w base T.x_refuse_no_thing 1 (spD G BL):=
 fnX (k:=0) (N:=Hv) (b:=Ey) T.x_refuse_no_thing Ld λ _ _ _ _ _ _ hr=>Ae (Bv (PFW.pt (H_ (tLt (vp 1) (iP)) (Eh (tGe (vp 1) (vp 0))))) (Ae (Iu)) (Bp))
abbrev K4:List Str:=["size","things","kept","thing"]
theorem Ha:FnScope K4 ["size","things"] (Ab Kz):=scO
theorem Q5 (T:Tx G mg):DOk P w base T.x_kept_things 2 (spD G DN):=
 fnX (k:=1) (N:=K4) (b:=Ie) T.x_kept_things Ha λ _ _ _ _ _ _ hr=>Ad (sW Ha.nd 2 (Jo)) (Ad (Bl z0n rfl (BP rfl (vr 1)) (BX (gN Ha.nd 3)) (Ad (Dq (fX (CJ T) hr (pav 0 (pav 3 (Ac))))) (Ae (JZ (GX hr) (pv 2) (vr 3) (Fg))))) (Ae (G_ [2] (Ak (vr 2)))))
abbrev Mm:List Str:=["size","pairs","kept","one","other"]
theorem GP:FnScope Mm ["size","pairs"] (Ab Mg):=scO
theorem Rm (T:Tx G mg):DOk P w base T.x_kept_pairs 2 (spD G Dm):=
 fnX (k:=1) (N:=Mm) (b:=Jf) T.x_kept_pairs GP λ _ _ _ _ _ _ hr=>Ad (sW GP.nd 2 (qu)) (Ad (Bl z0n rfl (BP rfl (vr 1)) (Kf rfl rfl (Bt (gN GP.nd 3) (Bt (gN GP.nd 4) (I_)))) (Ad (Dq (fX (CJ T) hr (pav 0 (pav 3 (Ac))))) (Ad (Dq (fX (CJ T) hr (pav 0 (pav 4 (Ac))))) (Ae (cu (GX hr) (pv 2) (pav 3 (pav 4 (Ac))) (Fg)))))) (Ae (G_ [2] (Ak (vr 2)))))
abbrev JG:List Str:=["text"]
theorem XN:FnScope JG ["text"] (Ab Nu):=scO
theorem Q6 (T:Tx G mg):DOk P w base T.x_is_word 1 (spD G Dn):=
 fnX (k:=0) (N:=JG) (b:=Nr) T.x_is_word XN λ _ _ _ _ _ _ hr=>Ad (Bv (PFW.pt (H_ (tIn hr (vp 0) (pU (Hz (Ka (v:=.ref T.c_KEPT_TEXTS.a) rfl T.c_KEPT_TEXTS.m rfl) T.c_KEPT_TEXTS.r))) (H_ (tEq hr (pU (Ax ((BW rfl).or Bd) CW rfl T.z_len Dc (vp 0))) (iP)) (Eh (tGt (pU (Ax ((BW rfl).or Bd) CW rfl T.z_len Dc (vp 0))) (pU (Hz (Ka (v:=(.int 8)) rfl T.s_MOST_LETTERS.m ⟨_,rfl⟩) (.int _)))))))) (Ae (Ak (Fg))) (Bp)) (Ae (Ak (Ax (R9 rfl) Yc rfl T.z_all cz (pU (Fw (nT JG "letter") (by show GZ "letter" JG++(["letter"]:List Str)=_;decide +kernel) (cO (N:=JG) (sc:=Ab Nu) rfl rfl) rfl (PFI.top (BP rfl (vr 0))) (λ _ _ _=>J4) (λ _ _ _=>cIn hr (vp 1) (pU (Hz (Ka (v:=(.str "abcdefghijklmnopqrstuvwxyz")) rfl T.s_LETTERS.m ⟨_,rfl⟩) (.str _)))))))))
abbrev JH:List Str:=["self","size","marks","ties","word","things","pairs"]
theorem Cj:FnScope JH ["self","size","marks","ties"] (Ab JF):=scO
theorem Hw (T:Tx G mg):FnOk P w G.K mg base CX0 3 T.x_World___init__.f T.x_World___init__.fd ["self","size","marks","ties"] (spI G "World" Bu):=
 fn_I (c:="World") (k:=2) (N:=JH) (b:=Fq) T.x_World___init__.F Cj (by decide) λ cdv A outer s H E hr=>Gb (Qq (Dq (fX (Gn T) hr (pav 1 (Af (Hz (Ka (v:=(.int 5)) rfl T.s_MOST_THINGS.m ⟨_,rfl⟩) (.int _)) (Ac) QB)))) Uj) (Gb (Qq (Dq (fX (Gn T) hr (Af (Ax ((BW rfl).or Bd) CW rfl T.z_len Dc (vp 2)) (Af (Hz (Ka (v:=(.int 3)) rfl T.s_MOST_WORDS.m ⟨_,rfl⟩) (.int _)) (Ac) QB) Du))) Uj) (Gb (Qq (Dq (fX (Gn T) hr (Af (Ax ((BW rfl).or Bd) CW rfl T.z_len Dc (vp 3)) (Af (Hz (Ka (v:=(.int 3)) rfl T.s_MOST_WORDS.m ⟨_,rfl⟩) (.int _)) (Ac) QB) Du))) Uj) (Gb (dH T.fl_size (pv 0) (vr 1)) (Gb (Vv T.fl_marked (pv 0) Jo) (Gb (Vv T.fl_tied (pv 0) Jo) (Gb (Yi z0n rfl (R7 (top:=false) (vr 2)) (Kf rfl rfl (Bt (gN Cj.nd 4) (Bt (gN Cj.nd 5) (I_)))) (dM (P0 (by decide) (P0 (by decide) (dJ)))) (Vt (dG (Vu (JT (Cw (pU (fX (Q6 T) hr (pav 4 (Ac)))) rfl))) (Ae Iu)) (Yh (Vw (GX hr) T.fl_marked (pv 0) (vr 4) (fX (Q5 T) hr (pav 1 (pav 5 (Ac)))))))) (Gb (Yi z0n rfl (R7 (top:=false) (vr 3)) (Kf rfl rfl (Bt (gN Cj.nd 4) (Bt (gN Cj.nd 6) (I_)))) (dM (P0 (by decide) (P0 (by decide) (dJ)))) (Vt (dG (PWE.pt (oY (Vu (JT (Cw (pU (fX (Q6 T) hr (pav 4 (Ac)))) rfl))) (jP (oZ (GX hr) T.fl_marked (pv 0) (vr 4))))) (Ae Iu)) (Yh (Vw (GX hr) T.fl_tied (pv 0) (vr 4) (fX (Rm T) hr (pav 1 (pav 6 (Ac)))))))) (jQ))))))))
abbrev Mp:List Str:=["_law_cells","_law_one","_law_other_here","_law_order_here","_law_found","_law_cell_here","_law_here","_law_there"]
theorem DP:FnScope Mp ["_law_cells","_law_one","_law_other_here","_law_order_here"] (Ab Mh):=scO
theorem Rn (T:Tx G mg):DOk P w base T.x__law_pairs 1 (spD G Gv):=
 fnX (k:=0) (N:=Mp) (b:=Jg) T.x__law_pairs DP λ _ _ _ _ _ _ hr=>Ad (sW DP.nd 4 (NP (Ac))) (Ad (Bl z0n rfl (BP rfl (vr 0)) (BX (gN DP.nd 5)) (Ae (Bv (PFW.pt (Gq (tGt (pU (iX hr (vp 1) (iP))) (iP)) (Eb (tGt (pU (iX hr (vp 2) (iP))) (iP))))) (Ad (sF DP.nd 6 (bMod (pU (bDiv (vp 5) (iP))) (pU (iX hr (vp 1) (iP))))) (Ad (sF DP.nd 7 (bMod (pU (bDiv (vp 5) (iP))) (pU (iX hr (vp 2) (iP))))) (Ad (Bv (PFW.pt (Gq (tEq hr (pU (bMod (vp 5) (iP))) (iP)) (Eb (tEq hr (pU (iX hr (vp 1) (iP))) (pU (iX hr (vp 2) (iP))))))) (Ae (sF DP.nd 7 (iX hr (vp 3) (vp 6)))) (Bp)) (Ae (Ly (pv 4) (JV (pav 6 (pav 7 (Ac))))))))) (Bp)))) (Ae (G_ [4] (Ak (vr 4)))))
abbrev Hh:List Str:=["self"]
theorem Kr:FnScope Hh ["self"] (Ab HY):=scO
theorem Gp (T:Tx G mg):FnOk P w G.K mg base CX0 1 T.x_World_mark_words.f T.x_World_mark_words.fd ["self"] (spD G B_):=
 fn_D (k:=0) (N:=Hh) (b:=Ed) T.x_World_mark_words.F Kr (by decide) λ _ _ _ _ _ _ hr=>Ae (Ak (Ax (Fy rfl) P_ rfl T.z_sorted Iv (pU (Eo T.fl_marked (vp 0)))))
abbrev Hx:List Str:=["self"]
theorem Le:FnScope Hx ["self"] (Ab Hu):=scO
theorem Hi (T:Tx G mg):FnOk P w G.K mg base CX0 1 T.x_World_tie_words.f T.x_World_tie_words.fd ["self"] (spD G Ce):=
 fn_D (k:=0) (N:=Hx) (b:=E_) T.x_World_tie_words.F Le (by decide) λ _ _ _ _ _ _ hr=>Ae (Ak (Ax (Fy rfl) P_ rfl T.z_sorted Iv (pU (Eo T.fl_tied (vp 0)))))
abbrev Ju:List Str:=["one","other"]
theorem Nv:FnScope Ju ["one","other"] (Ab Jr):=scO
theorem Nx (T:Tx G mg):DOk P w base T.x_refuse_unlike 2 (spD G EY):=
 fnX (k:=1) (N:=Ju) (b:=Gj) T.x_refuse_unlike Nv λ _ _ _ _ _ _ hr=>Ae (Bv (PFW.pt (H_ (tNe hr (pU (mO T.gc_World T.cl_World (Gp T) hr (vr 0))) (pU (mO T.gc_World T.cl_World (Gp T) hr (vr 1)))) (Eh (tNe hr (pU (mO T.gc_World T.cl_World (Hi T) hr (vr 0))) (pU (mO T.gc_World T.cl_World (Hi T) hr (vr 1))))))) (Ae (Iu)) (Bp))
abbrev Fe:List Str:=["one","other","pairs","first","second"]
theorem Cr:FnScope Fe ["one","other","pairs"] (Ab Fb):=scO
theorem JK (T:Tx G mg):DOk P w base T.x_refuse_strange_pairs 3 (spD G Bq):=
 fnX (k:=2) (N:=Fe) (b:=Cz) T.x_refuse_strange_pairs Cr λ _ _ _ _ _ _ hr=>Ad (Dq (fX (Nx T) hr (pav 0 (pav 1 (Ac))))) (Ae (Bl z0n rfl (BP rfl (vr 2)) (Kf rfl rfl (Bt (gN Cr.nd 3) (Bt (gN Cr.nd 4) (I_)))) (Ad (Dq (fX (CJ T) hr (Af (Eo T.fl_size (vp 0)) (pav 3 (Ac)) MN))) (Ae (Dq (fX (CJ T) hr (Af (Eo T.fl_size (vp 1)) (pav 4 (Ac)) MN)))))))
abbrev Jv:List Str:=["one","other","pair","word"]
theorem JL:FnScope Jv ["one","other","pair"] (Ab Js):=scO
theorem Ny (T:Tx G mg):DOk P w base T.x_bear_the_same 1 (spD G Ea):=
 fnX (k:=0) (N:=Jv) (b:=Gk) T.x_bear_the_same JL λ _ _ _ _ _ _ hr=>Ad (Bl z0n rfl (BP rfl (Eo T.fl_marked (vp 0))) (BX (gN JL.nd 3)) (Ae (Bv (tNe hr (pU (cIn hr (pU (iX hr (vp 2) (iP))) (pU (iX hr (pU (Eo T.fl_marked (vp 0))) (vp 3))))) (pU (cIn hr (pU (iX hr (vp 2) (iP))) (pU (iX hr (pU (Eo T.fl_marked (vp 1))) (vp 3)))))) (Ae (Ak (Fg))) (Bp)))) (Ae (Ak (Fg)))
abbrev Jw:List Str:=["one","other","pair","further","word"]
theorem JM:FnScope Jw ["one","other","pair","further"] (Ab Jt):=scO
theorem Ft (T:Tx G mg):DOk P w base T.x_lead_the_same 1 (spD G CP):=
 fnX (k:=0) (N:=Jw) (b:=Gm) T.x_lead_the_same JM λ _ _ _ _ _ _ hr=>Ad (Bl z0n rfl (BP rfl (Eo T.fl_tied (vp 0))) (BX (gN JM.nd 4)) (Ae (Bv (tNe hr (pU (dZ hr (Af (iX hr (vp 2) (iP)) (Af (iX hr (vp 3) (iP)) (Ac) Aj) Aj) (pU (iX hr (pU (Eo T.fl_tied (vp 0))) (vp 4))))) (pU (dZ hr (Af (iX hr (vp 2) (iP)) (Af (iX hr (vp 3) (iP)) (Ac) Aj) Aj) (pU (iX hr (pU (Eo T.fl_tied (vp 1))) (vp 4)))))) (Ae (Ak (Fg))) (Bp)))) (Ae (Ak (Fg)))
abbrev K5:List Str:=["one","other","pair","further"]
theorem Q7:FnScope K5 ["one","other","pair","further"] (Ab K1):=scO
theorem Q8 (T:Tx G mg):DOk P w base T.x_go_together 2 (spD G GC):=
 fnX (k:=1) (N:=K5) (b:=Ig) T.x_go_together Q7 λ _ _ _ _ _ _ hr=>Ad (Bv (tNe hr (pU (cEq hr (pU (iX hr (vp 2) (iP))) (pU (iX hr (vp 3) (iP))))) (pU (cEq hr (pU (iX hr (vp 2) (iP))) (pU (iX hr (vp 3) (iP)))))) (Ae (Ak (Fg))) (Bp)) (Ae (Ak (oF (fX (Ft T) hr (pav 0 (pav 1 (pav 2 (pav 3 (Ac)))))) (oE (fX (Ft T) hr (pav 0 (pav 1 (pav 3 (pav 2 (Ac))))))))))
abbrev Gg:List Str:=["one","other","pairs","further"]
theorem Ut:FnScope Gg ["one","other","pairs","further"] (Ab KN):=scO
theorem Uu (T:Tx G mg):DOk P w base T.x_fits_with 3 (spD G Ge):=
 fnX (k:=2) (N:=Gg) (b:=KC) T.x_fits_with Ut λ _ _ _ _ _ _ hr=>Ad (Bv (PFW.pt (H_ (JT (Cw (pU (fX (Ny T) hr (pav 0 (pav 1 (pav 3 (Ac)))))) rfl)) (Eh (JT (Cw (pU (fX (Ft T) hr (pav 0 (pav 1 (pav 3 (pav 3 (Ac))))))) rfl))))) (Ae (Ak (Fg))) (Bp)) (Ae (Ak (Ax (R9 rfl) Yc rfl T.z_all cz (pU (Fw (nT Gg "pair") (by show GZ "pair" Gg++(["pair"]:List Str)=_;decide +kernel) (cO (N:=Gg) (sc:=Ab KN) rfl rfl) rfl (PFI.top (BP rfl (vr 2))) (λ _ _ _=>J4) (λ _ _ _=>fX (Q8 T) hr (pav 0 (pav 1 (pav 4 (pav 3 (Ac)))))))))))
abbrev Ot:List Str:=["one","other","pairs","chosen","thing","pair","found"]
theorem G3:FnScope Ot ["one","other","pairs","chosen"] (Ab Ol):=scO
theorem Mq (T:Tx G mg):∀ n:Nat,DOk P w base T.x_completed (n*1+3) (spM G (Dh n))
 | 0=>eQ
 | n+1=>(fnM (k:=n*1+3) (N:=Ot) (b:=Oh (Dh n)) T.x_completed G3 λ _ _ _ _ _ _ hr=>Ai (Kh (tEq hr (pU (Ax ((BW rfl).or Bd) CW rfl T.z_len Dc (vp 3))) (pU (Eo T.fl_size (vp 0)))) (Bm (Ao (Ak (vr 3)))) (Ho)) (Ai (Uo z0n rfl (Dt rfl T.z_range (pU (Eo T.fl_size (vp 1)))) (BX (gN G3.nd 4)) (Ai (sXM G3.nd 5 (dh [3] (JV (Af (Ax ((BW rfl).or Bd) CW rfl T.z_len Dc (vq 3)) (pav 4 (Ac)) Du)))) (Bm (Kh (Cw (pU (fX (Uu T) hr (pav 0 (pav 1 (pav 2 (pav 5 (Ac))))))) rfl) (Ai (sXM G3.nd 6 (fMN (Mq T n) hr (JD (vr 0) (JD (vr 1) (JD (bAdd (vp 2) (pU (Ec (pav 5 (Ac))))) (V6 [3] (eF (vq 3) (pU (Ec (pav 4 (Ac))))))))))) (Bm (Kh (Vs (vp 6)) (Bm (Ao (Ak (vr 6)))) (Ho)))) (Ho))))) (Bm (Ao (Ak (b_)))))).mono (by omega)
abbrev Q9:List Str:=["one","other","pairs"]
theorem V_:FnScope Q9 ["one","other","pairs"] (Ab Qz):=scO
theorem Ou (T:Tx G mg):DOk P w base T.x_matching 14 (spM G Jh):=
 fnM (k:=13) (N:=Q9) (b:=Lb) T.x_matching V_ λ _ _ _ _ _ _ hr=>Ai (Ao (Dq (fX (JK T) hr (pav 0 (pav 1 (pav 2 (Ac))))))) (Ai (Ao (Bv (tNe hr (pU (Eo T.fl_size (vp 0))) (pU (Eo T.fl_size (vp 1)))) (Ae (Ak (b_))) (Bp))) (Bm (dq (fMN (Mq T 10) hr (JD (vr 0) (JD (vr 1) (JD (Fo ((Ei.or (En rfl)).or (Ep rfl)) JB rfl T.z_list Hl (vp 2)) (V6 [] (NP (Ac))))))))))
abbrev Mr:List Str:=["_law_world_here","_law_here","_law_there","_law_found","_law_word"]
theorem Dr:FnScope Mr ["_law_world_here","_law_here","_law_there"] (Ab Mi):=scO
theorem K6 (T:Tx G mg):DOk P w base T.x__law_facts 1 (spD G FQ):=
 fnX (k:=0) (N:=Mr) (b:=Ji) T.x__law_facts Dr λ _ _ _ _ _ _ hr=>Ad (sW Dr.nd 3 (NP (Af (cEq hr (vp 1) (vp 2)) (Ac) La))) (Ad (Bl z0n rfl (BP rfl (Ax (Fy rfl) P_ rfl T.z_sorted Iv (pU (iX hr (vp 0) (iP))))) (BX (gN Dr.nd 4)) (Ae (Ly (pv 3) (cIn hr (vp 1) (pU (iX hr (pU (iX hr (vp 0) (iP))) (vp 4))))))) (Ad (Bl z0n rfl (BP rfl (Ax (Fy rfl) P_ rfl T.z_sorted Iv (pU (iX hr (vp 0) (iP))))) (BX (gN Dr.nd 4)) (Ae (sW Dr.nd 3 (eF (vq 3) (pU (Ec (Af (cIn hr (pU (JV (pav 1 (pav 2 (Ac))))) (pU (iX hr (pU (iX hr (vp 0) (iP))) (vp 4)))) (Af (cIn hr (pU (JV (pav 2 (pav 1 (Ac))))) (pU (iX hr (pU (iX hr (vp 0) (iP))) (vp 4)))) (Ac) La) La))))))) (Ae (G_ [3] (Ak (vr 3))))))
abbrev Ov:List Str:=["_law_one","_law_other_here","_law_pairs_here","_law_k","_law_j"]
theorem Jj:FnScope Ov ["_law_one","_law_other_here","_law_pairs_here"] (Ab Om):=scO
theorem Uv (T:Tx G mg):DOk P w base T.x__law_fits 2 (spD G Hr):=
 fnX (k:=1) (N:=Ov) (b:=KD) T.x__law_fits Jj λ _ _ _ _ _ _ hr=>Ad (Bl z0n rfl (Dt rfl T.z_range (pU (Ax ((BW rfl).or Bd) CW rfl T.z_len Dc (vp 2)))) (BX (gN Jj.nd 3)) (Ae (Bl z0n rfl (Dt rfl T.z_range (pU (bAdd (vp 3) (iP)))) (BX (gN Jj.nd 4)) (Ae (Bv (tNe hr (pU (fX (K6 T) hr (pav 0 (Af (iX hr (pU (iX hr (vp 2) (vp 3))) (iP)) (Af (iX hr (pU (iX hr (vp 2) (vp 4))) (iP)) (Ac) Aj) Aj)))) (pU (fX (K6 T) hr (pav 1 (Af (iX hr (pU (iX hr (vp 2) (vp 3))) (iP)) (Af (iX hr (pU (iX hr (vp 2) (vp 4))) (iP)) (Ac) Aj) Aj))))) (Ae (Ak (Fg))) (Bp)))))) (Ae (Ak (Fg)))
abbrev Gh:List Str:=["_law_one","_law_other_here","_law_rows","_law_found","_law_thing","_law_here","_law_there"]
theorem G4:FnScope Gh ["_law_one","_law_other_here","_law_rows","_law_found"] (Ab KQ):=scO
theorem Uw (T:Tx G mg):DOk P w base T.x__law_good 3 (spD G Hs):=
 fnX (k:=2) (N:=Gh) (b:=KH) T.x__law_good G4 λ _ _ _ _ _ _ hr=>Ad (Bv (PFW.pt (H_ (JT (Cw (pU (W3 cR rfl rfl T.z_isinstance IV rfl T.z_list Hl (vp 3))) rfl)) (H_ (tNe hr (pU (Ax Uq (eO rfl) rfl T.z_sorted Iv (vp 3))) (pU (jW rfl T.z_list rfl T.z_range (pU (iX hr (vp 1) (iP)))))) (Eh (tNe hr (pU (Ax ((BW rfl).or Bd) CW rfl T.z_len Dc (vp 3))) (pU (iX hr (vp 0) (iP)))))))) (Ae (Ak (Fg))) (Bp)) (Ad (Bl z0n rfl (BP rfl (vr 3)) (BX (gN G4.nd 4)) (Ae (Bv (PFW.pt (H_ (JT (Cw (pU (W3 jD rfl rfl T.z_isinstance IV rfl T.z_int W4 (vp 4))) rfl)) (Eh (Cw (pU (W3 cP rfl rfl T.z_isinstance IV rfl T.z_bool jE (vp 4))) rfl)))) (Ae (Ak (Fg))) (Bp)))) (Ad (Bl z0n rfl (BP rfl (vr 2)) (Kf rfl rfl (Bt (gN G4.nd 5) (Bt (gN G4.nd 6) (I_)))) (Ae (Bv (tNe hr (pU (iX hr (vp 3) (vp 5))) (vp 6)) (Ae (Ak (Fg))) (Bp)))) (Ae (Ak (fX (Uv T) hr (pav 0 (pav 1 (Af (Fw (nT Gh "_law_k") (by show GZ "_law_k" Gh++(["_law_k"]:List Str)=_;decide +kernel) (cO (N:=Gh) (sc:=Ab KQ) rfl rfl) rfl (Dt rfl T.z_range (pU (iX hr (vp 0) (iP)))) (λ _ _ _=>J4) (λ _ _ _=>JV (pav 7 (Af (iX hr (vp 3) (vp 7)) (Ac) Aj)))) (Ac) V0))))))))
abbrev WD:List Str:=["_law_script","_law_one","_law_other_here","_law_order_here","_law_left","_law_right","_law_cells","_law_alike","_law_k","_law_lists","_law_many","_law_rows","_law_handed","_law_found","_law_by","_law_kept"]
theorem DR:FnScope WD ["_law_script"] (Ab eU):=scO
theorem pC (T:Tx G mg):DOk P w base T.x_law 15 (spD G V8):=
 fnDM (k:=14) (N:=WD) (b:=Y7) T.x_law DR λ _ _ _ _ _ _ hr=>Ai (Ao (jL (Kf rfl rfl (Bt (gN DR.nd 1) (Bt (gN DR.nd 2) (Bt (gN DR.nd 3) (I_))))) (fX (V9 T) hr (pav 0 (iI (Ac)))))) (Ai (Ao (sF DR.nd 4 (dI T.gc_World T.x_World___init__.mM (Hw T) (hr.mono (by omega)) rfl T.mC_World T.x_World___init__.B (Af (iX hr (vp 1) (iP)) (Af (iX hr (vp 1) (iP)) (Af (iX hr (vp 1) (iP)) (Ac) Aj) Aj) Aj)))) (Ai (Ao (sF DR.nd 5 (dI T.gc_World T.x_World___init__.mM (Hw T) (hr.mono (by omega)) rfl T.mC_World T.x_World___init__.B (Af (iX hr (vp 2) (iP)) (Af (iX hr (vp 2) (iP)) (Af (iX hr (vp 2) (iP)) (Ac) Aj) Aj) Aj)))) (Ai (Ao (sF DR.nd 6 (Vi rfl (vp 0) (Ls (iP)) (Ls (iP))))) (Ai (Ao (sF DR.nd 7 (cIn hr (pU (bMod (pU (fX (BJ T) hr (pav 0 (iI (Ac))))) (iP))) (pU (Ec (iI (iI (Ac)))))))) (Ai (Ao (sF DR.nd 8 (Qi))) (Ai (Ao (sF DR.nd 9 (Qi))) (Ai (aJ 60 z0n (PFW.pt (Gq (tLe (vp 8) (pU (Ax ((BW rfl).or Bd) CW rfl T.z_len Dc (vp 6)))) (Eb (tLt (vp 9) (iP))))) (Ai (Ao (sF DR.nd 9 (bAdd (vp 9) (iP)))) (Ai (Ao (sF DR.nd 10 (bMod (pU (bAdd (pU (fX (BJ T) hr (pav 6 (pav 8 (Ac))))) (vp 8))) (iP)))) (Ai (Ao (sF DR.nd 11 (fX (Rn T) hr (Af (Vi rfl (vp 6) (Ls (pU (bAdd (vp 8) (iP)))) (Ls (pU (bAdd (pU (bAdd (vp 8) (iP))) (vp 10))))) (pav 1 (pav 2 (pav 3 (Ac)))) Aj)))) (Ai (Ao (sF DR.nd 12 (Fo ((Ei.or (En rfl)).or (Ep rfl)) JB rfl T.z_list Hl (vp 11)))) (Ai (sXM DR.nd 13 (fM (Ou T) hr (pav 4 (pav 5 (pav 12 (Ac)))))) (Ai (Ao (sF DR.nd 14 (cEq hr (pU (Ax ((BW rfl).or Bd) CW rfl T.z_len Dc (pU (Fw (nT WD "_law_row") (by show GZ "_law_row" WD++(["_law_row"]:List Str)=_;decide +kernel) (cO (N:=WD) (sc:=Ab eU) rfl rfl) rfl (PFI.top (BP rfl (vr 11))) (λ _ _ _=>G9 (tEq hr (pU (iX hr (vp 16) (iP))) (pU (iX hr (vp 3) (pU (iX hr (vp 16) (iP))))))) (λ _ _ _=>vr 16))))) (pU (Ax ((BW rfl).or Bd) CW rfl T.z_len Dc (vp 11)))))) (Ai (Kh (PFW.pt (H_ (tNe hr (vp 12) (vp 11)) (Eh (PFW.pt (Gq (jN (vp 13)) (Gq (Cw (vp 7) rfl) (Eb (Cw (vp 14) rfl)))))))) (Bm (Ao (Ak (Fg)))) (Ho)) (Ai (Kh (Vs (vp 13)) (Ai (Kh (JT (Cw (pU (fX (Uw T) hr (pav 1 (pav 2 (pav 11 (pav 13 (Ac))))))) rfl)) (Bm (Ao (Ak (Fg)))) (Ho)) (Ai (sXM DR.nd 15 (dh [13] (Fo ((Ei.or (En rfl)).or (Ep rfl)) JB rfl T.z_list Hl (vq 13)))) (Ai (MP (mClr (pv 13))) (Bm (eG rfl hr.unitsW (fM (Ou T) hr (pav 4 (pav 5 (pav 12 (Ac))))) (vr 15) (Bm (Ao (Ak (Fg)))) (Ho) (Hy _)))))) (Ho)) (Bm (Ao (sF DR.nd 8 (bAdd (pU (bAdd (vp 8) (iP))) (vp 10)))))))))))))) (Bm (Ao (Ak (Fg)))))))))))
end
abbrev gx (K:zFr) (C_World:Addr):Gx:=gx1 K "World" C_World
def lz (K:zFr):Sp:=λ vs H Q _=>∃ (a:Addr) (ns:List Int),vs=[.ref a]/\SqL K H a (ns.map V.int)/\ns.length<=63/\∀ H',Q (.bl true) H'
theorem pD (ht:∀ ns:List Int,ns.length<=63->V8 [.lst (ns.map .int)]=some (.bl true)) {K:zFr}{C_World:Addr}(vs:List V) (H:Hp) (Q:VK) (E:XK) (h:lz K vs H Q E):spD (gx K C_World) V8 vs H Q E:=by
 obtain⟨a,ns,rfl,hs,hl,k⟩:=h;refine⟨[],[.lst (ns.map .int)],.bl true,(λ _ z=>nomatch z),RepL.cons ?_ RepL.nil,ht ns hl,λ v H2 _ r=>?_⟩
 ·have e:hid [] H=H:=by funext b;exact Av (λ z=>nomatch z)
  rw[e];refine .lst hs (by simp) λ i x d h1 h2=>?_;rw[z04] at h1 h2;cases e2:ns[i]? with
  | none=>rw[e2] at h1;cases h1
  | some z=>rw[e2] at h1 h2;cases h1;cases h2;exact .int z
 ·cases r;exact k H2
end K32
namespace K32
open PySem L2 PV
theorem G5 (ns:List Int) (k:Nat):Ah [.lst (ns.map .int),.int (k:Int)]=some (.int (ns.getD k 0)):=by
 by_cases h:k<ns.length
 ·have eg:ns.getD k 0=ns[k]:=by simp[h]
  rw[eg];have e:atI (ns.map D.int) (k:Int)=some (.int ns[k]):=by
   rw[bZ (by omega) (by simpa using h)];simp[h]
  simp[Ah,runF,Hq,seqF,ifS,blF,bF,vF,uF,CN,lenD,Va,h,retF,ixD,e]
 ·have eg:ns.getD k 0=0:=by simp[z0Z.mp h]
  rw[eg];simp[Ah,runF,Hq,seqF,ifS,blF,bF,vF,uF,CN,lenD,Va,h,retF,nxF,kF]
theorem QF (ns:List Int) (k:Nat):∃ i,Ah [.lst (ns.map .int),.int (k:Int)]=some (.int i):=⟨_,G5 ns k⟩
theorem Ux (x y:Str):cs (x++y)=cs x++cs y:=by show (x.cps++y.cps).toList=_;simp[cs]
theorem XQ (x:Str):(cs x).length=x.length:=by simp[cs,Str.length]
theorem eX {x y:Str}(h:cs x=cs y):x=y:=by
 cases x with | mk a=>cases y with | mk b=>simp[cs] at h;rw[h]
theorem Uy:LET.length=26:=by decide +kernel
theorem Y8 {x y:Str}(h:IsL x) (k:IsL y):IsL (x++y):=λ c hc=>by
 rw[Ux] at hc
 rcases z0L.mp hc with q | q
 ·exact h c q
 ·exact k c q
theorem aM:IsL "":=by
 have e:cs ("":Str)=[]:=by decide +kernel
 intro c hc;rw[e] at hc;cases hc
def Nm (x:Str):Prop:=∃ c,c∈cs LET/\x=⟨#[c]⟩
theorem Nm.isL {x:Str}(h:Nm x):IsL x:=by obtain⟨c,hc,rfl⟩:=h;intro d hd;simp[cs] at hd;subst hd;exact hc
theorem Nm.len {x:Str}(h:Nm x):x.length=1:=by obtain⟨c,hc,rfl⟩:=h;rfl
theorem rC (i:Int) (h0:0<=i) (h1:i<26):∃ c,(cs LET)[i.toNat]?=some c/\c∈cs LET/\ixD (.str LET) (.int i)=some (.str ⟨#[c]⟩):=by
 have hl:(cs LET).length=26:=by rw[XQ];exact Uy
 have hi:i.toNat<(cs LET).length:=by omega
 refine⟨(cs LET)[i.toNat],by simp[hi],z15 hi,?_⟩;show (if LET.length<=sizeLine then (atI (cs LET) i).map (λ c=>D.str ⟨#[c]⟩) else none)=_;rw[if_pos (Hk (by rw[Uy];decide)),bZ h0 (by rw[hl];omega)];simp[hi]
def plc (n at_:Int) (k j:Nat):Int:=n/((j:Int)+3)+(j:Int)*j+(if (j:Int)=at_ then 1 else 0)*(k:Int)
def chr (n at_:Int) (k j:Nat):Nat:=(cs LET).getD (plc n at_ k j%26).toNat 0
def wrd (n at_:Int) (k:Nat) (m:Nat):Str:=⟨((List.range m).map (chr n at_ k)).toArray⟩
theorem WF (n at_:Int) (k m:Nat):wrd n at_ k (m+1)=wrd n at_ k m++⟨#[chr n at_ k m]⟩:=by
 apply eX;rw[Ux];simp[wrd,cs,List.range_succ]
theorem Km (n at_:Int) (k m:Nat):(wrd n at_ k m).length=m:=by simp[wrd,Str.length]
theorem WK (n at_:Int) (k j:Nat):chr n at_ k j∈cs LET/\ixD (.str LET) (.int (plc n at_ k j%26))=some (.str ⟨#[chr n at_ k j]⟩):=by
 obtain⟨c,h1,h2,h3⟩:=rC (plc n at_ k j%26) (z0I _ (by decide)) (z0U _ (by decide));have e:chr n at_ k j=c:=by unfold chr;rw[z0v,h1];rfl
 rw[e];exact⟨h2,h3⟩
theorem Y9 (n at_:Int) (k:Nat):∀ m,IsL (wrd n at_ k m)
 | 0=>aM
 | m+1=>by
  rw[WF];refine Y8 (Y9 n at_ k m) λ c hc=>?_;simp[cs] at hc;subst hc;exact (WK n at_ k m).1
theorem pF:(cs LET).Nodup:=by decide +kernel
theorem pG (n:Int) (at_:Nat) {k k':Nat}(hk:k<7) (hk':k'<7) (h:k≠k'):chr n at_ k at_≠chr n at_ k' at_:=by
 have hl:(cs LET).length=26:=by rw[XQ];exact Uy
 intro e;have b:∀ k:Nat,(plc n at_ k at_%26).toNat<(cs LET).length:=λ k=>by
  have h0:0<=plc n at_ k at_%26:=z0I _ (by decide);have h1:plc n at_ k at_%26<26:=z0U _ (by decide);rw[hl];omega
 have e2:∀ k:Nat,chr n at_ k at_=(cs LET)[(plc n at_ k at_%26).toNat]'(b k):=λ k=>by
  unfold chr;rw[z0v,z06 (b k)];rfl
 rw[e2,e2] at e;have e3:=(List.getElem_inj pF).mp e;have p:∀ k:Nat,plc n at_ k at_=n/((at_:Int)+3)+(at_:Int)*at_+k:=λ k=>by unfold plc;rw[if_pos rfl,Int.one_mul]
 rw[p,p] at e3;generalize n/((at_:Int)+3)+(at_:Int)*at_=z at e3;have h0:0<=(z+(k:Int))%26:=z0I _ (by decide);have h0':0<=(z+(k':Int))%26:=z0I _ (by decide);omega
theorem pH (n:Int) (at_ m:Nat) (ha:at_<m) {k k':Nat}(hk:k<7) (hk':k'<7) (h:k≠k'):wrd n at_ k m≠wrd n at_ k' m:=by
 intro e;have e1:cs (wrd n at_ k m)=cs (wrd n at_ k' m):=by rw[e]
 simp only[wrd,cs] at e1;have e2:=congrArg (λ l=>l[at_]?) e1;simp[ha] at e2;exact pG n at_ hk hk' h e2
def fix (x:Str):Str:=if x∈KEPT then x++"x" else x
def fin (n at_:Int) (m:Nat) (k:Nat):Str:=fix (wrd n at_ k m)
theorem pI:∀ y∈KEPT,(y++("x":Str)).length<=5/\(y++("x":Str))∉KEPT/\y.length<=4:=by decide +kernel
theorem pJ {x:Str}(h1:1<=x.length) (h8:x.length<=8) (hL:IsL x):Wd (fix x):=by
 unfold fix;split
 ·rename_i h;obtain⟨k1,k2,_⟩:=pI x h;refine⟨by rw[K8];omega,by omega,Y8 hL ?_,k2⟩;intro c hc;have e:cs ("x":Str)=[120]:=by decide +kernel
  rw[e] at hc;simp at hc;subst hc;decide +kernel
 ·rename_i h;exact⟨h1,h8,hL,h⟩
theorem jf {x y:Str}(hl:x.length=y.length) (h:fix x=fix y):x=y:=by
 have x1:Str.length "x"=1:=by decide +kernel
 unfold fix at h;split at h<;>split at h
 ·have:=congrArg cs h;rw[Ux,Ux] at this;exact eX (List.append_cancel_right this)
 ·have:=congrArg Str.length h;rw[K8] at this;omega
 ·have:=congrArg Str.length h;rw[K8] at this;omega
 ·exact h
theorem jg (x:Str):inF false (.str x) (.lst [.str "not",.str "and",.str "or",.str "some",.str "all"])=some (.bl (decide (x∈KEPT))):=by
 have e:=YH x KEPT;have:(KEPT.any λ y=>y==x)=decide (x∈KEPT):=by
  rw[z0N];simp only[List.any_eq_true,z0J,z1q];exact⟨λ ⟨y,h1,h2⟩=>h2▸h1,λ h=>⟨x,h,rfl⟩⟩
 rw[this] at e;exact e
end K32
section
open PySem L2 PV
local macro_rules | `(tactic| w_up) => `(tactic| (rw [z03, Dk, e_tg, JR, Ip]; simp only [z0O, z0P]))
local macro_rules | `(tactic| simp only [cK, $ls,*] $[$l:location]?) => `(tactic| simp only [Vc, e_nx, e_rt, e_bk, e_ct, Xr, e_if, Xu, Xv, R4, M4, Xw, TV, TX, TY, O9, e_b, e_bs, e_u, e_us, Tc, O_, Td, PB, Xy, Xz, X3, Te, Tf, Tg, Th, Ti, Tj, Tn, Tp, Tq, Tr, Tt, Tu, Tv, e_bl, X4, Tw, PJ, PK, X5, Tz, Qc, T3, T4, PL, PQ, X6, T5, T6, T7, Pa, X7, T8, T9, e_sl, X8, X_, Pb, Lp, e_v, e_vs, e_vU, YB, YC, e_k, T_, Pg, Ph, Qd, YD, UG, Vd, UJ, UL, YG, UT, Lq, YF, e_tr, UV, Pj, YJ, UW, J0, Lr, Dk, CQ, Pk, Pn, Pq, JR, e_tg, Ip, z0B, List.length_nil, z03, z11, z1i, z0Q, List.replicate_succ, List.replicate_zero, z1t, z1u, z0O, z0P, Nat.reduceAdd, Nat.reduceSub, Nat.reduceEqDiff, z0T, truB, Bool.not_true, Bool.not_false, decide_true, decide_false, z0w, Int.reduceLT, Int.reduceLE, Int.reduceNeg, Int.reduceEq, Int.reduceToNat, Nat.reduceLeDiff, ix0, ix1, ix2, ixt0, ixt1, ixt2, ixt3, $ls,*] $[$l:location]?)
local macro_rules | `(tactic| simp only [cK]) => `(tactic| simp only [Vc, e_nx, e_rt, e_bk, e_ct, Xr, e_if, Xu, Xv, R4, M4, Xw, TV, TX, TY, O9, e_b, e_bs, e_u, e_us, Tc, O_, Td, PB, Xy, Xz, X3, Te, Tf, Tg, Th, Ti, Tj, Tn, Tp, Tq, Tr, Tt, Tu, Tv, e_bl, X4, Tw, PJ, PK, X5, Tz, Qc, T3, T4, PL, PQ, X6, T5, T6, T7, Pa, X7, T8, T9, e_sl, X8, X_, Pb, Lp, e_v, e_vs, e_vU, YB, YC, e_k, T_, Pg, Ph, Qd, YD, UG, Vd, UJ, UL, YG, UT, Lq, YF, e_tr, UV, Pj, YJ, UW, J0, Lr, Dk, CQ, Pk, Pn, Pq, JR, e_tg, Ip, z0B, List.length_nil, z03, z11, z1i, z0Q, List.replicate_succ, List.replicate_zero, z1t, z1u, z0O, z0P, Nat.reduceAdd, Nat.reduceSub, Nat.reduceEqDiff, z0T, truB, Bool.not_true, Bool.not_false, decide_true, decide_false, z0w, Int.reduceLT, Int.reduceLE, Int.reduceNeg, Int.reduceEq, Int.reduceToNat, Nat.reduceLeDiff, ix0, ix1, ix2, ixt0, ixt1, ixt2, ixt3])
local macro_rules | `(tactic| simp only [kC, $ls,*] $[$l:location]?) => `(tactic| simp only [$ls,*, Vc, e_nx, e_rt, e_bk, e_ct, Xr, e_if, Xu, Xv, R4, M4, Xw, TV, TX, TY, O9, e_b, e_bs, e_u, e_us, Tc, O_, Td, PB, Xy, Xz, X3, Te, Tf, Tg, Th, Ti, Tj, Tn, Tp, Tq, Tr, Tt, Tu, Tv, e_bl, X4, Tw, PJ, PK, X5, Tz, Qc, T3, T4, PL, PQ, X6, T5, T6, T7, Pa, X7, T8, T9, e_sl, X8, X_, Pb, Lp, e_v, e_vs, e_vU, YB, YC, e_k, T_, Pg, Ph, Qd, YD, UG, Vd, UJ, UL, YG, UT, Lq, YF, e_tr, UV, Pj, YJ, UW, J0, Lr, Dk, CQ, Pk, Pn, Pq, JR, e_tg, Ip, z0B, List.length_nil, z03, z11, z1i, z0Q, List.replicate_succ, List.replicate_zero, z1t, z1u, z0O, z0P, Nat.reduceAdd, Nat.reduceSub, Nat.reduceEqDiff, z0T, truB, Bool.not_true, Bool.not_false, decide_true, decide_false, z0w, Int.reduceLT, Int.reduceLE, Int.reduceNeg, Int.reduceEq, Int.reduceToNat, Nat.reduceLeDiff, ix0, ix1, ix2, ixt0, ixt1, ixt2, ixt3] $[$l:location]?)
local macro_rules | `(tactic| simp only [kiC, $ls,*] $[$l:location]?) => `(tactic| simp only [$ls,*, Vc, e_nx, e_rt, e_bk, e_ct, Xr, e_if, Xu, Xv, R4, M4, Xw, TV, TX, TY, O9, e_b, e_bs, e_u, e_us, Tc, O_, Td, PB, Xy, Xz, X3, Te, Tf, Tg, Th, Ti, Tj, Tn, Tp, Tq, Tr, Tt, Tu, Tv, e_bl, X4, Tw, PJ, PK, X5, Tz, Qc, T3, T4, PL, PQ, X6, T5, T6, T7, Pa, X7, T8, T9, e_sl, X8, X_, Pb, Lp, e_v, e_vs, e_vU, YB, YC, e_k, T_, Pg, Ph, Qd, YD, UG, Vd, UJ, UL, YG, UT, Lq, YF, e_tr, UV, Pj, YJ, UW, J0, Lr, Dk, CQ, Pk, Pn, Pq, JR, e_tg, Ip, z0B, List.length_nil, z03, z11, z1i, z0Q, List.replicate_succ, List.replicate_zero, z1t, z1u, z0O, z0P, Nat.reduceAdd, Nat.reduceSub, Nat.reduceEqDiff, z0T, truB, Bool.not_true, Bool.not_false, decide_true, decide_false, z0w, Int.reduceLT, Int.reduceLE, Int.reduceNeg, Int.reduceEq, Int.reduceToNat, Nat.reduceLeDiff, ix0, ix1, ix2, ixt0, ixt1, ixt2, ixt3, Ej, Fv, Wu, Wv, Va, Xq, bc, bf, R1, R3, bh] $[$l:location]?)
local macro_rules | `(tactic| simp only [dK, $ls,*] $[$l:location]?) => `(tactic| simp only [cK, W_, dO, dR, Hn, Ym, Yn, Yo, Yp, Uk, Yq, Yr, Ys, Er, Es, Yt, Kg, SJ, Nb, dU, Yu, Qs, Qt, LQ, dW, Yv, Vy, Ja, Oe, lO, $ls,*] $[$l:location]?)
local macro_rules | `(tactic| simp only [ciK, $ls,*] $[$l:location]?) => `(tactic| simp only [cK, Ej, Fv, Wu, Wv, Va, Xq, bc, bf, R1, R3, bh, $ls,*] $[$l:location]?)
local macro_rules | `(tactic| simp only [diK, $ls,*] $[$l:location]?) => `(tactic| simp only [cK, W_, dO, dR, Hn, Ym, Yn, Yo, Yp, Uk, Yq, Yr, Ys, Er, Es, Yt, Kg, SJ, Nb, dU, Yu, Qs, Qt, LQ, dW, Yv, Vy, Ja, Oe, lO, Ej, Fv, Wu, Wv, Va, Xq, bc, bf, R1, R3, bh, $ls,*] $[$l:location]?)
namespace K32
open PySem L2 PV
theorem l_ (b:Bool):intD (.bl b)=some (.int (if b then 1 else 0)):=zE_ _
theorem sml (h:j<8):(j:Int)<8/\0<=(j:Int):=by omega
theorem jh (i mm n l at_:Int) (w6:Slot) (k m:Nat) (hk:k<7) (hm:m<=8) (y9 y10:Slot):∃ z9 z10:Slot,
  forF (tgB (Ay 9) De) (rngD m) [.fz (.int i),.fz (.int mm),.fz (.str LET),.fz (.int n),.fz (.int l),.fz (.int at_),w6,.fz (.int (k:Int)),.fz (.str ""),y9,y10]
   = some (.nx [.fz (.int i),.fz (.int mm),.fz (.str LET),.fz (.int n),.fz (.int l),.fz (.int at_),w6,.fz (.int (k:Int)),.fz (.str (wrd n at_ k m)),z9,z10]):=by
 obtain⟨ρ',e,z9,z10,rfl⟩:=Jz (b:=tgB (Ay 9) De) (ds:=rngD m) (ρ:=[.fz (.int i),.fz (.int mm),.fz (.str LET),.fz (.int n),.fz (.int l),.fz (.int at_),w6,.fz (.int (k:Int)),.fz (.str ""),y9,y10])
  (P:=λ j ρ=>∃ z9 z10:Slot,ρ=[.fz (.int i),.fz (.int mm),.fz (.str LET),.fz (.int n),.fz (.int l),.fz (.int at_),w6,.fz (.int (k:Int)),.fz (.str (wrd n at_ k j)),z9,z10]) 0 ⟨y9,y10,rfl⟩ (by
   rintro j d ρ hd ⟨z9,z10,rfl⟩;have hj:j<m:=by
    have:=(z0m.mp hd).1;rw[Ek] at this;exact this
   have ed:d=.int (j:Int):=by
    have:=hd;simp[rngD,hj] at this;exact this.symm
   subst ed;have hj8:=sml (show j<8 by omega);have e1:=Fv n ((j:Int)+3) (by omega) (by omega);have e2:=Ln (j:Int) (j:Int) (by omega);have e3:=Ln (if decide ((j:Int)=at_) then (1:Int) else 0) (k:Int) (by omega);have pe:n/((j:Int)+3)+(j:Int)*j+(if decide ((j:Int)=at_)=true then (1:Int) else 0)*(k:Int)=plc n at_ k j:=by unfold plc;simp
   have ex:=(WK n at_ k j).2;have ea:=bu (i:=wrd n at_ k j) (j:=⟨#[chr n at_ k j]⟩) (by rw[Km];show j+1<=_;omega);rw[<-WF] at ea;refine⟨_,?_,.fz (.int (j:Int)),.fz (.int (plc n at_ k j)),by rw[z0T]⟩;rw[z0T];show De [.fz (.int i),.fz (.int mm),.fz (.str LET),.fz (.int n),.fz (.int l),.fz (.int at_),w6,.fz (.int (k:Int)),.fz (.str (wrd n at_ k j)),.fz (.int (j:Int)),z10]=_;simp only[diK,De,l_,e1,e2,e3,pe,ex,ea])
 rw[Ek,z0T] at *;exact⟨z9,z10,e⟩
theorem rD:Str.length "x"=1:=by decide +kernel
theorem Q_ (L:List D) (x:D) (h:L.length<=1000):appL (.lst L) x=some (.lst (L++[x])):=by
 unfold appL;show (if L.length<sizeLine then some (D.lst (L++[x])) else none)=_;rw[if_pos (z1o h (by decide))]
theorem eY (i mm n:Int) (l at_ k:Nat) (hk:k<7) (hl8:l<=8) (fs:List D) (hf:fs.length<=1000) (z8 z9 z10:Slot):∃ y9 y10:Slot,Df [.fz (.int i),.fz (.int mm),.fz (.str LET),.fz (.int n),.fz (.int (l:Int)),.fz (.int (at_:Int)),.ow (.lst fs),.fz (.int (k:Int)),z8,z9,z10]
  = some (.nx [.fz (.int i),.fz (.int mm),.fz (.str LET),.fz (.int n),.fz (.int (l:Int)),.fz (.int (at_:Int)),.ow (.lst (fs++[.str (fin n at_ l k)])),.fz (.int (k:Int)),.fz (.str (fin n at_ l k)),y9,y10]):=by
 obtain⟨y9,y10,e1⟩:=jh i mm n l at_ (.ow (.lst fs)) k l hk hl8 z9 z10;have e2:=G8 (l:Int) (by omega);have e3:=jg (wrd n at_ k l);have e4:=bu (i:=wrd n at_ k l) (j:="x") (by rw[Km,rD];omega);have e5:=Q_ fs (.str (fin n at_ l k)) hf;refine⟨y9,y10,?_⟩
 by_cases hq:wrd n at_ k l∈KEPT
 ·have ef:wrd n at_ k l++"x"=fin n at_ l k:=by unfold fin fix;rw[if_pos hq]
  rw[z0g hq] at e3;rw[ef] at e4;simp only[diK,Df,e2,z0K,e1,e3,e4,e5]
 ·have ef:wrd n at_ k l=fin n at_ l k:=by unfold fin fix;rw[if_neg hq]
  rw[z0a hq] at e3;rw[ef] at e1 e3;simp only[diK,Df,e2,z0K,e1,e3,e5]
theorem eZ (i:Int) (mm:Nat) (hm:mm<=6):∃ ws:List Str,Gu [.int i,.int (mm:Int)]=some (.lst (ws.map .str))/\ws.length=mm/\(∀ x∈ws,Wd x)/\ws.Nodup:=by
 have n0:0<=i%2147483629:=z0I _ (by decide);generalize en:i%2147483629=n at n0;have l0:0<=n%8:=z0I _ (by decide);have l8:n%8<8:=z0U _ (by decide);obtain⟨l,el⟩:∃ l:Nat,(l:Int)=1+n%8:=⟨(1+n%8).toNat,by omega⟩;have hl1:1<=l:=by omega
 have hl8:l<=8:=by omega
 have a0:0<=n/8%(l:Int):=z0I _ (by omega);have al:n/8%(l:Int)<l:=z0U _ (by omega);obtain⟨at_,ea⟩:∃ a:Nat,(a:Int)=n/8%(l:Int):=⟨(n/8%(l:Int)).toNat,by omega⟩;have hat:at_<l:=by omega
 refine⟨(List.range mm).map (fin n at_ l),?_,by simp,λ x hx=>?_,?_⟩
 ·have hL:(Str.ofString "abcdefghijklmnopqrstuvwxyz")=LET:=rfl;obtain⟨ρ',e,z7,z8,z9,z10,rfl⟩:=Jz (b:=tgB (Ay 7) Df) (ds:=rngD mm) (ρ:=[.fz (.int i),.fz (.int (mm:Int)),.fz (.str LET),.fz (.int n),.fz (.int (l:Int)),.fz (.int (at_:Int)),.ow (.lst []),.un,.un,.un,.un])
   (P:=λ k ρ=>∃ z7 z8 z9 z10:Slot,ρ=[.fz (.int i),.fz (.int (mm:Int)),.fz (.str LET),.fz (.int n),.fz (.int (l:Int)),.fz (.int (at_:Int)),.ow (.lst (((List.range k).map (fin n at_ l)).map .str)),z7,z8,z9,z10]) 0 ⟨.un,.un,.un,.un,rfl⟩ (by
    rintro k d ρ hd ⟨z7,z8,z9,z10,rfl⟩;have hk:k<mm:=by
     have:=(z0m.mp hd).1;rw[Ek] at this;exact this
    have ed:d=.int (k:Int):=by
     have:=hd;simp[rngD,hk] at this;exact this.symm
    subst ed;obtain⟨y9,y10,st⟩:=eY i mm n l at_ k (by omega) hl8 (((List.range k).map (fin n at_ l)).map .str) (by simp;omega) z8 z9 z10;rw[z0T];have er:((List.range k).map (fin n at_ l)).map D.str++[.str (fin n at_ l k)]=((List.range (k+1)).map (fin n at_ l)).map .str:=by simp[List.range_succ]
    rw[er] at st;refine⟨_,?_,.fz (.int (k:Int)),.fz (.str (fin n at_ l k)),y9,y10,rfl⟩;rw[e_tg,JR,Ip];exact st)
  rw[Ek,z0T] at *;have e6:=G8 (mm:Int) (by omega);have e7:(1:Int)+n%8=(l:Int):=el.symm;have e8:=Fv n 8 (by decide) (by decide);have e9:=Ej (n/8) (l:Int) (by omega);rw[<-ea] at e9;simp only[diK,Gu,Jc,hL,en,e7,e8,e9,e6,z0K,e,Int.reduceLT,Int.reduceMod]
 ·obtain⟨k,hk,rfl⟩:=z05.mp hx;exact pJ (by rw[Km];exact hl1) (by rw[Km];exact hl8) (Y9 _ _ _ _)
 ·rw[List.nodup_iff_pairwise_ne,z16];refine List.Pairwise.imp_of_mem (R:=λ a b=>a≠b) (λ {a b} ha hb h=>?_) List.nodup_range;have ha:=z0o.mp ha;have hb:=z0o.mp hb;intro z;exact pH n at_ l hat (by omega) (by omega) h (jf (by rw[Km,Km]) z)
theorem KY (n:Nat) (t:Nat) (h:t<n):BL [.int (n:Int),.int (t:Int)]=some .non:=by
 have c1:¬ ((t:Int)<0):=by omega
 have c2:¬ ((n:Int)<=t):=by omega
 simp only[ciK,BL,Ey,c1,c2]
theorem e_ {t:Nat}{l:List Nat}(h:t∉l):(.inl (t:Int):Key)∉(l.map λ (t:Nat)=>((.inl (t:Int):Key),D.bl true)).map (·.1):=by
 intro z;rw[z0k] at z;obtain⟨u,hu,e⟩:=z05.mp z;simp at e;have e':u=t:=by omega
 exact h (e'▸hu)
theorem Sq (n:Nat) (x z0:Slot):∀ (r p:List Nat) (z:Slot),(p++r).Nodup->(∀ t∈r,t<n)->(p++r).length<=100 ->
  ∃ z',forF (tgB (Ay 3) D_) (r.map iN) [.fz (.int (n:Int)),x,.ow (kM p),z]=some (.nx [.fz (.int (n:Int)),x,.ow (kM (p++r)),z'])
 | [],p,z,_,_,_=>⟨z,by rw[z0w];rfl⟩
 | t::r,p,z,nd,hl,hlen=>by
  have nt:t∉p:=by
   intro q;rw[z0u] at nd;exact nd.2.2 t q t (by simp) rfl
  have e1:=KY n t (hl t (by simp));have e2:Cq (kM p) (.int (t:Int)) (.bl true)=some (kM (p++[t])):=by
   show Cq (.dk _) _ _=_;rw[oh _ _ _ (by simp at hlen ⊢;omega),putL_new (e_ nt)];simp[kM]
  have b:D_ [.fz (.int (n:Int)),x,.ow (kM p),.fz (iN t)]=some (.nx [.fz (.int (n:Int)),x,.ow (kM (p++[t])),.fz (iN t)]):=by
   simp only[dK,D_,e1,e2]
  obtain⟨z',ih⟩:=Sq n x z0 r (p++[t]) (.fz (iN t)) (by simpa using nd) (λ u hu=>hl u (by simp[hu])) (by simpa using hlen);refine⟨z',?_⟩
  w_up
  rw[b,CQ,ih];simp
theorem ji (n:Nat) (l:List Nat) (nd:l.Nodup) (hl:∀ t∈l,t<n) (hlen:l.length<=100):DN [.int (n:Int),lM l]=some (kM l):=by
 obtain⟨z',e⟩:=Sq n (.fz (lM l)) .un l [] .un (by simpa using nd) hl (by simpa using hlen);rw[z0Q] at e;have e0:(D.dk [])=kM []:=rfl;simp only[dK,DN,Ie,e0,lM,e] at e ⊢
theorem fB {t:Nat×Nat}{l:List (Nat×Nat)}(h:t∉l):[(.inl (t.1:Int):Key),.inl (t.2:Int)]∉(l.map λ (q:Nat×Nat)=>([(.inl (q.1:Int):Key),.inl (q.2:Int)],D.bl true)).map (·.1):=by
 intro z;rw[z0k] at z;obtain⟨u,hu,e⟩:=z05.mp z;simp at e;have e':u=t:=by
  obtain⟨a,b⟩:=u;obtain⟨c,d⟩:=t;simp at e ⊢;omega
 exact h (e'▸hu)
theorem RB (n:Nat) (x:Slot):∀ (r p:List (Nat×Nat)) (z z2:Slot),(p++r).Nodup->(∀ t∈r,t.1<n/\t.2<n)->(p++r).length<=100 ->
  ∃ z' z2',forF (tgB (tupG 2 (BZ 3 (BZ 4 nilG))) Ez) (r.map pN) [.fz (.int (n:Int)),x,.ow (kT p),z,z2]=some (.nx [.fz (.int (n:Int)),x,.ow (kT (p++r)),z',z2'])
 | [],p,z,z2,_,_,_=>⟨z,z2,by rw[z0w];rfl⟩
 | t::r,p,z,z2,nd,hl,hlen=>by
  have nt:t∉p:=by
   intro q;rw[z0u] at nd;exact nd.2.2 t q t (by simp) rfl
  have e1:=KY n t.1 (hl t (by simp)).1;have e1':=KY n t.2 (hl t (by simp)).2;have e2:L_ (kT p) [.int (t.1:Int),.int (t.2:Int)] (.bl true)=some (kT (p++[t])):=by
   show L_ (.dt _) _ _=_;rw[ou _ _ _ _ (by simp at hlen ⊢;omega),putL_new (fB nt)];simp[kT]
  have b:Ez [.fz (.int (n:Int)),x,.ow (kT p),.fz (.int (t.1:Int)),.fz (.int (t.2:Int))]=some (.nx [.fz (.int (n:Int)),x,.ow (kT (p++[t])),.fz (.int (t.1:Int)),.fz (.int (t.2:Int))]):=by
   simp only[dK,Ez,e1,e1',e2]
  obtain⟨z',z2',ih⟩:=RB n x r (p++[t]) (.fz (.int (t.1:Int))) (.fz (.int (t.2:Int))) (by simpa using nd) (λ u hu=>hl u (by simp[hu])) (by simpa using hlen);refine⟨z',z2',?_⟩;rw[z03,Dk,e_tg,Ja,Ip];simp only[z0O,z0P];rw[b,CQ,ih];simp
theorem fC (n:Nat) (l:List (Nat×Nat)) (nd:l.Nodup) (hl:∀ t∈l,t.1<n/\t.2<n) (hlen:l.length<=100):Dm [.int (n:Int),lT l]=some (kT l):=by
 obtain⟨z',z2',e⟩:=RB n (.fz (lT l)) l [] .un .un (by simpa using nd) hl (by simpa using hlen);rw[z0Q] at e;have e0:(D.dt [])=kT []:=rfl;simp only[dK,Dm,Jf,e0,lT,e] at e ⊢
theorem pK (c:Nat):inD false (.str ⟨#[c]⟩) (.str LET)=some (.bl (!(Builtin.Str.occurrences LET ⟨#[c]⟩ 0 LET.length 1).isEmpty)):=zE_ _
theorem pL:∀ c∈cs LET,(!(Builtin.Str.occurrences LET ⟨#[c]⟩ 0 LET.length 1).isEmpty)=true:=by decide +kernel
theorem jj {x:Str}(h:x∉KEPT):inF false (.str x) c_KEPT_TEXTS=some (.bl false):=by
 have e:inF false (.str x) c_KEPT_TEXTS=inD false (.str x) (.lst (KEPT.map .str)):=rfl;rw[e,YH];have:(KEPT.any λ y=>y==x)=false:=by
  rw[List.any_eq_false];intro y hy hz;have:=z0J.mp hz;exact h (this▸hy)
 rw[this]
theorem pM (x:Str) (h:x.length<=10000000):lenE (.str x)=some (.int x.length):=qj x h
theorem Y_ {x:Str}(h:Wd x):Dn [.str x]=some (.bl true):=by
 have k:=jj h.kept;have h1:=h.lo;have h2:=h.hi;have l:=pM x (by omega);have c0:¬ ((x.length:Int)=0):=by omega
 have c8:¬ ((8:Int)<x.length):=by omega
 have cc:∀ l:List Nat,(∀ c∈l,c∈cs LET)->Io [.fz (.str x)] allT Gd (l.map λ c=>.str ⟨#[c]⟩)=some (l.map λ _=>.bl true):=by
  intro l
  induction l with
  | nil=>intro _;rfl
  | cons c r ih=>
   intro hl;have v:Gd ([.fz (.str x)]++[.fz (.str ⟨#[c]⟩)])=some (.bl true):=by
    have e:inF false (.str ⟨#[c]⟩) (.str LET)=some (.bl true):=by
     show inD false (.str ⟨#[c]⟩) (.str LET)=_;rw[pK,pL c (hl c (by simp))]
    have hL:(Str.ofString "abcdefghijklmnopqrstuvwxyz")=LET:=rfl;simp only[cK,Gd,hL,e]
   rw[z03,JQ,Vd,v,ih λ d hd=>hl d (by simp[hd])];rfl
 have c1:CK (seqA (vF 0)) allT Gd [.fz (.str x)]=some (.lst ((cs x).map λ _=>.bl true)):=by
  refine O8 (ds:=(cs x).map λ c=>.str ⟨#[c]⟩) (by rfl) (by rw[z00,XQ];omega) (cc (cs x) h.isL)
 have al:∀ l:List Nat,allD (.lst (l.map λ _=>.bl true))=some (.bl true):=by
  intro l;have q:∀ l:List Nat,blsD (l.map λ _=>D.bl true)=some (l.map λ _=>true):=by
   intro l
   induction l with
   | nil=>rfl
   | cons c r ih=>simp[blsD,ih]
  show (blsD (l.map λ _=>D.bl true)).map _=_;rw[q];simp
 simp only[ciK,Dn,Nr,k,l,c0,c8,c1,al]
theorem RC (i j:Int) (h:i<=j):Bf [.int i,.int j]=some .non:=by
 have c:¬ (j<i):=by omega
 simp only[ciK,Bf,HX,c]
abbrev fS (n:Nat):Str×Bool×D:=("size",false,.int (n:Int))
abbrev fM (ms:List (Str×List Nat)):Str×Bool×D:=("marked",true,.dk (oM ms))
abbrev fT (ts:List (Str×List (Nat×Nat))):Str×Bool×D:=("tied",true,.dk (oT ts))
theorem q1:(("marked":Str)=="size")=false:=by decide +kernel
theorem q2:(("tied":Str)=="size")=false:=by decide +kernel
theorem q3:(("tied":Str)=="marked")=false:=by decide +kernel
theorem n1:¬ (("size":Str)="marked"):=by decide +kernel
theorem n2:¬ (("size":Str)="tied"):=by decide +kernel
theorem n3:¬ (("marked":Str)="tied"):=by decide +kernel
theorem lkM (n:Nat) (d e:D):List.lookup ("marked":Str) [fS n,("marked",true,d),("tied",true,e)]=some (true,d):=by
 rw[z0d,q1];show List.lookup ("marked":Str) [("marked",true,d),("tied",true,e)]=_;rw[z0d,show (("marked":Str)=="marked")=true by decide +kernel]
theorem lkT (n:Nat) (d e:D):List.lookup ("tied":Str) [fS n,("marked",true,d),("tied",true,e)]=some (true,e):=by
 rw[z0d,q2];show List.lookup ("tied":Str) [("marked",true,d),("tied",true,e)]=_;rw[z0d,q3];show List.lookup ("tied":Str) [("tied",true,e)]=_;rw[z0d,show (("tied":Str)=="tied")=true by decide +kernel]
theorem rpM (n:Nat) (d e d':D):repE "marked" d' [fS n,("marked",true,d),("tied",true,e)]=[fS n,("marked",true,d'),("tied",true,e)]:=by
 unfold repE repE;rw[if_neg n1,if_pos rfl]
theorem rpT (n:Nat) (d e e':D):repE "tied" e' [fS n,("marked",true,d),("tied",true,e)]=[fS n,("marked",true,d),("tied",true,e')]:=by
 unfold repE repE repE;rw[if_neg n2,if_neg n3,if_pos rfl]
theorem Gi {α:Type}{w:Str}(f:α->D) {l:List (Str×α)}(h:w∉l.map (·.1)):(.inr w:Key)∉(l.map λ p=>((.inr p.1:Key),f p.2)).map (·.1):=by
 intro z;rw[z0k] at z;obtain⟨u,hu,e⟩:=z05.mp z;simp at e;exact h (z05.mpr ⟨u,hu,e⟩)
theorem RD (n:Nat) (hn:n<=5) (x:Addr) (a b:D) (e:D) (z6:Slot):∀ (r p:List (Str×List Nat)) (z4 z5:Slot),((p++r).map (·.1)).Nodup->(∀ q∈r,Wd q.1/\q.2.Nodup/\q.2.length<=100/\∀ t∈q.2,t<n)->(p++r).length<=3->(∀ d,z4≠.ow d)->(∀ d,z5≠.ow d)->(∀ d,z6≠.ow d) ->
  ∃ z4' z5',(∀ d,z4'≠.ow d)/\(∀ d,z5'≠.ow d)/\Hm (tupG 2 (BZ 4 (BZ 5 nilG))) Bx (r.map λ q=>.tup [.str q.1,lM q.2]) [.fz (.adr x),.fz (.int (n:Int)),.fz a,.fz b,z4,z5,z6] [fS n,fM p,("tied",true,e)]=some ([.fz (.adr x),.fz (.int (n:Int)),.fz a,.fz b,z4',z5',z6],[fS n,fM (p++r),("tied",true,e)])
 | [],p,z4,z5,_,_,_,h4,h5,_=>⟨z4,z5,h4,h5,by rw[z0w];rfl⟩
 | t::r,p,z4,z5,nd,hl,hlen,h4,h5,h6=>by
  obtain⟨w,l⟩:=t;obtain⟨hw,l1,l2,l3⟩:=hl (w,l) (by simp);have nt:w∉p.map (·.1):=by
   intro q;rw[z0y,z0u] at nd;exact nd.2.2 w q w (by simp) rfl
  have e1:=Y_ hw;have e2:=ji n l l1 l3 l2;have e3:Cq (.dk (oM p)) (.str w) (kM l)=some (.dk (oM (p++[(w,l)]))):=by
   rw[LR _ _ _ (by simp[oM] at hlen ⊢;omega)];have:(.inr w:Key)∉(oM p).map (·.1):=Gi kM nt;rw[putL_new this];simp[oM]
  have b0:Bx [.fz (.adr x),.fz (.int (n:Int)),.fz a,.fz b,.fz (.str w),.fz (lM l),z6] [fS n,fM p,("tied",true,e)]=some ([.fz (.adr x),.fz (.int (n:Int)),.fz a,.fz b,.fz (.str w),.fz (lM l),z6],[fS n,fM (p++[(w,l)]),("tied",true,e)]):=by
   have t0:ifE (Qp (notT (trF (An (Dn) (Aa (vF 4) (nilA)))))) [.fz (.adr x),.fz (.int (n:Int)),.fz a,.fz b,.fz (.str w),.fz (lM l),z6] [fS n,fM p,("tied",true,e)]=some ([.fz (.adr x),.fz (.int (n:Int)),.fz a,.fz b,.fz (.str w),.fz (lM l),z6],[fS n,fM p,("tied",true,e)]):=by
    have:notT (trF (An (Dn) (Aa (vF 4) (nilA)))) [.fz (.adr x),.fz (.int (n:Int)),.fz a,.fz b,.fz (.str w),.fz (lM l),z6]=some false:=by simp only[cK,e1]
    unfold ifE Qp;rw[this]
   have t1:Od "marked" (vF 4) (An (DN) (Aa (vF 1) (Aa (vF 5) (nilA)))) [.fz (.adr x),.fz (.int (n:Int)),.fz a,.fz b,.fz (.str w),.fz (lM l),z6] [fS n,fM p,("tied",true,e)]=some ([.fz (.adr x),.fz (.int (n:Int)),.fz a,.fz b,.fz (.str w),.fz (lM l),z6],[fS n,fM (p++[(w,l)]),("tied",true,e)]):=by
    have v1:An (DN) (Aa (vF 1) (Aa (vF 5) (nilA))) [.fz (.adr x),.fz (.int (n:Int)),.fz a,.fz b,.fz (.str w),.fz (lM l),z6]=some (kM l):=by simp only[cK,e2]
    have v2:vF 4 [.fz (.adr x),.fz (.int (n:Int)),.fz a,.fz b,.fz (.str w),.fz (lM l),z6]=some (.str w):=rfl;unfold Od;rw[v1,v2];show (match List.lookup ("marked":Str) [fS n,fM p,("tied",true,e)] with | some (true,d)=>(Cq d (.str w) (kM l)).map λ d'=>(_,repE "marked" d' [fS n,fM p,("tied",true,e)]) | _=>none)=_;rw[lkM];show (Cq (.dk (oM p)) (.str w) (kM l)).map _=_;rw[e3];show some (_,repE "marked" _ [fS n,fM p,("tied",true,e)])=_;rw[rpM]
   unfold Bx;rw[IW,t0,Fx,t1]
  obtain⟨z4',z5',g4,g5,ih⟩:=RD n hn x a b e z6 r (p++[(w,l)]) (.fz (.str w)) (.fz (lM l)) (by simpa using nd) (λ u hu=>hl u (by simp[hu])) (by simpa using hlen) (λ d=>by simp) (λ d=>by simp) h6;refine⟨z4',z5',g4,g5,?_⟩;rw[z03];unfold Hm;rw[Ja];have no:noOw [.fz (.adr x),.fz (.int (n:Int)),.fz a,.fz b,.fz (.str w),.fz (lM l),z6]=true:=by
   unfold noOw;cases z6 with
   | ow d=>exact absurd rfl (h6 d)
   | un=>rfl
   | fz d=>rfl
  show (if noOw [.fz (.adr x),.fz (.int (n:Int)),.fz a,.fz b,.fz (.str w),.fz (lM l),z6]=true then (Bx [.fz (.adr x),.fz (.int (n:Int)),.fz a,.fz b,.fz (.str w),.fz (lM l),z6] _).bind _ else none)=_;rw[if_pos no,b0];show Hm _ _ _ _ _=_;rw[ih];simp
theorem Ss (n:Nat) (hn:n<=5) (x:Addr) (a b:D) (ms:List (Str×List Nat)) (z5:Slot) (h5:∀ d,z5≠.ow d):∀ (r p:List (Str×List (Nat×Nat))) (z4 z6:Slot),((p++r).map (·.1)).Nodup->(∀ q∈r,Wd q.1/\q.1∉ms.map (·.1)/\q.2.Nodup/\q.2.length<=100/\∀ t∈q.2,t.1<n/\t.2<n)->(p++r).length<=3->(∀ d,z4≠.ow d)->(∀ d,z6≠.ow d) ->
  ∃ z4' z6',Hm (tupG 2 (BZ 4 (BZ 6 nilG))) By (r.map λ q=>.tup [.str q.1,lT q.2]) [.fz (.adr x),.fz (.int (n:Int)),.fz a,.fz b,z4,z5,z6] [fS n,fM ms,fT p]=some ([.fz (.adr x),.fz (.int (n:Int)),.fz a,.fz b,z4',z5,z6'],[fS n,fM ms,fT (p++r)])
 | [],p,z4,z6,_,_,_,h4,h6=>⟨z4,z6,by rw[z0w];rfl⟩
 | t::r,p,z4,z6,nd,hl,hlen,h4,h6=>by
  obtain⟨w,l⟩:=t;obtain⟨hw,nm,l1,l2,l3⟩:=hl (w,l) (by simp);have nt:w∉p.map (·.1):=by
   intro q;rw[z0y,z0u] at nd;exact nd.2.2 w q w (by simp) rfl
  have e1:=Y_ hw;have e2:=fC n l l1 l3 l2;have e3:Cq (.dk (oT p)) (.str w) (kT l)=some (.dk (oT (p++[(w,l)]))):=by
   rw[LR _ _ _ (by simp[oT] at hlen ⊢;omega)];have:(.inr w:Key)∉(oT p).map (·.1):=Gi kT nt;rw[putL_new this];simp[oT]
  have e4:getK (.inr w:Key) (oM ms)=none:=Nf (Gi kM nm);have b0:By [.fz (.adr x),.fz (.int (n:Int)),.fz a,.fz b,.fz (.str w),z5,.fz (lT l)] [fS n,fM ms,fT p]=some ([.fz (.adr x),.fz (.int (n:Int)),.fz a,.fz b,.fz (.str w),z5,.fz (lT l)],[fS n,fM ms,fT (p++[(w,l)])]):=by
   have t0:ifE (orTE (Qp (notT (trF (An (Dn) (Aa (vF 4) (nilA)))))) (inTE "marked" (vF 4))) [.fz (.adr x),.fz (.int (n:Int)),.fz a,.fz b,.fz (.str w),z5,.fz (lT l)] [fS n,fM ms,fT p]=some ([.fz (.adr x),.fz (.int (n:Int)),.fz a,.fz b,.fz (.str w),z5,.fz (lT l)],[fS n,fM ms,fT p]):=by
    have u1:notT (trF (An (Dn) (Aa (vF 4) (nilA)))) [.fz (.adr x),.fz (.int (n:Int)),.fz a,.fz b,.fz (.str w),z5,.fz (lT l)]=some false:=by simp only[cK,e1]
    have v2:vF 4 [.fz (.adr x),.fz (.int (n:Int)),.fz a,.fz b,.fz (.str w),z5,.fz (lT l)]=some (.str w):=rfl;have u2:inTE "marked" (vF 4) [.fz (.adr x),.fz (.int (n:Int)),.fz a,.fz b,.fz (.str w),z5,.fz (lT l)] [fS n,fM ms,fT p]=some false:=by
     unfold inTE;rw[v2];show (match List.lookup ("marked":Str) [fS n,fM ms,fT p] with | some (true,.dk kds)=>(keyD (.str w)).map λ q=>(getK q kds).isSome | _=>none)=_;rw[lkM];show some ((getK (.inr w:Key) (oM ms)).isSome)=_;rw[e4];rfl
    unfold ifE orTE Qp;rw[u1];show (match inTE "marked" (vF 4) _ _ with | some false=>some _ | _=>none)=_;rw[u2]
   have t1:Od "tied" (vF 4) (An (Dm) (Aa (vF 1) (Aa (vF 6) (nilA)))) [.fz (.adr x),.fz (.int (n:Int)),.fz a,.fz b,.fz (.str w),z5,.fz (lT l)] [fS n,fM ms,fT p]=some ([.fz (.adr x),.fz (.int (n:Int)),.fz a,.fz b,.fz (.str w),z5,.fz (lT l)],[fS n,fM ms,fT (p++[(w,l)])]):=by
    have v1:An (Dm) (Aa (vF 1) (Aa (vF 6) (nilA))) [.fz (.adr x),.fz (.int (n:Int)),.fz a,.fz b,.fz (.str w),z5,.fz (lT l)]=some (kT l):=by simp only[cK,e2]
    have v2:vF 4 [.fz (.adr x),.fz (.int (n:Int)),.fz a,.fz b,.fz (.str w),z5,.fz (lT l)]=some (.str w):=rfl;unfold Od;rw[v1,v2];show (match List.lookup ("tied":Str) [fS n,fM ms,fT p] with | some (true,d)=>(Cq d (.str w) (kT l)).map λ d'=>(_,repE "tied" d' [fS n,fM ms,fT p]) | _=>none)=_;rw[lkT];show (Cq (.dk (oT p)) (.str w) (kT l)).map _=_;rw[e3];show some (_,repE "tied" _ [fS n,fM ms,fT p])=_;rw[rpT]
   unfold By;rw[IW,t0,Fx,t1]
  obtain⟨z4',z6',ih⟩:=Ss n hn x a b ms z5 h5 r (p++[(w,l)]) (.fz (.str w)) (.fz (lT l)) (by simpa using nd) (λ u hu=>hl u (by simp[hu])) (by simpa using hlen) (λ d=>by simp) (λ d=>by simp);refine⟨z4',z6',?_⟩;rw[z03];unfold Hm;have tg:tupG 2 (BZ 4 (BZ 6 nilG)) (.tup [.str w,lT l]) [.fz (.adr x),.fz (.int (n:Int)),.fz a,.fz b,z4,z5,z6]=some [.fz (.adr x),.fz (.int (n:Int)),.fz a,.fz b,.fz (.str w),z5,.fz (lT l)]:=by rw[Ja];rfl
  rw[tg];have no:noOw [.fz (.adr x),.fz (.int (n:Int)),.fz a,.fz b,.fz (.str w),z5,.fz (lT l)]=true:=by
   unfold noOw;cases z5 with
   | ow d=>exact absurd rfl (h5 d)
   | un=>rfl
   | fz d=>rfl
  show (if noOw [.fz (.adr x),.fz (.int (n:Int)),.fz a,.fz b,.fz (.str w),z5,.fz (lT l)]=true then (By [.fz (.adr x),.fz (.int (n:Int)),.fz a,.fz b,.fz (.str w),z5,.fz (lT l)] _).bind _ else none)=_;rw[if_pos no,b0];show Hm _ _ _ _ _=_;rw[ih];simp
theorem ZC (W:Wl) (h:WOk W) (x:Addr):Bu x [.int (W.n:Int),.dk (eM W.ms),.dk (eT W.ts)]=some [fS W.n,fM W.ms,fT W.ts]:=by
 have ndm:(W.ms.map (·.1)).Nodup:=(z0u.mp h.nd).1;have ndt:(W.ts.map (·.1)).Nodup:=(z0u.mp h.nd).2.1;obtain⟨z4,z5,g4,g5,m⟩:=RD W.n h.n5 x (.dk (eM W.ms)) (.dk (eT W.ts)) (.dk []) .un W.ms [] .un .un (by simpa using ndm) (λ q hq=>⟨h.mw q hq,h.ml q hq⟩) (by simpa using h.m3) (λ d=>by simp) (λ d=>by simp) (λ d=>by simp);obtain⟨z4',z6',t⟩:=Ss W.n h.n5 x (.dk (eM W.ms)) (.dk (eT W.ts)) W.ms z5 g5 W.ts [] z4 .un (by simpa using ndt) (λ q hq=>⟨h.tw q hq,λ z=>(z0u.mp h.nd).2.2 q.1 z q.1 (z05.mpr ⟨q,hq,rfl⟩) rfl,h.tl q hq⟩) (by simpa using h.t3) g4 (λ d=>by simp);rw[z0Q] at m t;change Hm _ _ _ _ [fS W.n,fM [],fT []]=some (_,[fS W.n,fM W.ms,fT []]) at m;have r1:=RC (W.n:Int) 5 (by have:=h.n5;omega);have r2:=RC ((eM W.ms).length:Int) 3 (by have:=h.m3;simp[eM];omega);have r3:=RC ((eT W.ts).length:Int) 3 (by have:=h.t3;simp[eT];omega);have no:noOw [.fz (.adr x),.fz (.int (W.n:Int)),.fz (.dk (eM W.ms)),.fz (.dk (eT W.ts)),.un,.un,.un]=true:=rfl;have p1:pureE (Ff (An (Bf) (Aa (vF 1) (Aa (kF (.int 5)) (nilA))))) [.fz (.adr x),.fz (.int (W.n:Int)),.fz (.dk (eM W.ms)),.fz (.dk (eT W.ts)),.un,.un,.un] []=some ([.fz (.adr x),.fz (.int (W.n:Int)),.fz (.dk (eM W.ms)),.fz (.dk (eT W.ts)),.un,.un,.un],[]):=Um (by simp only[cK,r1]) no;have p2:pureE (Ff (An (Bf) (Aa (uF lenE (vF 2)) (Aa (kF (.int 3)) (nilA))))) [.fz (.adr x),.fz (.int (W.n:Int)),.fz (.dk (eM W.ms)),.fz (.dk (eT W.ts)),.un,.un,.un] []=some ([.fz (.adr x),.fz (.int (W.n:Int)),.fz (.dk (eM W.ms)),.fz (.dk (eT W.ts)),.un,.un,.un],[]):=Um (by simp only[dK,r2]) no;have p3:pureE (Ff (An (Bf) (Aa (uF lenE (vF 3)) (Aa (kF (.int 3)) (nilA))))) [.fz (.adr x),.fz (.int (W.n:Int)),.fz (.dk (eM W.ms)),.fz (.dk (eT W.ts)),.un,.un,.un] []=some ([.fz (.adr x),.fz (.int (W.n:Int)),.fz (.dk (eM W.ms)),.fz (.dk (eT W.ts)),.un,.un,.un],[]):=Um (by simp only[dK,r3]) no;have s1:Yg "size" (vF 1) [.fz (.adr x),.fz (.int (W.n:Int)),.fz (.dk (eM W.ms)),.fz (.dk (eT W.ts)),.un,.un,.un] []=some ([.fz (.adr x),.fz (.int (W.n:Int)),.fz (.dk (eM W.ms)),.fz (.dk (eT W.ts)),.un,.un,.un],[fS W.n]):=rfl;have s2:Oc "marked" (kF (.dk [])) [.fz (.adr x),.fz (.int (W.n:Int)),.fz (.dk (eM W.ms)),.fz (.dk (eT W.ts)),.un,.un,.un] [fS W.n]=some ([.fz (.adr x),.fz (.int (W.n:Int)),.fz (.dk (eM W.ms)),.fz (.dk (eT W.ts)),.un,.un,.un],[fS W.n,fM []]):=by
  have l:List.lookup ("marked":Str) [fS W.n]=none:=by
   rw[z0d,q1];rfl
  unfold Oc;show (if (List.lookup ("marked":Str) [fS W.n]).isNone=true/\[fS W.n].length<1000 then some (_,[fS W.n]++[(("marked":Str),true,D.dk [])]) else none)=_;rw[l,if_pos ⟨rfl,(by show 1<1000;decide)⟩];rfl
 have s3:Oc "tied" (kF (.dk [])) [.fz (.adr x),.fz (.int (W.n:Int)),.fz (.dk (eM W.ms)),.fz (.dk (eT W.ts)),.un,.un,.un] [fS W.n,fM []]=some ([.fz (.adr x),.fz (.int (W.n:Int)),.fz (.dk (eM W.ms)),.fz (.dk (eT W.ts)),.un,.un,.un],[fS W.n,fM [],fT []]):=by
  have l:List.lookup ("tied":Str) [fS W.n,fM []]=none:=by
   rw[z0d,q2];show List.lookup ("tied":Str) [fM []]=none;rw[z0d,q3];rfl
  unfold Oc;show (if (List.lookup ("tied":Str) [fS W.n,fM []]).isNone=true/\[fS W.n,fM []].length<1000 then some (_,[fS W.n,fM []]++[(("tied":Str),true,D.dk [])]) else none)=_;rw[l,if_pos ⟨rfl,(by show 2<1000;decide)⟩];rfl
 have i1:LC (vF 2) [.fz (.adr x),.fz (.int (W.n:Int)),.fz (.dk (eM W.ms)),.fz (.dk (eT W.ts)),.un,.un,.un]=some (W.ms.map λ q=>.tup [.str q.1,lM q.2]):=by
  show some ((eM W.ms).map λ p=>D.tup [kDt p.1,p.2])=_;simp only[eM,z0k,Function.comp_def,Oe]
 have i2:LC (vF 3) [.fz (.adr x),.fz (.int (W.n:Int)),.fz (.dk (eM W.ms)),.fz (.dk (eT W.ts)),z4,z5,.un]=some (W.ts.map λ q=>.tup [.str q.1,lT q.2]):=by
  show some ((eT W.ts).map λ p=>D.tup [kDt p.1,p.2])=_;simp only[eT,z0k,Function.comp_def,Oe]
 have st:Ui 7 x [.int (W.n:Int),.dk (eM W.ms),.dk (eT W.ts)]=[.fz (.adr x),.fz (.int (W.n:Int)),.fz (.dk (eM W.ms)),.fz (.dk (eT W.ts)),.un,.un,.un]:=rfl;unfold Bu runI;rw[if_pos (show [D.int (W.n:Int),.dk (eM W.ms),.dk (eT W.ts)].length+1=4 from rfl),st];unfold Fq;rw[IW,p1,Fx,IW,p2,Fx,IW,p3,Fx,IW,s1,Fx,IW,s2,Fx,IW,s3,Fx,IW,dX i1,m,Fx,IW,dX i2,t,Fx,o6];rfl
theorem mC (W:Wl) (h:WOk W) (fs:FA) (ρ:Rho) (hf:fs ρ=some [.int (W.n:Int),.dk (eM W.ms),.dk (eT W.ts)]):mkI "World" Bu fs ρ=some (wob W):=by
 unfold mkI;rw[hf];simp only[z0p,ZC W h 0];rw[if_pos (λ x=>ZC W h x)];rfl
theorem Ko (f:Nat->Bool) (h:Nat->D) (src:FI) (hs:src ρ=some (rngD n)) (hn:n<=1000) (h1:∀ k,k<n->ga (ρ++[.fz (.int k)])=some (f k)) (h2:∀ k,k<n->fe (ρ++[.fz (.int k)])=some (h k)):CK src ga fe ρ=some (.lst (((List.range n).filter f).map h)):=by
 have c:∀ l:List Nat,(∀ k∈l,k<n)->Io ρ ga fe (l.map λ (k:Nat)=>D.int k)=some ((l.filter f).map h):=by
  intro l
  induction l with
  | nil=>intro _;rfl
  | cons k r ih=>
   intro hl;rw[z03,JQ,h1 k (hl k (by simp)),h2 k (hl k (by simp)),ih λ d hd=>hl d (by simp[hd]),List.filter_cons];cases f k<;>rfl
 exact O8 hs (by rw[Ek];omega) (c (List.range n) λ k hk=>z0o.mp hk)
theorem Su (nd:l.Nodup) {i j:Nat}(hi:i<l.length) (hj:j<l.length) (e:l[i]=l[j]):i=j:=by
 have h:=List.pairwise_iff_getElem.mp nd
 rcases Nat.lt_trichotomy i j with z | z | z
 ·exact absurd e (h i j hi hj z)
 ·exact z
 ·exact absurd e.symm (h j i hj hi z)
theorem C_ (n:Nat) (f:Nat->Bool):((List.range n).filter f).Nodup:=List.Nodup.sublist List.filter_sublist List.nodup_range
theorem fD (n:Nat) (hn:n<=100) (ρ:Rho) (i:Nat) (h:ρ[i]?=some (.fz (.int (n:Int)))):rngI (vF i) ρ=some (rngD n):=by
 have rg:=G8 (n:Int) (by omega);simp only[Qd,e_v,h,e_vs,rg,z0K]
theorem shl1 (k:Nat) (hk:k<30):shlD (.int 1) (.int (k:Int))=some (.int (2^k)):=by
 show (if CShl 1 (k:Int) then some (D.int (1*2^(k:Int).toNat)) else none)=_;rw[if_pos ⟨by omega,by omega,by decide +kernel⟩];simp
theorem aN (k:Nat) (hk:k<26):(0:Int)<2^k/\(2:Int)^k<1073741824:=by
 have:∀ k<26,(0:Int)<2^k/\(2:Int)^k<1073741824:=by decide +kernel
 exact this k hk
theorem three (i:Int):i%3=0∨i%3=1∨i%3=2:=by omega
theorem fG (i mm:Int) (k:Nat) (hk:k<26) (fs:List D) (hf:fs.length<=1000) (n:Int) (hn:0<=n/\n<2147483629):∃ (b:Bool) (n':Int),0<=n'/\n'<2147483629 ∧
  DK [.fz (.int i),.fz (.int mm),.ow (.lst fs),.fz (.int n),.fz (.int (k:Int))]=some (.nx [.fz (.int i),.fz (.int mm),.ow (.lst (fs++[.bl b])),.fz (.int n'),.fz (.int (k:Int))]):=by
 obtain⟨p0,p1⟩:=aN k hk;have s1:=shl1 k (by omega)
 rcases three i with h | h | h
 ·have d1:=Fv i 3 (by decide) (by decide);have d2:=Fv (i/3) (2^k) p0 p1;refine⟨decide (i/3/2^k%2=1),n,hn.1,hn.2,?_⟩;have a:=Q_ fs (.bl (decide (i/3/2^k%2=1))) hf;have m3:=Ej i 3 (by decide);rw[h] at m3;simp only[ciK,DK,m3,s1,d1,d2,a,Int.reduceLT]
 all_goals
  have m3:=Ej i 3 (by decide);rw[h] at m3;have e1:=Ln n n (by omega);have e2:=iT 48271 n (by decide);have e4:=Ej (n*n+48271*n+(k:Int)+1) 2147483629 (by decide);have b0:0<=(n*n+48271*n+(k:Int)+1)%2147483629:=z0I _ (by decide);have b1:(n*n+48271*n+(k:Int)+1)%2147483629<2147483629:=z0U _ (by decide);generalize (n*n+48271*n+(k:Int)+1)%2147483629=n' at e4 b0 b1
 ·have e3:mulD (.int 2) (.int 1)=some (.int 2):=by rfl
  have a:=Q_ fs (.bl (decide (n'/7%2=0))) hf;refine⟨decide (n'/7%2=0),n',b0,b1,?_⟩;simp only[ciK,DK,m3,e1,e2,e3,e4,a,Int.reduceLT]
 ·have e3:mulD (.int 2) (.int 2)=some (.int 4):=by rfl
  have a:=Q_ fs (.bl (decide (n'/7%4=0))) hf;refine⟨decide (n'/7%4=0),n',b0,b1,?_⟩;simp only[ciK,DK,m3,e1,e2,e3,e4,a,Int.reduceLT]
theorem QG (i:Int) (mm:Nat) (hm:mm<=25):∃ bs:List Bool,Dg [.int i,.int (mm:Int)]=some (.lst (bs.map .bl))/\bs.length=mm:=by
 have n0:0<=i/3%2147483629:=z0I _ (by decide);have n1:i/3%2147483629<2147483629:=z0U _ (by decide);obtain⟨ρ',e,bs,n',z4,rfl,hl,_⟩:=Jz (b:=tgB (Ay 4) DK) (ds:=rngD mm) (ρ:=[.fz (.int i),.fz (.int (mm:Int)),.ow (.lst []),.fz (.int (i/3%2147483629)),.un])
  (P:=λ k ρ=>∃ (bs:List Bool) (n':Int) (z:Slot),ρ=[.fz (.int i),.fz (.int (mm:Int)),.ow (.lst (bs.map .bl)),.fz (.int n'),z]/\bs.length=k/\0<=n'/\n'<2147483629) 0 ⟨[],_,.un,rfl,rfl,n0,n1⟩ (by
   rintro k d ρ hd ⟨bs,n',z,rfl,hl,hn0,hn1⟩;have hk:k<mm:=by
    have:=(z0m.mp hd).1
    rwa [Ek] at this
   have ed:d=.int (k:Int):=by
    have:=hd;simp[rngD,hk] at this;exact this.symm
   subst ed;obtain⟨b,n2,h1,h2,st⟩:=fG i mm k (by omega) (bs.map .bl) (by simp;omega) n' ⟨hn0,hn1⟩;refine⟨_,?_,bs++[b],n2,.fz (.int (k:Int)),rfl,by simp;omega,h1,h2⟩;rw[e_tg,JR,Ip];rw[z0y];exact st)
 rw[Ek,z0T] at hl;refine⟨bs,?_,hl⟩;have e6:=G8 (mm:Int) (by omega);simp only[diK,Dg,J8,e6,z0K,e,Int.reduceLT]
theorem S_ {ws:List Str}{k:Nat}(h:k<ws.length):ixE (.lst (ws.map .str)) (.int (k:Int))=some (.str ws[k]):=by
 show atI (ws.map D.str) (k:Int)=_;rw[Fl,z04];simp[h]
theorem ZD {bs:List Bool}{k:Nat}(h:k<bs.length):ixE (.lst (bs.map .bl)) (.int (k:Int))=some (.bl bs[k]):=by
 show atI (bs.map D.bl) (k:Int)=_;rw[Fl,z04];simp[h]
structure Mk (n:Nat) (ms:List (Str×List Nat)):Prop where
 ok:∀ p∈ms,p.2.Nodup/\p.2.length<=100/\∀ t∈p.2,t<n
structure Tk (n:Nat) (ts:List (Str×List (Nat×Nat))):Prop where
 ok:∀ p∈ts,p.2.Nodup/\p.2.length<=100/\∀ q∈p.2,q.1<n/\q.2<n
theorem aO (ns:List Int) (c:D) (n m:Nat) (hn:n<=5) (ws:List Str) (k:Nat) (hk:k<m) (hkw:k<ws.length) (ms:List (Str×List Nat)) (hl:ms.length<=50) (nt:ws[k]∉ms.map (·.1)) (hm:Mk n ms) (w7 z9:Slot) :
  ∃ l z,Bw [.fz (.lst (ns.map .int)),.fz (.int 0),.fz c,.fz (.int (n:Int)),.fz (.int (m:Int)),.fz (.lst (ws.map .str)),.ow (.dk (eM ms)),w7,.fz (.int (k:Int)),z9]
   = some (.nx [.fz (.lst (ns.map .int)),.fz (.int 0),.fz c,.fz (.int (n:Int)),.fz (.int (m:Int)),.fz (.lst (ws.map .str)),.ow (.dk (eM (ms++[(ws[k],l)]))),w7,.fz (.int (k:Int)),z])/\Mk n (ms++[(ws[k],l)]):=by
 obtain⟨i,ci⟩:=QF ns (2+k);obtain⟨bs,hb,hbl⟩:=QG i n (by omega);have ce:(0:Int)+2+(k:Int)=((2+k:Nat):Int):=by omega
 have lt:decide ((k:Int)<(m:Int))=true:=by simp;omega
 have cm:CK (rngI (vF 3)) HH J9 [.fz (.lst (ns.map .int)),.fz (.int 0),.fz c,.fz (.int (n:Int)),.fz (.int (m:Int)),.fz (.lst (ws.map .str)),.ow (.dk (eM ms)),w7,.fz (.int (k:Int)),.fz (.lst (bs.map .bl))]=some (lM ((List.range n).filter λ t=>bs.getD t false)):=
  Ko (λ t=>bs.getD t false) iN _ (fD n (by omega) _ 3 rfl) (by omega) (λ t ht=>by
   have ix:=ZD (bs:=bs) (k:=t) (by omega);have eg:bs.getD t false=bs[t]'(by omega):=by rw[z0v,z06 (by omega)];rfl
   simp only[cK,HH,ix,eg]) λ t ht=>rfl
 have pk:Cq (.dk (eM ms)) (.str ws[k]) (lM ((List.range n).filter λ t=>bs.getD t false))=some (.dk (eM (ms++[(ws[k],(List.range n).filter λ t=>bs.getD t false)]))):=by
  rw[LR _ _ _ (by simp[eM];omega)];have:(.inr ws[k]:Key)∉(eM ms).map (·.1):=Gi lM nt;rw[putL_new this];simp[eM]
 have ix:=S_ hkw;refine⟨(List.range n).filter λ t=>bs.getD t false,.fz (.lst (bs.map .bl)),?_,⟨λ p hp=>?_⟩⟩
 ·simp only[ciK,Bw,lt,ce,ci,hb,SJ,J0,ix,cm,Nb,pk]
 ·rcases z0L.mp hp with q | q
  ·exact hm.ok p q
  ·obtain rfl:=z1h.mp q;refine⟨C_ n _,?_,λ t ht=>z0o.mp (z0q.mp ht).1⟩;have:=List.length_filter_le (λ t=>bs.getD t false) (List.range n);rw[List.length_range] at this;show ((List.range n).filter _).length<=100;omega
theorem fH (ns:List Int) (c:D) (n m:Nat) (hn:n<=5) (ws:List Str) (k:Nat) (hk:m<=k) (hkw:k<ws.length) (ts:List (Str×List (Nat×Nat))) (hl:ts.length<=50) (nt:ws[k]∉ts.map (·.1)) (hm:Tk n ts) (w6 z9:Slot) :
  ∃ l z,Bw [.fz (.lst (ns.map .int)),.fz (.int 0),.fz c,.fz (.int (n:Int)),.fz (.int (m:Int)),.fz (.lst (ws.map .str)),w6,.ow (.dk (eT ts)),.fz (.int (k:Int)),z9]
   = some (.nx [.fz (.lst (ns.map .int)),.fz (.int 0),.fz c,.fz (.int (n:Int)),.fz (.int (m:Int)),.fz (.lst (ws.map .str)),w6,.ow (.dk (eT (ts++[(ws[k],l)]))),.fz (.int (k:Int)),z])/\Tk n (ts++[(ws[k],l)]):=by
 have hnn:n*n<=25:=Nat.mul_le_mul hn hn;obtain⟨i,ci⟩:=QF ns (5+k-m);obtain⟨bs,hb,hbl⟩:=QG i (n*n) hnn;have ce:(0:Int)+5+(k:Int)-(m:Int)=((5+k-m:Nat):Int):=by omega
 have lt:decide ((k:Int)<(m:Int))=false:=by simp;omega
 have mu:=Ln (n:Int) (n:Int) (by omega);have mc:(n:Int)*(n:Int)=((n*n:Nat):Int):=by simp
 rw[mc] at mu;have rg:rngI (bF mulD (vF 3) (vF 3)) [.fz (.lst (ns.map .int)),.fz (.int 0),.fz c,.fz (.int (n:Int)),.fz (.int (m:Int)),.fz (.lst (ws.map .str)),w6,.ow (.dk (eT ts)),.fz (.int (k:Int)),.fz (.lst (bs.map .bl))]=some (rngD (n*n)):=by
  have e6:=G8 ((n*n:Nat):Int) (by omega);rw[z0K] at e6;simp only[cK,mu,e6]
 have cm:CK (rngI (bF mulD (vF 3) (vF 3))) HJ HN [.fz (.lst (ns.map .int)),.fz (.int 0),.fz c,.fz (.int (n:Int)),.fz (.int (m:Int)),.fz (.lst (ws.map .str)),w6,.ow (.dk (eT ts)),.fz (.int (k:Int)),.fz (.lst (bs.map .bl))]=some (.lst (((List.range (n*n)).filter λ t=>bs.getD t false).map λ t=>pN (t/n,t%n))):=
  Ko (λ t=>bs.getD t false) (λ t=>pN (t/n,t%n)) _ rg (by omega) (λ t ht=>by
   have ix:=ZD (bs:=bs) (k:=t) (by omega);have eg:bs.getD t false=bs[t]'(by omega):=by rw[z0v,z06 (by omega)];rfl
   simp only[cK,HJ,ix,eg]) λ t ht=>by
   have n0:0<n:=by
    rcases Nat.eq_zero_or_pos n with z | z
    ·subst z;simp at ht
    ·exact z
   have d1:=Fv (t:Int) (n:Int) (by omega) (by omega);have d2:=Ej (t:Int) (n:Int) (by omega);have q1:(t:Int)/(n:Int)=((t/n:Nat):Int):=by simp
   have q2:(t:Int)%(n:Int)=((t%n:Nat):Int):=by simp
   rw[q1] at d1;rw[q2] at d2;simp only[cK,HN,d1,d2]
 have el:(.lst (((List.range (n*n)).filter λ t=>bs.getD t false).map λ t=>pN (t/n,t%n)):D)=lT (((List.range (n*n)).filter λ t=>bs.getD t false).map λ t=>(t/n,t%n)):=by simp[lT]
 rw[el] at cm;have pk:Cq (.dk (eT ts)) (.str ws[k]) (lT (((List.range (n*n)).filter λ t=>bs.getD t false).map λ t=>(t/n,t%n)))=some (.dk (eT (ts++[(ws[k],((List.range (n*n)).filter λ t=>bs.getD t false).map λ t=>(t/n,t%n))]))):=by
  rw[LR _ _ _ (by simp[eT];omega)];have:(.inr ws[k]:Key)∉(eT ts).map (·.1):=Gi lT nt;rw[putL_new this];simp[eT]
 have ix:=S_ hkw;refine⟨((List.range (n*n)).filter λ t=>bs.getD t false).map λ t=>(t/n,t%n),.fz (.lst (bs.map .bl)),?_,⟨λ p hp=>?_⟩⟩
 ·simp only[ciK,Bw,lt,ce,ci,mu,hb,SJ,J0,ix,cm,Nb,pk]
 ·rcases z0L.mp hp with q | q
  ·exact hm.ok p q
  ·obtain rfl:=z1h.mp q;refine⟨?_,?_,λ q hq=>?_⟩
   ·rw[List.Nodup,z16];refine List.Pairwise.imp (λ {a b} hab e=>hab ?_) (C_ (n*n) _);simp only[Prod.mk.injEq] at e;have h1:=Nat.div_add_mod a n;have h2:=Nat.div_add_mod b n;rw[e.1,e.2] at h1;exact h1.symm.trans h2
   ·have:=List.length_filter_le (λ t=>bs.getD t false) (List.range (n*n));rw[List.length_range] at this;show (((List.range (n*n)).filter _).map _).length<=100;rw[z00];omega
   ·obtain⟨t,ht,rfl⟩:=z05.mp hq;have ht:=z0o.mp (z0q.mp ht).1;have n0:0<n:=by
     rcases Nat.eq_zero_or_pos n with z | z
     ·subst z;simp at ht
     ·exact z
    exact⟨Nat.div_lt_of_lt_mul ht,Nat.mod_lt _ n0⟩
theorem aP (a:Int) (b:Bool):ixE (.lst [.int a,.int 5]) (.int (if b then 1 else 0))=some (.int (if b then 5 else a)):=by cases b<;>rfl
theorem pO (l:List D):lenE (.lst l)=some (.int l.length):=Qe l
theorem fJ (ns:List Int):∃ W:Wl,WOk W/\Et [.lst (ns.map .int),.int 0]=some (.lst [.int (W.n:Int),.dk (eM W.ms),.dk (eT W.ts)]):=by
 obtain⟨c,hc⟩:=QF ns 0;obtain⟨c1,hc1⟩:=QF ns 1;have s0:0<=c/9%5:=z0I _ (by decide);have s1:c/9%5<5:=z0U _ (by decide);obtain⟨n,en⟩:∃ n:Nat,(n:Int)=(if decide (c/45%12=11) then 5 else c/9%5):=⟨(if decide (c/45%12=11) then 5 else c/9%5).toNat,by split<;>omega⟩;have hn:n<=5:=by
  have:(n:Int)<=5:=by rw[en];split<;>omega
  omega
 have m0:0<=c%4:=z0I _ (by decide);have m1:c%4<4:=z0U _ (by decide);obtain⟨m,em⟩:∃ m:Nat,(m:Int)=c%4:=⟨(c%4).toNat,by omega⟩;have t0:0<=c/4%4:=z0I _ (by decide);have t1:c/4%4<4:=z0U _ (by decide);obtain⟨t,et⟩:∃ t:Nat,(t:Int)=c/4%4:=⟨(c/4%4).toNat,by omega⟩;have hm3:m<=3:=by omega
 have ht3:t<=3:=by omega
 obtain⟨ws,hws,hwl,hwd,hnd⟩:=eZ c1 (m+t) (by omega);obtain⟨ρ',e,ms,ts,z8,z9,rfl,a1,a2,a3,a4⟩:=Jz (b:=tgB (Ay 8) Bw) (ds:=rngD (m+t)) (ρ:=[.fz (.lst (ns.map .int)),.fz (.int 0),.fz (.int c),.fz (.int (n:Int)),.fz (.int (m:Int)),.fz (.lst (ws.map .str)),.ow (.dk (eM [])),.ow (.dk (eT [])),.un,.un])
  (P:=λ k ρ=>∃ (ms:List (Str×List Nat)) (ts:List (Str×List (Nat×Nat))) (z8 z9:Slot),ρ=[.fz (.lst (ns.map .int)),.fz (.int 0),.fz (.int c),.fz (.int (n:Int)),.fz (.int (m:Int)),.fz (.lst (ws.map .str)),.ow (.dk (eM ms)),.ow (.dk (eT ts)),z8,z9]/\ms.map (·.1)=(ws.take m).take k/\ts.map (·.1)=(ws.drop m).take (k-m)/\Mk n ms/\Tk n ts) 0 ⟨[],[],.un,.un,rfl,by simp,by simp,⟨by simp⟩,⟨by simp⟩⟩ (by
   rintro k d ρ hd ⟨ms,ts,z8,z9,rfl,a1,a2,a3,a4⟩;have hk:k<m+t:=by
    have:=(z0m.mp hd).1
    rwa [Ek] at this
   have ed:d=.int (k:Int):=by
    have:=hd;simp[rngD,hk] at this;exact this.symm
   subst ed;rw[z0T] at *;have hkw:k<ws.length:=by omega
   by_cases hkm:k<m
   ·have nt:ws[k]∉ms.map (·.1):=by
     rw[a1,List.take_take];intro q;obtain⟨j,hj,ej⟩:=z1r q;rw[z0W] at hj;rw[List.getElem_take] at ej;have:=Su hnd (by omega) hkw ej;omega
    have l1:=congrArg List.length a1;simp at l1;obtain⟨l,z,st,hm'⟩:=aO ns (.int c) n m hn ws k hkm hkw ms (by omega) nt a3 (.ow (.dk (eT ts))) z9;refine⟨_,?_,ms++[(ws[k],l)],ts,.fz (.int (k:Int)),z,rfl,?_,?_,hm',a4⟩
    ·rw[e_tg,JR,Ip];exact st
    ·rw[z0y,a1,List.take_take,List.take_take,show min k m=k by omega,show min (k+1) m=k+1 by omega,List.take_succ,z06 hkw];rfl
    ·rw[a2,show k-m=0 by omega,show k+1-m=0 by omega]
   ·have nt:ws[k]∉ts.map (·.1):=by
     rw[a2];intro q;obtain⟨j,hj,ej⟩:=z1r q;rw[z0W,z18] at hj;rw[List.getElem_take,List.getElem_drop] at ej;have:=Su hnd (by omega) hkw ej;omega
    have l1:=congrArg List.length a2;simp at l1;obtain⟨l,z,st,hm'⟩:=fH ns (.int c) n m hn ws k (by omega) hkw ts (by omega) nt a4 (.ow (.dk (eM ms))) z9;refine⟨_,?_,ms,ts++[(ws[k],l)],.fz (.int (k:Int)),z,rfl,?_,?_,a3,hm'⟩
    ·rw[e_tg,JR,Ip];exact st
    ·rw[a1,List.take_take,List.take_take,show min k m=m by omega,show min (k+1) m=m by omega]
    ·rw[z0y,a2,show k+1-m=(k-m)+1 by omega,List.take_succ,List.getElem?_drop,show m+(k-m)=k by omega,z06 hkw];rfl)
 rw[Ek,z0T] at *;have b1:ms.map (·.1)=ws.take m:=by rw[a1,List.take_take,show min (m+t) m=m by omega]
 have b2:ts.map (·.1)=ws.drop m:=by rw[a2,List.take_of_length_le (by rw[z18];omega)]
 refine⟨⟨n,ms,ts⟩,⟨hn,?_,?_,λ p hp=>?_,λ p hp=>?_,?_,a3.ok,a4.ok⟩,?_⟩
 ·have:=congrArg List.length b1;simp at this;show ms.length<=3;omega
 ·have:=congrArg List.length b2;simp at this;show ts.length<=3;omega
 ·refine hwd _ (List.mem_of_mem_take (i:=m) ?_);rw[<-b1];exact z05.mpr ⟨p,hp,rfl⟩
 ·refine hwd _ (List.mem_of_mem_drop (i:=m) ?_);rw[<-b2];exact z05.mpr ⟨p,hp,rfl⟩
 ·show (ms.map (·.1)++ts.map (·.1)).Nodup;rw[b1,b2,List.take_append_drop];exact hnd
 ·have e6:=G8 ((m+t:Nat):Int) (by omega);rw[z0K] at e6;have i1:(0:Int)+1=((1:Nat):Int):=rfl;have i0:(0:Int)=((0:Nat):Int):=rfl;have hc':Ah [.lst (ns.map .int),.int 0]=some (.int c):=hc;have hc1':Ah [.lst (ns.map .int),.int 1]=some (.int c1):=hc1;have sp:=aP (c/9%5) (decide (c/45%12=11));rw[<-en] at sp;have mt:(m:Int)+(t:Int)=((m+t:Nat):Int):=by simp
  have lw:lenE (.lst (ws.map .str))=some (.int ((m+t:Nat):Int)):=by rw[pO,z00,hwl]
  have w0:(.dk []:D)=.dk (eM []):=rfl;have w1:(.dk []:D)=.dk (eT []):=rfl;have e':forF (tgB (Ay 8) Bw) (rngD (m+t)) [.fz (.lst (ns.map .int)),.fz (.int 0),.fz (.int c),.fz (.int (n:Int)),.fz (.int (m:Int)),.fz (.lst (ws.map .str)),.ow (.dk []),.ow (.dk []),.un,.un]=_:=e;simp only[diK,Et,Jd,l_,hc',Int.reduceLT,Int.reduceAdd,hc1',sp,<-em,<-et,mt,hws,lw,e6,e']
theorem aQ {α β:Type}(f:α->β) (l:List α) (j:Nat):(l.map f).eraseIdx j=(l.eraseIdx j).map f:=by
 rw[List.eraseIdx_eq_take_drop_succ,List.eraseIdx_eq_take_drop_succ,z0y,List.map_take,List.map_drop]
theorem pop_at (xs:List Nat) (j:Nat) (h:j<xs.length):popD (.lst (xs.map iN)) (.int (j:Int))=some (iN xs[j],.lst ((xs.eraseIdx j).map iN)):=by
 have e:(xs.map iN)[j]?=some (iN xs[j]):=by rw[z04,z06 h];rfl
 show (if 0<=(j:Int)/\(j:Int)<((xs.map iN).length:Nat) then ((xs.map iN)[((j:Int)).toNat]?).map (λ d=>(d,D.lst ((xs.map iN).eraseIdx ((j:Int)).toNat))) else none)=_;rw[if_pos ⟨by omega,by rw[z00];omega⟩,z0K,e,aQ];rfl
theorem pP (xs:List Nat):eqD true (.lst (xs.map iN)) (.lst [])=some (.bl (decide (xs≠[]))):=by
 cases xs with
 | nil=>rfl
 | cons x r=>
  show (eqvD (.lst _) (.lst _)).map _=_;have:eqvD (.lst ((x::r).map iN)) (.lst [])=some false:=by
   show (if ((x::r).map iN).length=([]:List D).length then allO (eqK 180) ((x::r).map iN) [] else some false)=some false;exact if_neg (by simp)
  rw[this];rfl
theorem JX {α:Type}(xs:List α) (j:Nat) (h:j<xs.length):(xs[j]::xs.eraseIdx j).Perm xs:=by
 rw[List.eraseIdx_eq_take_drop_succ];have e:xs.take j++xs[j]::xs.drop (j+1)=xs:=by rw[<-z1l h,List.take_append_drop]
 exact (List.perm_middle.symm).trans (by rw[e])
theorem WL (n:D):∀ (k:Nat) (xs ys:List Nat) (i:Int) (f:Nat),xs.length=k->xs.length+ys.length<=100->k<f->∃ i' zs,zs.Perm xs ∧
  Fj Be Bj f [.fz (.int i),.fz n,.ow (lN xs),.ow (lN ys)]=some (.nx [.fz (.int i'),.fz n,.ow (.lst []),.ow (lN (ys++zs))])
 | k,xs,ys,i,0,_,_,hf=>by omega
 | 0,xs,ys,i,f+1,hl,_,hf=>by
  have e:xs=[]:=List.eq_nil_of_length_eq_zero hl;subst e;refine⟨i,[],.nil,?_⟩;unfold Fj;have t:Be [.fz (.int i),.fz n,.ow (lN []),.ow (lN ys)]=some false:=by
   simp only[cK,Be,lN];rfl
  rw[t,z0w];rfl
 | k+1,xs,ys,i,f+1,hl,hs,hf=>by
  have t:Be [.fz (.int i),.fz n,.ow (lN xs),.ow (lN ys)]=some true:=by
   have q:=pP xs;have:xs≠[]:=λ z=>by subst z;simp at hl
   simp only[cK,Be,lN,q,this,ne_eq,not_false_eq_true]
  have j0:0<=i%(xs.length:Int):=z0I _ (by omega);have j1:i%(xs.length:Int)<xs.length:=z0U _ (by omega);obtain⟨j,ej⟩:∃ j:Nat,(j:Int)=i%(xs.length:Int):=⟨(i%(xs.length:Int)).toNat,by omega⟩;have hj:j<xs.length:=by omega
  have pp:=pop_at xs j hj;have le:(xs.eraseIdx j).length=k:=by rw[List.length_eraseIdx_of_lt hj];omega
  have m1:=Ej i (xs.length:Int) (by omega);have m2:=Fv i ((xs.eraseIdx j).length+1:Int) (by omega) (by omega);have ll:=Qe (xs.map iN);rw[z00] at ll;have ll2:=Qe ((xs.eraseIdx j).map iN);rw[z00] at ll2;have ap:appL (.lst (ys.map iN)) (iN xs[j])=some (.lst ((ys++[xs[j]]).map iN)):=by rw[Q_ _ _ (by simp;omega),z0y];rfl
  obtain⟨i',zs,pz,ih⟩:=WL n k (xs.eraseIdx j) (ys++[xs[j]]) (i/((xs.eraseIdx j).length+1:Int)) f le (by rw[le,z0j];simp;omega) (by omega);refine⟨i',xs[j]::zs,(List.Perm.cons _ pz).trans (JX xs j hj),?_⟩;have b1:appX 3 (popX 2 (bF modD (vF 0) (uF lenD (vU 2)))) [.fz (.int i),.fz n,.ow (lN xs),.ow (lN ys)]=some (.nx [.fz (.int i),.fz n,.ow (lN (xs.eraseIdx j)),.ow (lN (ys++[xs[j]]))]):=by
   have v1:bF modD (vF 0) (uF lenD (vU 2)) [.fz (.int i),.fz n,.ow (lN xs),.ow (lN ys)]=some (.int (j:Int)):=by
    rw[ej];simp only[cK,lN,ll,m1]
   unfold appX popX;rw[v1];simp only[ownO,z1t,z1u,z0p,lN,pp,z0E,z0P,z0O,lstQ,ap]
  have b2:Bj [.fz (.int i),.fz n,.ow (lN xs),.ow (lN ys)]=some (.nx [.fz (.int (i/((xs.eraseIdx j).length+1:Int))),.fz n,.ow (lN (xs.eraseIdx j)),.ow (lN (ys++[xs[j]]))]):=by
   unfold Bj;rw[Vc,b1,e_nx];simp only[ciK,lN,ll2,m2]
  unfold Fj;rw[t];show (match Bj _ with | some (.nx ρ')=>Fj Be Bj f ρ' | some (.ct ρ')=>Fj Be Bj f ρ' | some (.bk ρ')=>some (.nx ρ') | some (.rt e ρ')=>some (.rt e ρ') | none=>none)=_;rw[b2];show Fj Be Bj f _=_;rw[ih,z14];rfl
theorem fK (n:Nat) (h:n<=100):SM (.int (n:Int))=some (lN (List.range n)):=by
 show (if 0<=(n:Int)/\(n:Int)<=1000000 then some (D.lst (rngD (n:Int).toNat)) else none)=_;rw[if_pos ⟨by omega,by omega⟩,z0K];rfl
theorem Qo (i:Int) (n:Nat) (hn:n<=5):∃ os:List Nat,os.Perm (List.range n)/\Gs [.int i,.int (n:Int)]=some (lN os):=by
 obtain⟨i',zs,pz,e⟩:=WL (.int (n:Int)) n (List.range n) [] i 60 (by simp) (by simp;omega) (by omega);rw[z0Q] at e;refine⟨zs,pz,?_⟩;have r:=fK n (by omega);have e0:(D.lst [])=lN []:=rfl;simp only[dK,Gs,Jb,r,e0,e]
theorem Uz (ms:List (Str×List Nat)):(eM ms).map (λ p=>kDt p.1)=(ms.map (·.1)).map .str:=by simp[eM,Oe]
theorem U0 (ts:List (Str×List (Nat×Nat))):(eT ts).map (λ p=>kDt p.1)=(ts.map (·.1)).map .str:=by simp[eT,Oe]
theorem WM (ns:List Int) (s w mo:D) (n:Nat) (hn:n<=5) (w6:Slot):∀ (r:List Str) (ms:List (Str×List Nat)) (k:Nat) (z8 z9:Slot),(ms.map (·.1)++r).Nodup->(ms.map (·.1)++r).length<=50->∃ ms' y8 y9,ms'.map (·.1)=r/\Mk n ms' ∧
  forF (tgB (Ay 8) Eu) (r.map .str) [.fz (.lst (ns.map .int)),.fz s,.fz w,.fz mo,.fz (.int (n:Int)),.ow (.dk (eM ms)),w6,.fz (.int (k:Int)),z8,z9]=some (.nx [.fz (.lst (ns.map .int)),.fz s,.fz w,.fz mo,.fz (.int (n:Int)),.ow (.dk (eM (ms++ms'))),w6,.fz (.int ((k+r.length:Nat):Int)),y8,y9])
 | [],ms,k,z8,z9,_,_=>⟨[],z8,z9,rfl,⟨by simp⟩,by rw[z0w];rfl⟩
 | x::r,ms,k,z8,z9,nd,hl=>by
  obtain⟨bs,hb,hbl⟩:=QG (ns.getD (k+1) 0) n (by omega);have ci:=G5 ns (k+1);have ce:(k:Int)+1=((k+1:Nat):Int):=by omega
  have nt:x∉ms.map (·.1):=λ q=>by
   rw[z0u] at nd;exact nd.2.2 x q x (by simp) rfl
  have cm:CK (rngI (vF 4)) HQ J_ [.fz (.lst (ns.map .int)),.fz s,.fz w,.fz mo,.fz (.int (n:Int)),.ow (.dk (eM ms)),w6,.fz (.int ((k+1:Nat):Int)),.fz (.str x),.fz (.lst (bs.map .bl))]=some (lM ((List.range n).filter λ t=>bs.getD t false)):=
   Ko (λ t=>bs.getD t false) iN _ (fD n (by omega) _ 4 rfl) (by omega) (λ t ht=>by
    have ix:=ZD (bs:=bs) (k:=t) (by omega);have eg:bs.getD t false=bs[t]'(by omega):=by rw[z0v,z06 (by omega)];rfl
    simp only[cK,HQ,ix,eg]) λ t ht=>rfl
  have pk:Cq (.dk (eM ms)) (.str x) (lM ((List.range n).filter λ t=>bs.getD t false))=some (.dk (eM (ms++[(x,(List.range n).filter λ t=>bs.getD t false)]))):=by
   rw[LR _ _ _ (by simp[eM] at hl ⊢;omega)];have:(.inr x:Key)∉(eM ms).map (·.1):=Gi lM nt;rw[putL_new this];simp[eM]
  have st:Eu [.fz (.lst (ns.map .int)),.fz s,.fz w,.fz mo,.fz (.int (n:Int)),.ow (.dk (eM ms)),w6,.fz (.int (k:Int)),.fz (.str x),z9]=some (.nx [.fz (.lst (ns.map .int)),.fz s,.fz w,.fz mo,.fz (.int (n:Int)),.ow (.dk (eM (ms++[(x,(List.range n).filter λ t=>bs.getD t false)]))),w6,.fz (.int ((k+1:Nat):Int)),.fz (.str x),.fz (.lst (bs.map .bl))]):=by
   simp only[ciK,Eu,ce,ci,hb,SJ,J0,cm,Nb,pk]
  obtain⟨ms',y8,y9,h1,h2,ih⟩:=WM ns s w mo n hn w6 r (ms++[(x,(List.range n).filter λ t=>bs.getD t false)]) (k+1) (.fz (.str x)) (.fz (.lst (bs.map .bl))) (by simpa using nd) (by simpa using hl);refine⟨(x,(List.range n).filter λ t=>bs.getD t false)::ms',y8,y9,by simp[h1],⟨λ p hp=>?_⟩,?_⟩
  ·rcases z08.mp hp with q | q
   ·subst q;refine⟨C_ n _,?_,λ t ht=>z0o.mp (z0q.mp ht).1⟩;have:=List.length_filter_le (λ t=>bs.getD t false) (List.range n);rw[List.length_range] at this;show ((List.range n).filter _).length<=100;omega
   ·exact h2.ok p q
  ·w_up
   rw[st,CQ,ih,z14,z0B,show k+1+r.length=k+(r.length+1) by omega];rfl
theorem ZF (ns:List Int) (s w mo:D) (n:Nat) (hn:n<=5) (w5:Slot):∀ (r:List Str) (ts:List (Str×List (Nat×Nat))) (k:Nat) (z8 z9:Slot),(ts.map (·.1)++r).Nodup->(ts.map (·.1)++r).length<=50->∃ ts' y8 y9,ts'.map (·.1)=r/\Tk n ts' ∧
  forF (tgB (Ay 8) Ew) (r.map .str) [.fz (.lst (ns.map .int)),.fz s,.fz w,.fz mo,.fz (.int (n:Int)),w5,.ow (.dk (eT ts)),.fz (.int (k:Int)),z8,z9]=some (.nx [.fz (.lst (ns.map .int)),.fz s,.fz w,.fz mo,.fz (.int (n:Int)),w5,.ow (.dk (eT (ts++ts'))),.fz (.int ((k+r.length:Nat):Int)),y8,y9])
 | [],ts,k,z8,z9,_,_=>⟨[],z8,z9,rfl,⟨by simp⟩,by rw[z0w];rfl⟩
 | x::r,ts,k,z8,z9,nd,hl=>by
  have hnn:n*n<=25:=Nat.mul_le_mul hn hn;obtain⟨bs,hb,hbl⟩:=QG (ns.getD (k+1) 0) (n*n) hnn;have ci:=G5 ns (k+1);have ce:(k:Int)+1=((k+1:Nat):Int):=by omega
  have mu:=Ln (n:Int) (n:Int) (by omega);have mc:(n:Int)*(n:Int)=((n*n:Nat):Int):=by simp
  rw[mc] at mu;have nt:x∉ts.map (·.1):=λ q=>by
   rw[z0u] at nd;exact nd.2.2 x q x (by simp) rfl
  have rg:rngI (bF mulD (vF 4) (vF 4)) [.fz (.lst (ns.map .int)),.fz s,.fz w,.fz mo,.fz (.int (n:Int)),w5,.ow (.dk (eT ts)),.fz (.int ((k+1:Nat):Int)),.fz (.str x),.fz (.lst (bs.map .bl))]=some (rngD (n*n)):=by
   have e6:=G8 ((n*n:Nat):Int) (by omega);rw[z0K] at e6;simp only[cK,mu,e6]
  have cm:CK (rngI (bF mulD (vF 4) (vF 4))) HR HS [.fz (.lst (ns.map .int)),.fz s,.fz w,.fz mo,.fz (.int (n:Int)),w5,.ow (.dk (eT ts)),.fz (.int ((k+1:Nat):Int)),.fz (.str x),.fz (.lst (bs.map .bl))]=some (.lst (((List.range (n*n)).filter λ t=>bs.getD t false).map λ t=>pN (t/n,t%n))):=
   Ko (λ t=>bs.getD t false) (λ t=>pN (t/n,t%n)) _ rg (by omega) (λ t ht=>by
    have ix:=ZD (bs:=bs) (k:=t) (by omega);have eg:bs.getD t false=bs[t]'(by omega):=by rw[z0v,z06 (by omega)];rfl
    simp only[cK,HR,ix,eg]) λ t ht=>by
    have n0:0<n:=by
     rcases Nat.eq_zero_or_pos n with z | z
     ·subst z;simp at ht
     ·exact z
    have d1:=Fv (t:Int) (n:Int) (by omega) (by omega);have d2:=Ej (t:Int) (n:Int) (by omega);have q1:(t:Int)/(n:Int)=((t/n:Nat):Int):=by simp
    have q2:(t:Int)%(n:Int)=((t%n:Nat):Int):=by simp
    rw[q1] at d1;rw[q2] at d2;simp only[cK,HS,d1,d2]
  have el:(.lst (((List.range (n*n)).filter λ t=>bs.getD t false).map λ t=>pN (t/n,t%n)):D)=lT (((List.range (n*n)).filter λ t=>bs.getD t false).map λ t=>(t/n,t%n)):=by simp[lT]
  rw[el] at cm;generalize hX:((List.range (n*n)).filter λ t=>bs.getD t false).map (λ t=>(t/n,t%n))=Xs at cm;have hXs:Xs.Nodup/\Xs.length<=100/\∀ q∈Xs,q.1<n/\q.2<n:=by
   subst hX;refine⟨?_,?_,λ q hq=>?_⟩
   ·rw[List.Nodup,z16];refine List.Pairwise.imp (λ {a b} hab e=>hab ?_) (C_ (n*n) _);simp only[Prod.mk.injEq] at e;have h1:=Nat.div_add_mod a n;have h2:=Nat.div_add_mod b n;rw[e.1,e.2] at h1;exact h1.symm.trans h2
   ·have:=List.length_filter_le (λ t=>bs.getD t false) (List.range (n*n));rw[List.length_range] at this;rw[z00];omega
   ·obtain⟨t,ht,rfl⟩:=z05.mp hq;have ht:=z0o.mp (z0q.mp ht).1;have n0:0<n:=by
     rcases Nat.eq_zero_or_pos n with z | z
     ·subst z;simp at ht
     ·exact z
    exact⟨Nat.div_lt_of_lt_mul ht,Nat.mod_lt _ n0⟩
  have pk:Cq (.dk (eT ts)) (.str x) (lT Xs)=some (.dk (eT (ts++[(x,Xs)]))):=by
   rw[LR _ _ _ (by simp[eT] at hl ⊢;omega)];have:(.inr x:Key)∉(eT ts).map (·.1):=Gi lT nt;rw[putL_new this];simp[eT]
  have st:Ew [.fz (.lst (ns.map .int)),.fz s,.fz w,.fz mo,.fz (.int (n:Int)),w5,.ow (.dk (eT ts)),.fz (.int (k:Int)),.fz (.str x),z9]=some (.nx [.fz (.lst (ns.map .int)),.fz s,.fz w,.fz mo,.fz (.int (n:Int)),w5,.ow (.dk (eT (ts++[(x,Xs)]))),.fz (.int ((k+1:Nat):Int)),.fz (.str x),.fz (.lst (bs.map .bl))]):=by
   simp only[ciK,Ew,ce,ci,mu,hb,SJ,J0,cm,Nb,pk]
  obtain⟨ts',y8,y9,h1,h2,ih⟩:=ZF ns s w mo n hn w5 r (ts++[(x,Xs)]) (k+1) (.fz (.str x)) (.fz (.lst (bs.map .bl))) (by simpa using nd) (by simpa using hl);refine⟨(x,Xs)::ts',y8,y9,by simp[h1],⟨λ p hp=>?_⟩,?_⟩
  ·rcases z08.mp hp with q | q
   ·subst q;exact hXs
   ·exact h2.ok p q
  ·w_up
   rw[st,CQ,ih,z14,z0B,show k+1+r.length=k+(r.length+1) by omega];rfl
theorem ixw0 (W:Wl):ixE (wd W) (.int 0)=some (.int (W.n:Int)):=rfl
theorem ixw1 (W:Wl):ixE (wd W) (.int 1)=some (.dk (eM W.ms)):=rfl
theorem ixw2 (W:Wl):ixE (wd W) (.int 2)=some (.dk (eT W.ts)):=rfl
theorem fL (ns:List Int) (W:Wl) (h:WOk W) (m:Nat) (hm:m<=5) (hw:W.n<=m):∃ V:Wl,WOk V/\V.n<=m/\V.ms.map (·.1)=W.ms.map (·.1)/\V.ts.map (·.1)=W.ts.map (·.1) ∧
  Ex [.lst (ns.map .int),.int 8,wd W,.int (m:Int)]=some (wd V):=by
 have c8:Ah [.lst (ns.map .int),.int 8]=some (.int (ns.getD 8 0)):=G5 ns 8;have nd:=z0u.mp h.nd;have a0:0<=ns.getD 8 0/8%((m:Int)+1):=z0I _ (by omega);have a1:ns.getD 8 0/8%((m:Int)+1)<(m:Int)+1:=z0U _ (by omega);obtain⟨n2,e2⟩:∃ n2:Nat,(n2:Int)=ns.getD 8 0/8%((m:Int)+1):=⟨(ns.getD 8 0/8%((m:Int)+1)).toNat,by omega⟩;have b0:0<=ns.getD 8 0/4%2:=z0I _ (by decide);have b1:ns.getD 8 0/4%2<2:=z0U _ (by decide);obtain⟨n,en,hn⟩:∃ n:Nat,ixE (.lst [.int (W.n:Int),.int (ns.getD 8 0/8%((m:Int)+1))]) (.int (ns.getD 8 0/4%2))=some (.int (n:Int))/\n<=m:=by
  rcases (by omega:ns.getD 8 0/4%2=0∨ns.getD 8 0/4%2=1) with z | z
  ·exact⟨W.n,by rw[z];rfl,hw⟩
  ·exact⟨n2,by rw[z,e2];rfl,by omega⟩
 have md:=Ej (ns.getD 8 0/8) ((m:Int)+1) (by omega);obtain⟨ms,y8,y9,h1,h2,l1⟩:=WM ns (.int 8) (wd W) (.int (m:Int)) n (by omega) (.ow (.dk (eM []))) (W.ms.map (·.1)) [] 8 .un .un (by simpa using nd.1) (by have:=h.m3;simp;omega);obtain⟨ts,x8,x9,g1,g2,l2⟩:=ZF ns (.int 8) (wd W) (.int (m:Int)) n (by omega) (.ow (.dk (eM ms))) (W.ts.map (·.1)) [] (8+(W.ms.map (·.1)).length) y8 y9 (by simpa using nd.2.1) (by have:=h.t3;simp;omega);refine⟨⟨n,ms,ts⟩,⟨by show n<=5;omega,?_,?_,λ p hp=>?_,λ p hp=>?_,?_,h2.ok,g2.ok⟩,hn,h1,g1,?_⟩
 ·have:=congrArg List.length h1;simp at this;have:=h.m3;show ms.length<=3;omega
 ·have:=congrArg List.length g1;simp at this;have:=h.t3;show ts.length<=3;omega
 ·have:p.1∈W.ms.map (·.1):=by rw[<-h1];exact z05.mpr ⟨p,hp,rfl⟩
  obtain⟨q,hq,e⟩:=z05.mp this;rw[<-e];exact h.mw q hq
 ·have:p.1∈W.ts.map (·.1):=by rw[<-g1];exact z05.mpr ⟨p,hp,rfl⟩
  obtain⟨q,hq,e⟩:=z05.mp this;rw[<-e];exact h.tw q hq
 ·show (ms.map (·.1)++ts.map (·.1)).Nodup;rw[h1,g1];exact h.nd
 ·have em:(D.dk [])=D.dk (eM []):=rfl;have i0:=ixw0 W;have i1:=ixw1 W;have i2:=ixw2 W;have n1:=Uz W.ms;have n2':=U0 W.ts;have e8:(8:Int)=((8:Nat):Int):=rfl;rw[z0Q] at l1 l2;have em2:D.dk (eM ([]:List (Str×List Nat)))=D.dk (eT []):=rfl;rw[<-e8] at l1;have q1:Kv (some (D.dk (eM W.ms)))=some ((W.ms.map (·.1)).map .str):=by rw[Kg,n1]
  have q2:Kv (some (D.dk (eT W.ts)))=some ((W.ts.map (·.1)).map .str):=by rw[Kg,n2']
  simp only[ciK,Ex,Je,W_,Er,Qs,Qt,LQ,c8,i0,md,en,i1,em,q1,l1];rw[<-em2] at l2;simp only[cK,Er,Qs,Qt,LQ,i2,q2,l2];rfl
theorem jk (W:Wl) (m:Nat) (h:W.n<=m):Dd [wd W,.int (m:Int)]=some (wd W):=by
 have i0:=ixw0 W;have l:decide ((W.n:Int)<=(m:Int))=true:=by simp;omega
 simp only[ciK,Dd,HF,i0,l]
end K32
namespace K32
open PySem L2 PV EX
theorem RG {α:Type}(f:α->D) (w:Str):∀ (l:List (Str×α)),getK (.inr w:Key) (l.map λ p=>((.inr p.1:Key),f p.2))=(l.find? (λ p=>p.1=w)).map λ p=>f p.2
 | []=>rfl
 | p::r=>by
  rw[z03,z1f];show (if (.inr p.1:Key)=.inr w then some (f p.2) else getK (.inr w:Key) (r.map λ p=>((.inr p.1:Key),f p.2)))=_
  by_cases h:p.1=w
  ·simp[h]
  ·have:¬ ((.inr p.1:Key)=.inr w):=λ z=>h (Sum.inr.inj z);rw[if_neg this,RG f w r];simp[h]
theorem Nz (W:Wl):fldD "size" (wob W)=some (.int (W.n:Int)):=by
 show List.lookup ("size":Str) _=_;rfl
theorem RJ (W:Wl):fldD "marked" (wob W)=some (.dk (oM W.ms)):=by
 show List.lookup ("marked":Str) [(("size":Str),D.int (W.n:Int)),("marked",.dk (oM W.ms)),("tied",.dk (oT W.ts))]=_;simp only[List.lookup,q1];rfl
theorem XR (W:Wl):fldD "tied" (wob W)=some (.dk (oT W.ts)):=by
 show List.lookup ("tied":Str) [(("size":Str),D.int (W.n:Int)),("marked",.dk (oM W.ms)),("tied",.dk (oT W.ts))]=_;simp only[List.lookup,q2,q3];rfl
theorem U3 (x:Nat) (l:List Nat):inF false (.int (x:Int)) (lM l)=some (.bl (l.any λ t=>decide (t=x))):=by
 have h:∀ ys:List Nat,flVs (ys.map iN)=some (ys.map λ (t:Nat)=>V.int t):=λ ys=>by
  induction ys with
  | nil=>rfl
  | cons y r ih=>simp[flVs,flV,ih]
 show ((flV (.int (x:Int))).bind λ v=>(flVs (l.map iN)).map λ vs=>D.bl (inV v vs))=_;rw[h];show some (D.bl (inV (.int (x:Int)) (l.map λ (t:Nat)=>V.int t)))=_;have e:∀ t:Nat,eqV (.int (t:Int)) (.int (x:Int))=decide (t=x):=λ t=>by
  by_cases z:t=x
  ·subst z;simp[eqV]
  ·have:¬ ((t:Int)=(x:Int)):=by omega
   simp[eqV,z,this]
 simp only[inV,List.any_map,Function.comp_def,e]
theorem RK (x y:Nat) (l:List (Nat×Nat)):inF false (.tup [.int (x:Int),.int (y:Int)]) (lT l)=some (.bl (l.any λ q=>decide (q.1=x)&&decide (q.2=y))):=by
 have k:∀ q:Nat×Nat,eqK 62 (pN q) (.tup [.int (x:Int),.int (y:Int)])=some (decide (q.1=x)&&decide (q.2=y)):=λ q=>by
  have e:∀ a b:Nat,eqK 61 (.int (a:Int)) (.int (b:Int))=some (decide (a=b)):=λ a b=>by
   show some (eqV (.int (a:Int)) (.int (b:Int)))=_
   by_cases z:a=b
   ·subst z;simp[eqV]
   ·have:¬ ((a:Int)=(b:Int)):=by omega
    simp[eqV,z,this]
  show (if 2=2 then allO (eqK 61) [.int (q.1:Int),.int (q.2:Int)] [.int (x:Int),.int (y:Int)] else none)=_;rw[if_pos rfl];simp only[allO,e];cases decide (q.1=x)<;>cases decide (q.2=y)<;>rfl
 have h1:(l.map pN).all (knows (.tup [.int (x:Int),.int (y:Int)]))=true:=by
  rw[z0x];intro d hd;obtain⟨q,_,rfl⟩:=z05.mp hd;unfold knows;rw[k q];rfl
 have h2:(l.map pN).any (eqTo (.tup [.int (x:Int),.int (y:Int)]))=l.any λ q=>decide (q.1=x)&&decide (q.2=y):=by
  rw[List.any_map];congr 1;funext q;show eqTo _ (pN q)=_;unfold eqTo;rw[k q]
 show (if (l.map pN).all (knows (.tup [.int (x:Int),.int (y:Int)]))=true then some (D.bl ((l.map pN).any (eqTo (.tup [.int (x:Int),.int (y:Int)])))) else none)=_;rw[if_pos h1,h2]
theorem rE (x:Nat) (l:List Nat):inF false (.int (x:Int)) (kM l)=some (.bl (l.any λ t=>decide (t=x))):=by
 have h:∀ l:List Nat,(getK (.inl (x:Int):Key) (l.map λ (t:Nat)=>((.inl (t:Int):Key),D.bl true))).isSome=l.any λ t=>decide (t=x):=λ l=>by
  induction l with
  | nil=>rfl
  | cons t r ih=>
   rw[z03,z1e,<-ih];show (if (.inl (t:Int):Key)=.inl (x:Int) then _ else _:Option D).isSome=_
   by_cases z:t=x
   ·subst z;simp
   ·have:¬ ((.inl (t:Int):Key)=.inl (x:Int)):=λ q=>z (by have:=Sum.inl.inj q;omega);rw[if_neg this];simp[z]
 show inF false (.int (x:Int)) (.dk _)=_;rw[Uk];simp only[Bool.false_eq_true,if_false,h]
end K32
namespace K32
open PySem L2 PV
def aD (ps:List (Str×Addr)):D:=.dk (ps.map λ p=>((.inr p.1:Key),.adr p.2))
structure Q (α:Type) where
 w:Str
 a:Addr
 l:List α
def cQ {α:Type}(f:List α->D) (q:Q α):Addr×D:=(q.a,f q.l)
def adQ {α:Type}(qs:List (Q α)):List (Str×Addr):=qs.map λ q=>(q.w,q.a)
theorem N5 {α:Type}(l:List α) (e g:α->D) (hs:src ρ=some (l.map e)) (hn:l.length<=1000) (h:∀ x∈l,fe (ρ++[.fz (e x)])=some (g x)):CK src allT fe ρ=some (.lst (l.map g)):=by
 have c:∀ l:List α,(∀ x∈l,fe (ρ++[.fz (e x)])=some (g x))->Io ρ allT fe (l.map e)=some (l.map g):=by
  intro l
  induction l with
  | nil=>intro _;rfl
  | cons x r ih=>
   intro hl;rw[z03,JQ,hl x (by simp),ih λ d hd=>hl d (by simp[hd])];rfl
 exact O8 hs (by rw[z00];omega) (c l h)
theorem fO (l:List (Nat×Nat)) (g:Nat×Nat->D) (hs:src ρ=some (l.map pN)) (hn:l.length<=1000) (h:∀ x∈l,fe (ρ++[.fz (.int (x.1:Int)),.fz (.int (x.2:Int))])=some (g x)):V4 src allT fe ρ=some (.lst (l.map g)):=by
 have c:∀ l:List (Nat×Nat),(∀ x∈l,fe (ρ++[.fz (.int (x.1:Int)),.fz (.int (x.2:Int))])=some (g x))->Dp bd2 ρ allT fe (l.map pN)=some (l.map g):=by
  intro l
  induction l with
  | nil=>intro _;rfl
  | cons x r ih=>
   intro hl;rw[z03];show (fe (ρ++[PV.Slot.fz (.int (x.1:Int)),PV.Slot.fz (.int (x.2:Int))])).bind (λ y=>(Dp bd2 ρ allT fe (r.map pN)).map (y::·))=_;rw[hl x (by simp),ih λ d hd=>hl d (by simp[hd])];rfl
 unfold V4 IK;rw[hs];show (if (l.map pN).length<=sizeLine then (Dp bd2 ρ allT fe (l.map pN)).map D.lst else none)=_;rw[if_pos (Hk (by rw[z00];omega)),c l h];rfl
theorem U4 (os:List Nat) (t:Nat) (h:t<os.length):ixE (lN os) (.int (t:Int))=some (iN (os.getD t 0)):=by
 show atI (os.map iN) (t:Int)=_;rw[Fl,z04];simp[h]
theorem ZG (ps:List (Str×Addr)) (w:Str) (p:Addr) (h:w∉ps.map (·.1)) (hl:ps.length<=100):Cq (aD ps) (.str w) (.adr p)=some (aD (ps++[(w,p)])):=by
 unfold aD;rw[LR _ _ _ (by simp;omega)];have:(.inr w:Key)∉(ps.map λ p=>((.inr p.1:Key),D.adr p.2)).map (·.1):=Gi D.adr h;rw[putL_new this];simp
theorem fP {α:Type}(f:α->D) {l:List (Str×α)}(h:(l.map (·.1)).Nodup):((l.map λ p=>((.inr p.1:Key),f p.2)).map (·.1)).Nodup:=by
 unfold List.Nodup at h ⊢;rw[z16] at h;rw[z0k,z16];exact h.imp λ hab e=>hab (Sum.inr.inj e)
theorem at_M (W:Wl) (h:WOk W) {p:Str×List Nat}(hp:p∈W.ms):ixE (.dk (eM W.ms)) (.str p.1)=some (lM p.2):=by
 rw[Hn];exact Ul (fP lM (z0u.mp h.nd).1) (z05.mpr ⟨p,hp,rfl⟩)
theorem at_T (W:Wl) (h:WOk W) {p:Str×List (Nat×Nat)}(hp:p∈W.ts):ixE (.dk (eT W.ts)) (.str p.1)=some (lT p.2):=by
 rw[Hn];exact Ul (fP lT (z0u.mp h.nd).2.1) (z05.mpr ⟨p,hp,rfl⟩)
theorem fQ (W:Wl) (h:WOk W) (os:List Nat) (ho:os.length=W.n) (w3:PV.Slot) (K:KM):∀ (r:List (Str×List Nat)) (ps:List (Str×Addr)) (μ:Mu) (z4:PV.Slot),(∀ p∈r,p∈W.ms)->(ps.map (·.1)++r.map (·.1)).Nodup->(ps.map (·.1)++r.map (·.1)).length<=50->(ksM μ).Nodup ->
  (∀ (qs:List (Q Nat)) (z:PV.Slot),qs.map (λ q=>(q.w,q.l))=r.map (λ p=>(p.1,p.2.map λ t=>os.getD t 0))->(ksM ((qs.map (cQ lM)).reverse++μ)).Nodup->K (.nx [.fz (wd W),.fz (lN os),.ow (aD (ps++adQ qs)),w3,z]) ((qs.map (cQ lM)).reverse++μ)) ->
  Jq (Ay 4) Dw (r.map λ p=>.str p.1) [.fz (wd W),.fz (lN os),.ow (aD ps),w3,z4] μ K
 | [],ps,μ,z4,_,_,_,hn,k=>by
  have:=k [] z4 rfl (by simpa using hn);simpa [adQ,Jq] using this
 | (w,l)::r,ps,μ,z4,hr,nd,hl,hn,k=>by
  have hp:=hr (w,l) (by simp);have hb:=h.ml _ hp;refine⟨[.fz (wd W),.fz (lN os),.ow (aD ps),w3,.fz (.str w)],rfl,?_⟩;have i1:=ixw1 W;have am:=at_M W h hp;have cm:CK (seqA (bF ixE (bF ixE (vF 0) (kF (.int 1))) (vF 4))) allT Dv [.fz (wd W),.fz (lN os),.ow (aD ps),w3,.fz (.str w)]=some (lM (l.map λ t=>os.getD t 0)):=by
   have:=N5 (src:=seqA (bF ixE (bF ixE (vF 0) (kF (.int 1))) (vF 4))) (fe:=Dv) (ρ:=[.fz (wd W),.fz (lN os),.ow (aD ps),w3,.fz (.str w)]) l iN (λ t=>iN (os.getD t 0)) (by simp only[cK,Er,i1,am,lM,Es]) (by have:=hb.2.1;simp at this;omega) (λ t ht=>by
    have ix:=U4 os t (by rw[ho];exact hb.2.2 t ht);simp only[cK,Dv,ix])
   rw[this];simp[lM]
  unfold Dw V1 newX;refine⟨_,cm,λ p hp'=>⟨.str w,aD ps,aD (ps++[(w,p)]),rfl,rfl,ZG ps w p (λ q=>?_) ?_,?_⟩⟩
  ·rw[z0u] at nd;exact nd.2.2 w q w (by simp) rfl
  ·simp at hl;omega
  ·show Jq (Ay 4) Dw (r.map λ p=>.str p.1) [.fz (wd W),.fz (lN os),.ow (aD (ps++[(w,p)])),w3,.fz (.str w)] ((p,lM (l.map λ t=>os.getD t 0))::μ) K;refine fQ W h os ho w3 K r (ps++[(w,p)]) _ _ (λ q hq=>hr q (by simp[hq])) (by simpa using nd) (by simpa using hl) (z0G.mpr ⟨hp',hn⟩) λ qs z e hk=>?_;have:=k (⟨w,p,l.map λ t=>os.getD t 0⟩::qs) z (by simp[e]) (by simpa [cQ] using hk);simpa [adQ,cQ,z14] using this
theorem fU (W:Wl) (h:WOk W) (os:List Nat) (ho:os.length=W.n) (w2:PV.Slot) (K:KM):∀ (r:List (Str×List (Nat×Nat))) (ps:List (Str×Addr)) (μ:Mu) (z4:PV.Slot),(∀ p∈r,p∈W.ts)->(ps.map (·.1)++r.map (·.1)).Nodup->(ps.map (·.1)++r.map (·.1)).length<=50->(ksM μ).Nodup ->
  (∀ (qs:List (Q (Nat×Nat))) (z:PV.Slot),qs.map (λ q=>(q.w,q.l))=r.map (λ p=>(p.1,p.2.map λ q=>(os.getD q.1 0,os.getD q.2 0)))->(ksM ((qs.map (cQ lT)).reverse++μ)).Nodup->K (.nx [.fz (wd W),.fz (lN os),w2,.ow (aD (ps++adQ qs)),z]) ((qs.map (cQ lT)).reverse++μ)) ->
  Jq (Ay 4) Dz (r.map λ p=>.str p.1) [.fz (wd W),.fz (lN os),w2,.ow (aD ps),z4] μ K
 | [],ps,μ,z4,_,_,_,hn,k=>by
  have:=k [] z4 rfl (by simpa using hn);simpa [adQ,Jq] using this
 | (w,l)::r,ps,μ,z4,hr,nd,hl,hn,k=>by
  have hp:=hr (w,l) (by simp);have hb:=h.tl _ hp;refine⟨[.fz (wd W),.fz (lN os),w2,.ow (aD ps),.fz (.str w)],rfl,?_⟩;have i1:=ixw2 W;have am:=at_T W h hp;have cm:V4 (seqA (bF ixE (bF ixE (vF 0) (kF (.int 2))) (vF 4))) allT Dy [.fz (wd W),.fz (lN os),w2,.ow (aD ps),.fz (.str w)]=some (lT (l.map λ q=>(os.getD q.1 0,os.getD q.2 0))):=by
   have:=fO (src:=seqA (bF ixE (bF ixE (vF 0) (kF (.int 2))) (vF 4))) (fe:=Dy) (ρ:=[.fz (wd W),.fz (lN os),w2,.ow (aD ps),.fz (.str w)]) l (λ q=>pN (os.getD q.1 0,os.getD q.2 0)) (by simp only[cK,Er,i1,am,lT,Es]) (by have:=hb.2.1;simp at this;omega) (λ q hq=>by
    have ix:=U4 os q.1 (by rw[ho];exact (hb.2.2 q hq).1);have ix2:=U4 os q.2 (by rw[ho];exact (hb.2.2 q hq).2);simp only[cK,Dy,ix,ix2])
   rw[this];simp[lT]
  unfold Dz V1 newX;refine⟨_,cm,λ p hp'=>⟨.str w,aD ps,aD (ps++[(w,p)]),rfl,rfl,ZG ps w p (λ q=>?_) ?_,?_⟩⟩
  ·rw[z0u] at nd;exact nd.2.2 w q w (by simp) rfl
  ·simp at hl;omega
  ·show Jq (Ay 4) Dz (r.map λ p=>.str p.1) [.fz (wd W),.fz (lN os),w2,.ow (aD (ps++[(w,p)])),.fz (.str w)] ((p,lT (l.map λ q=>(os.getD q.1 0,os.getD q.2 0)))::μ) K;refine fU W h os ho w2 K r (ps++[(w,p)]) _ _ (λ q hq=>hr q (by simp[hq])) (by simpa using nd) (by simpa using hl) (z0G.mpr ⟨hp',hn⟩) λ qs z e hk=>?_;have:=k (⟨w,p,l.map λ q=>(os.getD q.1 0,os.getD q.2 0)⟩::qs) z (by simp[e]) (by simpa [cQ] using hk);simpa [adQ,cQ,z14] using this
theorem ZJ (k:List (Key×D)):J6 (.dk k)=some (.lst (k.map λ p=>kDt p.1)):=zE_ _
theorem Sv (W:Wl) (h:WOk W) (os:List Nat) (ho:os.length=W.n) (K:D->Mu->Prop)
  (k:∀ (qs:List (Q Nat)) (us:List (Q (Nat×Nat))),qs.map (λ q=>(q.w,q.l))=(mvd os W).ms->us.map (λ q=>(q.w,q.l))=(mvd os W).ts->(ksM ((us.map (cQ lT)).reverse++(qs.map (cQ lM)).reverse)).Nodup->K (.lst [.int (W.n:Int),aD (adQ qs),aD (adQ us)]) ((us.map (cQ lT)).reverse++(qs.map (cQ lM)).reverse)) :
  Ia [wd W,lN os] [] K:=by
 refine⟨rfl,?_⟩;have nd:=z0u.mp h.nd;have i1:=ixw1 W;have i2:=ixw2 W;have i0:=ixw0 W;have n1:revI (uF J6 (bF ixE (vF 0) (kF (.int 1)))) [.fz (wd W),.fz (lN os),.ow (.dk []),.ow (.dk []),.un]=some (W.ms.reverse.map λ p=>.str p.1):=by
  unfold revI;simp only[cK,i1,ZJ,Uz];rw[<-List.map_reverse,<-List.map_reverse,z0k];rfl
 have n2:∀ x2 x3 x4,revI (uF J6 (bF ixE (vF 0) (kF (.int 2)))) [.fz (wd W),.fz (lN os),x2,x3,x4]=some (W.ts.reverse.map λ p=>.str p.1):=λ x2 x3 x4=>by
  unfold revI;simp only[cK,i2,ZJ,U0];rw[<-List.map_reverse,<-List.map_reverse,z0k];rfl
 show Fz [.fz (wd W),.fz (lN os),.un,.un,.un] [] (finM K);unfold Fz;refine⟨_,rfl,⟨_,rfl,⟨_,n1,?_⟩⟩⟩;refine fQ W h os ho (.ow (.dk [])) _ W.ms.reverse [] [] .un (λ p hp=>by simpa using hp) (by rw[z11,z0Q,List.map_reverse];exact (List.reverse_perm _).nodup_iff.mpr nd.1) (by have:=h.m3;simp;omega) List.nodup_nil λ qs z e1 hk1=>?_;rw[z0w,z0Q] at *;refine⟨_,n2 _ _ _,?_⟩;refine fU W h os ho (.ow (aD (adQ qs))) _ W.ts.reverse [] ((qs.map (cQ lM)).reverse) z (λ p hp=>by simpa using hp) (by rw[z11,z0Q,List.map_reverse];exact (List.reverse_perm _).nodup_iff.mpr nd.2.1) (by have:=h.t3;simp;omega) hk1 λ us z' e2 hk2=>?_;rw[z0Q];refine⟨.rt (.lst [.int (W.n:Int),aD (adQ qs),aD (adQ us)]) [.fz (wd W),.fz (lN os),.fz (aD (adQ qs)),.fz (aD (adQ us)),z'],?_,?_⟩
 ·simp only[cK,Qs,Qt,LQ,i0]
 ·exact k qs us (by rw[e1,mvd,List.map_reverse]) (by rw[e2,mvd,List.map_reverse]) hk2
def tog {α:Type} [DecidableEq α] (t:α) (l:List α):List α:=if t∈l then l.erase t else l++[t]
theorem fV {α:Type} [DecidableEq α] {t:α}{l:List α}(h:l.Nodup):(tog t l).Nodup:=by
 unfold tog;split
 ·exact h.sublist List.erase_sublist
 ·rename_i n;rw[z0u];exact⟨h,by simp,λ a ha b hb e=>n (by simp at hb;rw[<-hb,<-e];exact ha)⟩
theorem ZK {α:Type} [DecidableEq α] {t x:α}{l:List α}(h:x∈tog t l):x∈l∨x=t:=by
 unfold tog at h;split at h
 ·exact .inl (List.mem_of_mem_erase h)
 ·simpa using h
theorem WN {α:Type} [DecidableEq α] (e:α->D) (ek:∀ x y,eqK 62 (e x) (e y)=some (decide (x=y))) (t:α):∀ l:List α,t∈l->remL (e t) (l.map e)=some ((l.erase t).map e)
 | [],h=>by simp at h
 | x::r,h=>by
  rw[z03];unfold remL;rw[ek,List.erase_cons]
  by_cases z:x=t
  ·subst z;simp
  ·have hr:t∈r:=by
    rcases z08.mp h with q | q
    ·exact absurd q.symm z
    ·exact q
   simp[z,WN e ek t r hr]
theorem jl {α:Type} [DecidableEq α] (e:α->D) (ek:∀ x y,eqK 62 (e x) (e y)=some (decide (x=y))) (t:α) (l:List α) (h:t∈l):remM (.lst (l.map e)) [e t]=some (.non,.lst ((tog t l).map e)):=by
 have a:(l.map e).all (λ d=>(eqK 62 d (e t)).isSome)=true:=by
  rw[z0x];intro d hd;obtain⟨x,_,rfl⟩:=z05.mp hd;rw[ek];rfl
 show (if (l.map e).all (λ d=>(eqK 62 d (e t)).isSome)=true then (remL (e t) (l.map e)).map λ es=>(D.non,D.lst es) else none)=_;rw[if_pos a,WN e ek t l h,tog,if_pos h];rfl
theorem jm {α:Type} [DecidableEq α] (e:α->D) (t:α) (l:List α) (h:t∉l) (hl:l.length<=1000):appM (.lst (l.map e)) [e t]=some (.non,.lst ((tog t l).map e)):=by
 show (if (l.map e).length<sizeLine then some (D.non,D.lst (l.map e++[e t])) else none)=_;rw[if_pos (z0F (by rw[z00];omega:(l.map e).length<10000000) (by decide)),tog,if_neg h,z0y];rfl
theorem toggle {α:Type} [DecidableEq α] (e:α->D) (ek:∀ x y,eqK 62 (e x) (e y)=some (decide (x=y))) (inE:∀ (t:α) (l:List α),inF false (e t) (.lst (l.map e))=some (.bl (decide (t∈l)))) (t:α) (l:List α) (hl:l.length<=1000) (x0 x1 x2:PV.Slot) (a:Addr) (μ:Mu) (K:KM)
  (hm:μ.lookup a=some (.lst (l.map e))) (k:K (.nx [x0,x1,x2,.fz (e t),.fz (.adr a)]) (putA a (.lst ((tog t l).map e)) μ)) :
  ifM [4] (blF (bF (inF false) (vF 3) (vU 4))) (Qw (mutX 4 [] remM (Aa (vF 3) nilA))) (Qw (mutX 4 [] appM (Aa (vF 3) nilA))) [x0,x1,x2,.fz (e t),.fz (.adr a)] μ K:=by
 have v:vwM [4] (blF (bF (inF false) (vF 3) (vU 4))) [x0,x1,x2,.fz (e t),.fz (.adr a)] μ=some (decide (t∈l)):=by
  have w:HD μ [4] [] [x0,x1,x2,.fz (e t),.fz (.adr a)]=some [x0,x1,x2,.fz (e t),.ow (.lst (l.map e))]:=by simp[HD,hm]
  unfold vwM;rw[w];have:=inE t l;simp only[cK,this]
 have fs:vwM [] (Aa (vF 3) nilA) [x0,x1,x2,.fz (e t),.fz (.adr a)] μ=some [e t]:=rfl;unfold ifM;rw[v]
 by_cases z:t∈l
 ·rw[z0g z];exact⟨[e t],a,_,.non,_,fs,rfl,hm,jl e ek t l z,k⟩
 ·rw[z0a z];exact⟨[e t],a,_,.non,_,fs,rfl,hm,jm e t l z hl,k⟩
theorem ek_i (x y:Nat):eqK 62 (iN x) (iN y)=some (decide (x=y)):=by
 show some (eqV (.int (x:Int)) (.int (y:Int)))=_
 by_cases z:x=y
 ·subst z;simp[eqV]
 ·have:¬ ((x:Int)=(y:Int)):=by omega
  simp[eqV,z,this]
theorem ek_p (x y:Nat×Nat):eqK 62 (pN x) (pN y)=some (decide (x=y)):=by
 have e:∀ a b:Nat,eqK 61 (.int (a:Int)) (.int (b:Int))=some (decide (a=b)):=λ a b=>by
  show some (eqV (.int (a:Int)) (.int (b:Int)))=_
  by_cases z:a=b
  ·subst z;simp[eqV]
  ·have:¬ ((a:Int)=(b:Int)):=by omega
   simp[eqV,z,this]
 show (if 2=2 then allO (eqK 61) [.int (x.1:Int),.int (x.2:Int)] [.int (y.1:Int),.int (y.2:Int)] else none)=_;rw[if_pos rfl];simp only[allO,e];obtain⟨a,b⟩:=x;obtain⟨c,d⟩:=y
 by_cases h1:a=c<;>by_cases h2:b=d<;>simp[h1,h2]
theorem in_i (t:Nat) (l:List Nat):inF false (iN t) (.lst (l.map iN))=some (.bl (decide (t∈l))):=by
 have:=U3 t l;unfold lM at this;rw[this];congr 2;rw[z0N];simp
theorem in_p (t:Nat×Nat) (l:List (Nat×Nat)):inF false (pN t) (.lst (l.map pN))=some (.bl (decide (t∈l))):=by
 have:=RK t.1 t.2 l;unfold lT at this;rw[this];congr 2;rw[z0N];simp
def sel (n lm lt:Nat) (c:Int):Option ((Nat×Nat) ⊕ (Nat×Nat×Nat)):=
 if lm≠0/\0<n/\(c%2=0∨lt=0) then some (.inl ((c/10%lm).toNat,(c/2%n).toNat))
 else if lt≠0/\0<n then some (.inr ((c/50%lt).toNat,(c/2%n).toNat,(c/10%n).toNat)) else none
def adrs {α:Type}(qs:List (Q α)):D:=.lst (qs.map λ q=>.adr q.a)
theorem fW {α:Type}(qs:List (Q α)):Sg (aD (adQ qs))=some (adrs qs):=by simp[Sg,aD,adQ,adrs,Function.comp_def]
theorem ne_a {α:Type}(qs:List (Q α)):eqF true (adrs qs) (.lst [])=some (.bl (decide (qs.length≠0))):=by
 cases qs with
 | nil=>rfl
 | cons q r=>
  unfold adrs;show eqD true (.lst ((q::r).map λ q=>D.adr q.a)) (.lst [])=_;unfold eqD;have:eqvD (.lst ((q::r).map λ q=>D.adr q.a)) (.lst [])=some false:=by
   show (if ((q::r).map λ q=>D.adr q.a).length=([]:List D).length then allO (eqK 180) ((q::r).map λ q=>D.adr q.a) [] else some false)=some false;exact if_neg (by simp)
  rw[this];rfl
theorem dk_a {α:Type}(neg:Bool) (qs:List (Q α)):eqF neg (aD (adQ qs)) (.dk [])=some (.bl (if neg then decide (qs.length≠0) else decide (qs.length=0))):=by
 cases qs with
 | nil=>cases neg<;>rfl
 | cons q r=>
  unfold aD;show (dkEq ((adQ (q::r)).map λ p=>((.inr p.1:Key),D.adr p.2)) []).map (λ c=>D.bl (if neg then !c else c))=_;have:dkEq ((adQ (q::r)).map λ p=>((.inr p.1:Key),D.adr p.2)) []=some false:=if_pos (by simp[adQ]);rw[this];cases neg<;>rfl
theorem ix_a {α:Type}(qs:List (Q α)) (i:Nat) (q:Q α) (h:qs[i]?=some q):ixE (adrs qs) (.int (i:Int))=some (.adr q.a):=by
 show atI (qs.map λ q=>D.adr q.a) (i:Int)=_;rw[Fl,z04,h];rfl
theorem mD {α:Type}(qs:List (Q α)):lenE (adrs qs)=some (.int (qs.length:Int)):=by
 show lenD (.lst (qs.map λ q=>D.adr q.a))=_;rw[Qe,z00]
theorem GQ (c:Int) (n:Nat) (h:0<n):modD (.int c) (.int (n:Int))=some (.int (((c%n).toNat:Nat):Int))/\(c%n).toNat<n:=by
 have h0:0<=c%(n:Int):=z0I _ (by omega);have h1:c%(n:Int)<n:=z0U _ (by omega);exact⟨by rw[Ej c n (by omega),Int.toNat_of_nonneg h0],by omega⟩
theorem fY (i j:Int):eqF false (.int i) (.int j)=some (.bl (decide (i=j))):=R1 i j
theorem aR (n:Nat) (qs:List (Q Nat)) (us:List (Q (Nat×Nat))) (c:Int) (μ:Mu) (K:D->Mu->Prop) (hq:∀ q∈qs,μ.lookup q.a=some (lM q.l)/\q.l.length<=1000) (hu:∀ q∈us,μ.lookup q.a=some (lT q.l)/\q.l.length<=1000)
  (k0:sel n qs.length us.length c=none->K .non μ) (k1:∀ i t q,sel n qs.length us.length c=some (.inl (i,t))->qs[i]?=some q->K .non (putA q.a (lM (tog t q.l)) μ))
  (k2:∀ i x y q,sel n qs.length us.length c=some (.inr (i,x,y))->us[i]?=some q->K .non (putA q.a (lT (tog (x,y) q.l)) μ)) :
  Ib [.lst [.int (n:Int),aD (adQ qs),aD (adQ us)],.int c] μ K:=by
 refine⟨rfl,?_⟩;generalize hw:(.lst [.int (n:Int),aD (adQ qs),aD (adQ us)]:D)=w;have i0:ixE w (.int 0)=some (.int (n:Int)):=by rw[<-hw];rfl
 have i1:ixE w (.int 1)=some (aD (adQ qs)):=by rw[<-hw];rfl
 have i2:ixE w (.int 2)=some (aD (adQ us)):=by rw[<-hw];rfl
 have v1:=fW qs;have v2:=fW us;have n1:=ne_a qs;have d1:eqF false (aD (adQ us)) (.dk [])=some (.bl (decide (us.length=0))):=dk_a false us;have d2:eqF true (aD (adQ us)) (.dk [])=some (.bl (decide (us.length≠0))):=dk_a true us;have l1:=mD qs;have l2:=mD us;show F_ [.fz w,.fz (.int c),.un,.un,.un] μ (finM K);unfold F_;refine⟨.nx [.fz w,.fz (.int c),.fz (adrs qs),.un,.un],by simp only[cK,i1,v1],?_⟩;have g0:decide (0<(n:Int))=decide (0<n):=by
  by_cases z:0<n
  ·rw[z0g z,z0g (by omega)]
  ·rw[z0a z,z0a (by omega)]
 by_cases hA:qs.length≠0/\0<n/\(c%2=0∨us.length=0)
 ·have hs:sel n qs.length us.length c=some (.inl ((c/10%qs.length).toNat,(c/2%n).toNat)):=if_pos hA;obtain⟨m1,b1⟩:=GQ (c/2) n hA.2.1;obtain⟨m2,b2⟩:=GQ (c/10) qs.length (by omega);have hg:qs[(c/10%(qs.length:Int)).toNat]?=some qs[(c/10%(qs.length:Int)).toNat]:=z06 b2;have ia:=ix_a qs _ _ hg;obtain⟨hm,hl⟩:=hq _ (z0H hg);have or1:orO (some (decide (c%2=0))) (blF (bF (eqF false) (bF ixE (vF 0) (kF (.int 2))) (kF (.dk [])))) [.fz w,.fz (.int c),.fz (adrs qs),.un,.un]=some true:=by
   rcases hA.2.2 with z | z
   ·rw[z0g z];rfl
   ·by_cases y:c%2=0
    ·rw[z0g y];rfl
    ·rw[z0a y,Qc];simp only[cK,i2,d1,z]
  refine⟨.nx [.fz w,.fz (.int c),.fz (adrs qs),.fz (iN (c/2%n).toNat),.fz (.adr (qs[(c/10%(qs.length:Int)).toNat]).a)],?_,?_⟩
  ·have t1:decide (qs.length≠0)=true:=z0g hA.1;have t2:decide (0<n)=true:=z0g hA.2.1;simp only[ciK,n1,i0,g0,t1,t2,fY,or1,m1,l1,m2,ia]
  ·exact toggle iN ek_i in_i _ _ hl _ _ _ _ μ _ hm (k1 _ _ _ hs hg)
 ·have if1:andO (some (decide (qs.length≠0))) (andT (blF (bF gtD (bF ixE (vF 0) (kF (.int 0))) (kF (.int 0)))) (orT (blF (bF (eqF false) (bF modD (vF 1) (kF (.int 2))) (kF (.int 0)))) (blF (bF (eqF false) (bF ixE (vF 0) (kF (.int 2))) (kF (.dk [])))))) [.fz w,.fz (.int c),.fz (adrs qs),.un,.un]=some false:=by
   by_cases z1:qs.length≠0
   ·by_cases z2:0<n
    ·have z3:¬ (c%2=0):=λ y=>hA ⟨z1,z2,.inl y⟩;have z4:¬ (us.length=0):=λ y=>hA ⟨z1,z2,.inr y⟩;simp only[ciK,z0g z1,i0,g0,z0g z2,fY,z0a z3,i2,d1,z0a z4]
    ·simp only[ciK,z0g z1,i0,g0,z0a z2]
   ·simp only[cK,z0a z1]
  by_cases hB:us.length≠0/\0<n
  ·have hs:sel n qs.length us.length c=some (.inr ((c/50%us.length).toNat,(c/2%n).toNat,(c/10%n).toNat)):=by
    unfold sel;rw[if_neg hA,if_pos hB]
   obtain⟨m1,b1⟩:=GQ (c/2) n hB.2;obtain⟨m3,b3⟩:=GQ (c/10) n hB.2;obtain⟨m2,b2⟩:=GQ (c/50) us.length (by omega);have hg:us[(c/50%(us.length:Int)).toNat]?=some us[(c/50%(us.length:Int)).toNat]:=z06 b2;have ia:=ix_a us _ _ hg;obtain⟨hm,hl⟩:=hu _ (z0H hg);refine⟨.nx [.fz w,.fz (.int c),.fz (adrs us),.fz (pN ((c/2%n).toNat,(c/10%n).toNat)),.fz (.adr (us[(c/50%(us.length:Int)).toNat]).a)],?_,?_⟩
   ·have t1:decide (us.length≠0)=true:=z0g hB.1;have t2:decide (0<n)=true:=z0g hB.2;simp only[ciK,n1,if1,i0,g0,t1,t2,i2,d2,v2,m1,m3,l2,m2,ia]
   ·exact toggle pN ek_p (λ t l=>(in_p t l).trans (by congr)) _ _ hl _ _ _ _ μ _ hm (k2 _ _ _ _ hs hg)
  ·have hs:sel n qs.length us.length c=none:=by
    unfold sel;rw[if_neg hA,if_neg hB]
   refine⟨.rt .non [.fz w,.fz (.int c),.fz (adrs qs),.un,.un],?_,k0 hs⟩
   by_cases z1:us.length≠0
   ·have z2:¬ (0<n):=λ y=>hB ⟨z1,y⟩;simp only[ciK,n1,if1,i0,g0,i2,d2,z0g z1,z0a z2]
   ·simp only[ciK,n1,if1,i0,g0,i2,d2,z0a z1]
def Jx (c:Int) (V:Wl):Wl:=match sel V.n V.ms.length V.ts.length c with
 | none=>V
 | some (.inl (i,t))=>⟨V.n,V.ms.modify i (λ p=>(p.1,tog t p.2)),V.ts⟩
 | some (.inr (i,x,y))=>⟨V.n,V.ms,V.ts.modify i λ p=>(p.1,tog (x,y) p.2)⟩
theorem U5:∀ {μ:Mu}{a:Addr}{d:D},(ksM μ).Nodup->(a,d)∈μ->μ.lookup a=some d
 | (b,e)::r,a,d,nd,h=>by
  obtain⟨n1,n2⟩:=z0G.mp nd;rw[z0d]
  rcases z08.mp h with z | z
  ·cases z;simp
  ·have:(a==b)=false:=z0z.mpr λ q=>n1 (by show b∈ksM r;rw[<-q];exact Fp z);rw[this];exact U5 n2 z
theorem RL (a:Addr) (c:D):∀ (μ:Mu) (b:Addr),(putA a c μ).lookup b=if b=a then (μ.lookup b).map λ _=>c else μ.lookup b
 | [],b=>by simp[putA]
 | (x,e)::r,b=>by
  have ih:=RL a c r b;unfold putA at ih ⊢;rw[z03]
  by_cases hx:x=a
  ·subst hx;rw[if_pos rfl,z0d,z0d,ih]
   by_cases hb:b=x
   ·subst hb;simp
   ·have:(b==x)=false:=z0z.mpr hb;simp[this,hb]
  ·rw[if_neg hx,z0d,z0d,ih]
   by_cases hb:b=x
   ·subst hb;simp[hx]
   ·have:(b==x)=false:=z0z.mpr hb;simp[this]
theorem XS {α:Type}(f:List α->D) (μ:Mu) (qs:List (Q α)) (ls:List (Str×List α)) (hw:qs.map (·.w)=ls.map (·.1)) (h:∀ (i:Nat) (q:Q α) (p:Str×List α),qs[i]?=some q->ls[i]?=some p->μ.lookup q.a=some (f p.2)):der 2 μ (aD (adQ qs))=.dk (ls.map λ p=>((.inr p.1:Key),f p.2)):=by
 show D.dk (((adQ qs).map λ p=>((.inr p.1:Key),D.adr p.2)).map λ p=>(p.1,der 1 μ p.2))=_;congr 1;have hl:qs.length=ls.length:=by have:=congrArg List.length hw;simpa using this
 apply List.ext_getElem?;intro i;simp only[adQ,z0k,z04];cases e:qs[i]? with
 | none=>
  have:ls[i]?=none:=by rw[List.getElem?_eq_none_iff] at e ⊢;omega
  rw[this];rfl
 | some q=>
  have hi:i<ls.length:=by rw[<-hl];exact (z0m.mp e).1
  have ep:ls[i]?=some ls[i]:=z06 hi;rw[ep];have h1:=h i q _ e ep;have h2:q.w=ls[i].1:=by
   have:=congrArg (λ l=>l[i]?) hw;simp only[z04,e,ep] at this;exact z0e this
  have h3:der 1 μ (.adr q.a)=f (ls[i].2):=by
   show (match μ.lookup q.a with | some c=>der 0 μ c | none=>.adr q.a)=_;rw[h1];rfl
  simp[h2,h3]
theorem WP:∀ {l m:List Nat},l.Nodup->(∀ x∈l,x∈m)->l.length<=m.length
 | [],_,_,_=>z0s _
 | x::r,m,h,hs=>by
  obtain⟨h1,h2⟩:=z0G.mp h;have hx:x∈m:=hs x z0h;have:=WP (l:=r) (m:=m.erase x) h2 λ y hy=>(List.mem_erase_of_ne (λ e=>by subst e;exact h1 hy)).mpr (hs y (z0b _ hy));rw[List.length_erase_of_mem hx] at this;have hp:0<m.length:=List.length_pos_of_mem hx;simp;omega
theorem Jy {α:Type}{l:List α}(nd:l.Nodup) {i j:Nat}(hi:i<l.length) (hj:j<l.length) (e:l[i]=l[j]):i=j:=by
 have h:=List.pairwise_iff_getElem.mp nd
 rcases Nat.lt_trichotomy i j with z | z | z
 ·exact absurd e (h i j hi hj z)
 ·exact z
 ·exact absurd e.symm (h j i hj hi z)
theorem ZL {l:List Nat}(nd:l.Nodup) (h:∀ t∈l,t<n):l.length<=n:=by
 have:=WP nd λ t ht=>z0o.mpr (h t ht);simpa using this
theorem fZ {l:List (Nat×Nat)}(nd:l.Nodup) (h:∀ q∈l,q.1<n/\q.2<n):l.length<=n*n:=by
 have e:(l.map λ q=>q.1*n+q.2).Nodup:=by
  unfold List.Nodup;rw[z16];refine List.Pairwise.imp_of_mem (λ {a b} ha hb hab e=>hab ?_) nd;have h1:=h a ha;have h2:=h b hb;have d1:(a.1*n+a.2)/n=a.1:=by rw[Nat.mul_comm,Nat.mul_add_div (by omega),Nat.div_eq_of_lt h1.2];omega
  have d2:(b.1*n+b.2)/n=b.1:=by rw[Nat.mul_comm,Nat.mul_add_div (by omega),Nat.div_eq_of_lt h2.2];omega
  have m1:(a.1*n+a.2)%n=a.2:=by rw[Nat.mul_comm,Nat.mul_add_mod,Nat.mod_eq_of_lt h1.2]
  have m2:(b.1*n+b.2)%n=b.2:=by rw[Nat.mul_comm,Nat.mul_add_mod,Nat.mod_eq_of_lt h2.2]
  have e':a.1*n+a.2=b.1*n+b.2:=e;rw[e'] at d1 m1;exact Prod.ext (d1.symm.trans d2) (m1.symm.trans m2)
 have:=ZL (n:=n*n) e λ t ht=>by
  obtain⟨q,hq,rfl⟩:=z05.mp ht;have:=h q hq
  calc q.1*n+q.2<q.1*n+n:=by omega
   _=(q.1+1)*n:=by rw[Nat.add_mul,Nat.one_mul]
   _<=n*n:=Nat.mul_le_mul_right _ (by omega)
 simpa using this
theorem N6 (W:Wl) (h:WOk W) (ms:List (Str×List Nat)) (ts:List (Str×List (Nat×Nat))) (hm:(ms.map (·.1)).Perm (W.ms.map (·.1))) (ht:(ts.map (·.1)).Perm (W.ts.map (·.1))) (am:∀ p∈ms,p.2.Nodup/\∀ t∈p.2,t<W.n) (at':∀ p∈ts,p.2.Nodup/\∀ q∈p.2,q.1<W.n/\q.2<W.n):WOk ⟨W.n,ms,ts⟩:=by
 refine⟨h.n5,?_,?_,λ p hp=>?_,λ p hp=>?_,?_,λ p hp=>⟨(am p hp).1,?_,(am p hp).2⟩,λ p hp=>⟨(at' p hp).1,?_,(at' p hp).2⟩⟩
 ·have:=hm.length_eq;simp at this;have:=h.m3;show ms.length<=3;omega
 ·have:=ht.length_eq;simp at this;have:=h.t3;show ts.length<=3;omega
 ·obtain⟨q,hq,e⟩:=z05.mp (hm.mem_iff.mp (z05.mpr ⟨p,hp,rfl⟩));rw[<-e];exact h.mw q hq
 ·obtain⟨q,hq,e⟩:=z05.mp (ht.mem_iff.mp (z05.mpr ⟨p,hp,rfl⟩));rw[<-e];exact h.tw q hq
 ·exact ((hm.append ht).nodup_iff).mpr h.nd
 ·have:=ZL (am p hp).1 (am p hp).2;have:=h.n5;omega
 ·have:=fZ (at' p hp).1 (at' p hp).2;have h5:=h.n5;have:W.n*W.n<=25:=Nat.mul_le_mul h5 h5;omega
theorem RM (h:os.Perm (List.range n)) {s t:Nat}(hs:s<n) (ht:t<n) (e:os.getD s 0=os.getD t 0):s=t:=by
 have hl:os.length=n:=by have:=h.length_eq;simpa using this
 have nd:os.Nodup:=h.nodup_iff.mpr List.nodup_range;rw[z0v,z0v,z06 (by omega),z06 (by omega)] at e;exact Jy nd _ _ e
theorem QH (h:os.Perm (List.range n)) {s:Nat}(hs:s<n):os.getD s 0<n:=by
 have hl:os.length=n:=by have:=h.length_eq;simpa using this
 rw[z0v,z06 (by omega)];exact z0o.mp (h.mem_iff.mp (z15 (by omega)))
theorem pQ (W:Wl) (h:WOk W) (os:List Nat) (ho:os.Perm (List.range W.n)):WOk (mvd os W)/\((mvd os W).ms.map (·.1)).Perm (W.ms.map (·.1))/\((mvd os W).ts.map (·.1)).Perm (W.ts.map (·.1)):=by
 have p1:((mvd os W).ms.map (·.1)).Perm (W.ms.map (·.1)):=by
  unfold mvd;rw[List.map_reverse,z0k];exact List.reverse_perm _
 have p2:((mvd os W).ts.map (·.1)).Perm (W.ts.map (·.1)):=by
  unfold mvd;rw[List.map_reverse,z0k];exact List.reverse_perm _
 refine⟨N6 W h _ _ p1 p2 (λ p hp=>?_) (λ p hp=>?_),p1,p2⟩
 ·rw[List.mem_reverse] at hp;obtain⟨q,hq,rfl⟩:=z05.mp hp;obtain⟨a1,_,a3⟩:=h.ml q hq;refine⟨?_,λ t ht=>?_⟩
  ·unfold List.Nodup;rw[z16];exact List.Pairwise.imp_of_mem (λ {a b} ha hb hab e=>hab (RM ho (a3 a ha) (a3 b hb) e)) a1
  ·obtain⟨s,hs,rfl⟩:=z05.mp ht;exact QH ho (a3 s hs)
 ·rw[List.mem_reverse] at hp;obtain⟨q,hq,rfl⟩:=z05.mp hp;obtain⟨a1,_,a3⟩:=h.tl q hq;refine⟨?_,λ t ht=>?_⟩
  ·unfold List.Nodup;rw[z16];refine List.Pairwise.imp_of_mem (λ {a b} ha hb hab e=>hab ?_) a1;have e1:os.getD a.1 0=os.getD b.1 0:=congrArg Prod.fst e;have e2:os.getD a.2 0=os.getD b.2 0:=congrArg Prod.snd e;exact Prod.ext (RM ho (a3 a ha).1 (a3 b hb).1 e1) (RM ho (a3 a ha).2 (a3 b hb).2 e2)
  ·obtain⟨s,hs,rfl⟩:=z05.mp ht;exact⟨QH ho (a3 s hs).1,QH ho (a3 s hs).2⟩
theorem Jk {α:Type}(l:List (Str×α)) (i:Nat) (g:α->α):(l.modify i λ p=>(p.1,g p.2)).map (·.1)=l.map (·.1):=by
 apply List.ext_getElem?;intro j;rw[z04,z04,List.getElem?_modify];cases l[j]? with
 | none=>rfl
 | some p=>
  show some (if i=j then (p.1,g p.2) else p).1=some p.1;split<;>rfl
theorem RN {α:Type}{l:List (Str×α)}{g:α->α}{p:Str×α}(h:p∈l.modify i λ p=>(p.1,g p.2)):p∈l∨∃ q,l[i]?=some q/\p=(q.1,g q.2):=by
 obtain⟨j,hj⟩:=List.getElem?_of_mem h;rw[List.getElem?_modify] at hj;cases e:l[j]? with
 | none=>rw[e] at hj;cases hj
 | some q=>
  rw[e] at hj;have hj':(if i=j then (q.1,g q.2) else q)=p:=z0e hj;split at hj'
  ·rename_i z;exact .inr ⟨q,z▸e,hj'.symm⟩
  ·exact .inl (hj'▸z0H e)
theorem fj (c:Int) (V:Wl) (h:WOk V):WOk (Jx c V)/\(Jx c V).n=V.n/\(Jx c V).ms.map (·.1)=V.ms.map (·.1)/\(Jx c V).ts.map (·.1)=V.ts.map (·.1):=by
 unfold Jx;split
 ·exact⟨h,rfl,rfl,rfl⟩
 ·rename_i i t hs;have n1:=Jk V.ms i (tog t);have tn:t<V.n:=by
   unfold sel at hs;split at hs
   ·rename_i q;cases hs;exact (GQ _ _ q.2.1).2
   ·split at hs<;>cases hs
  refine⟨N6 V h _ _ (by rw[n1]) (List.Perm.refl _) (λ p hp=>?_) (λ p hp=>⟨(h.tl p hp).1,(h.tl p hp).2.2⟩),rfl,n1,rfl⟩
  rcases RN hp with q | ⟨q,hq,rfl⟩
  ·exact⟨(h.ml p q).1,(h.ml p q).2.2⟩
  ·have hq':=h.ml q (z0H hq);exact⟨fV hq'.1,λ s hs=>(ZK hs).elim (hq'.2.2 s) (λ e=>e▸tn)⟩
 ·rename_i i x y hs;have n1:=Jk V.ts i (tog (x,y));have tn:x<V.n/\y<V.n:=by
   unfold sel at hs;split at hs
   ·cases hs
   ·split at hs
    ·rename_i q;cases hs;exact⟨(GQ _ _ q.2).2,(GQ _ _ q.2).2⟩
    ·cases hs
  refine⟨N6 V h _ _ (List.Perm.refl _) (by rw[n1]) (λ p hp=>⟨(h.ml p hp).1,(h.ml p hp).2.2⟩) (λ p hp=>?_),rfl,rfl,n1⟩
  rcases RN hp with q | ⟨q,hq,rfl⟩
  ·exact⟨(h.tl p q).1,(h.tl p q).2.2⟩
  ·have hq':=h.tl q (z0H hq);exact⟨fV hq'.1,λ s hs=>(ZK hs).elim (hq'.2.2 s) (λ e=>e▸tn)⟩
theorem U6 (n:Nat) (μ:Mu):∀ (d:D),(∀ a,d≠.adr a)->(match d with | .lst _=>False | .tup _=>False | .dk _=>False | _=>True)->der n μ d=d:=by
 intro d h1 h2;cases n with
 | zero=>rfl
 | succ n=>cases d<;>first | rfl | exact h2.elim | exact absurd rfl (h1 _)
theorem fu (n:Nat) (μ:Mu) (l:List Nat):(l.map iN).map (der n μ)=l.map iN:=by
 rw[z0k];refine List.map_congr_left λ t _=>?_;exact U6 n μ (iN t) (λ a=>nofun) trivial
theorem gB (n:Nat) (μ:Mu) (l:List Nat):der n μ (lN l)=lN l:=by
 cases n with
 | zero=>rfl
 | succ n=>show D.lst ((l.map iN).map (der n μ))=_;rw[fu];rfl
theorem pR (n:Nat) (μ:Mu) (q:Nat×Nat):der n μ (pN q)=pN q:=by
 cases n with
 | zero=>rfl
 | succ n=>
  show D.tup [der n μ (.int (q.1:Int)),der n μ (.int (q.2:Int))]=_;rw[U6 n μ (.int (q.1:Int)) (λ a=>nofun) trivial,U6 n μ (.int (q.2:Int)) (λ a=>nofun) trivial]
theorem pW (n:Nat) (μ:Mu) (l:List (Nat×Nat)):der n μ (lT l)=lT l:=by
 cases n with
 | zero=>rfl
 | succ n=>
  show D.lst ((l.map pN).map (der n μ))=D.lst (l.map pN);rw[z0k];congr 1;exact List.map_congr_left λ q _=>pR n μ q
theorem pX (n:Nat) (μ:Mu) (W:Wl):der n μ (wd W)=wd W:=by
 cases n with
 | zero=>rfl
 | succ n=>
  show D.lst [der n μ (.int (W.n:Int)),der n μ (.dk (eM W.ms)),der n μ (.dk (eT W.ts))]=_;have e1:der n μ (.dk (eM W.ms))=.dk (eM W.ms):=by
   cases n with
   | zero=>rfl
   | succ n=>
    show D.dk ((eM W.ms).map λ p=>(p.1,der n μ p.2))=_;unfold eM;rw[z0k];congr 1;exact List.map_congr_left λ p _=>by show ((.inr p.1:Key),der n μ (lM p.2))=_;rw[show der n μ (lM p.2)=lM p.2 from gB n μ p.2]
  have e2:der n μ (.dk (eT W.ts))=.dk (eT W.ts):=by
   cases n with
   | zero=>rfl
   | succ n=>
    show D.dk ((eT W.ts).map λ p=>(p.1,der n μ p.2))=_;unfold eT;rw[z0k];congr 1;exact List.map_congr_left λ p _=>by show ((.inr p.1:Key),der n μ (lT p.2))=_;rw[pW]
  rw[U6 n μ (.int (W.n:Int)) (λ a=>nofun) trivial,e1,e2];rfl
theorem QJ (x0 x1 x3:PV.Slot) (W V:Wl) (os:List Nat) (qs:List (Q Nat)) (us:List (Q (Nat×Nat))) (μ:Mu) (hm:der 2 μ (aD (adQ qs))=.dk (eM V.ms)) (ht:der 2 μ (aD (adQ us))=.dk (eT V.ts)) :
  frzM 3 (puM (retF (lstF (Aa (vF 2) (Aa (vF 5) (Aa (vF 4) nilA)))))) [x0,x1,.fz (wd W),x3,.fz (lN os),.fz (.lst [.int (V.n:Int),aD (adQ qs),aD (adQ us)])] μ (finM λ d' _=>d'=.lst [wd W,wd V,lN os]):=by
 have e5:der 3 μ (.lst [.int (V.n:Int),aD (adQ qs),aD (adQ us)])=wd V:=by
  show D.lst [der 2 μ (.int (V.n:Int)),der 2 μ (aD (adQ qs)),der 2 μ (aD (adQ us))]=_;rw[hm,ht];rfl
 have e:List.map (derS 3 μ) [x0,x1,.fz (wd W),x3,.fz (lN os),.fz (.lst [.int (V.n:Int),aD (adQ qs),aD (adQ us)])]=[derS 3 μ x0,derS 3 μ x1,.fz (wd W),derS 3 μ x3,.fz (lN os),.fz (wd V)]:=by simp[derS,pX,gB,e5]
 show puM _ (List.map (derS 3 μ) [x0,x1,.fz (wd W),x3,.fz (lN os),.fz (.lst [.int (V.n:Int),aD (adQ qs),aD (adQ us)])]) [] _;rw[e];exact⟨.rt (.lst [wd W,wd V,lN os]) _,rfl,rfl⟩
theorem RP {qs:List (Q Nat)}{us:List (Q (Nat×Nat))}(nd:(ksM ((us.map (cQ lT)).reverse++(qs.map (cQ lM)).reverse)).Nodup) :
  (∀ q∈qs,((us.map (cQ lT)).reverse++(qs.map (cQ lM)).reverse).lookup q.a=some (lM q.l))/\(∀ q∈us,((us.map (cQ lT)).reverse++(qs.map (cQ lM)).reverse).lookup q.a=some (lT q.l)):=
 ⟨λ q hq=>U5 nd (z0A _ (List.mem_reverse.mpr (z05.mpr ⟨q,hq,rfl⟩))),λ q hq=>U5 nd (z0M _ (List.mem_reverse.mpr (z05.mpr ⟨q,hq,rfl⟩)))⟩
theorem RQ {α:Type}{qs:List (Q α)}{ls:List (Str×List α)}(h:qs.map (λ q=>(q.w,q.l))=ls) {i:Nat}{q:Q α}{p:Str×List α}(e1:qs[i]?=some q) (e2:ls[i]?=some p):p=(q.w,q.l):=by
 rw[<-h,z04,e1] at e2;exact (z0e e2).symm
theorem XX {α:Type}{qs:List (Q α)}{ls:List (Str×List α)}(h:qs.map (λ q=>(q.w,q.l))=ls):qs.map (·.w)=ls.map (·.1):=by
 rw[<-h,z0k];rfl
theorem jo {qs:List (Q Nat)}{us:List (Q (Nat×Nat))}(nd:(ksM ((us.map (cQ lT)).reverse++(qs.map (cQ lM)).reverse)).Nodup):(qs.map (·.a)).Nodup/\(us.map (·.a)).Nodup/\∀ q∈qs,∀ u∈us,q.a≠u.a:=by
 have e:ksM ((us.map (cQ lT)).reverse++(qs.map (cQ lM)).reverse)=(us.map (·.a)).reverse++(qs.map (·.a)).reverse:=by
  unfold ksM;rw[z0y,List.map_reverse,List.map_reverse,z0k,z0k];rfl
 rw[e,z0u] at nd;obtain⟨h1,h2,h3⟩:=nd;refine⟨(List.reverse_perm _).nodup_iff.mp h2,(List.reverse_perm _).nodup_iff.mp h1,λ q hq u hu z=>?_⟩;exact h3 u.a (List.mem_reverse.mpr (z05.mpr ⟨u,hu,rfl⟩)) q.a (List.mem_reverse.mpr (z05.mpr ⟨q,hq,rfl⟩)) z.symm
theorem ZM {α:Type}(f:List α->D) {μ:Mu}{qs:List (Q α)}{ls:List (Str×List α)}(hp:qs.map (λ q=>(q.w,q.l))=ls) (hl:∀ q∈qs,μ.lookup q.a=some (f q.l)) (nd:(qs.map (·.a)).Nodup) {i:Nat}{q:Q α}(hi:qs[i]?=some q) (g:List α->List α) :
  der 2 (putA q.a (f (g q.l)) μ) (aD (adQ qs))=.dk ((ls.modify i λ p=>(p.1,g p.2)).map λ p=>((.inr p.1:Key),f p.2)):=by
 refine XS f _ qs _ (by rw[Jk];exact XX hp) λ j r p e1 e2=>?_;rw[List.getElem?_modify] at e2;cases e3:ls[j]? with
 | none=>rw[e3] at e2;cases e2
 | some p0=>
  rw[e3] at e2;have e2':(if i=j then (p0.1,g p0.2) else p0)=p:=z0e e2;have hp0:=RQ hp e1 e3;rw[RL]
  by_cases z:i=j
  ·subst z;rw[e1] at hi;cases hi;rw[if_pos rfl,hl _ (z0H e1),<-e2',if_pos rfl,hp0];rfl
  ·have ne:r.a≠q.a:=λ y=>by
    have i1:=(z0m.mp hi);have j1:=(z0m.mp e1);obtain⟨a1,a2⟩:=i1;obtain⟨b1,b2⟩:=j1;refine z (Jy nd (i:=i) (j:=j) (by simpa using a1) (by simpa using b1) ?_);rw[List.getElem_map,List.getElem_map,a2,b2];exact y.symm
   rw[if_neg ne,hl _ (z0H e1),<-e2',if_neg z,hp0]
theorem WQ {α:Type}(f:List α->D) {μ:Mu}{qs:List (Q α)}{ls:List (Str×List α)}(hp:qs.map (λ q=>(q.w,q.l))=ls) (hl:∀ q∈qs,μ.lookup q.a=some (f q.l)) (a:Addr) (c:D) (ne:∀ q∈qs,q.a≠a) :
  der 2 (putA a c μ) (aD (adQ qs))=.dk (ls.map λ p=>((.inr p.1:Key),f p.2)):=by
 refine XS f _ qs _ (XX hp) λ j r p e1 e2=>?_;have hm:=z0H e1;rw[RL,if_neg (ne r hm),hl r hm,RQ hp e1 e2]
theorem Ms {α:Type}(f:List α->D) {μ:Mu}{qs:List (Q α)}{ls:List (Str×List α)}(hp:qs.map (λ q=>(q.w,q.l))=ls) (hl:∀ q∈qs,μ.lookup q.a=some (f q.l)) :
  der 2 μ (aD (adQ qs))=.dk (ls.map λ p=>((.inr p.1:Key),f p.2)):=
 XS f _ qs _ (XX hp) λ j r p e1 e2=>by rw[hl r (z0H e1),RQ hp e1 e2]
theorem gC {α:Type}(f:Rho->Option α) (ρ:Rho) (μ:Mu):vwM [] f ρ μ=f ρ:=rfl
theorem pZ (ns:List Int):∃ (W V:Wl) (os:List Nat),Two (ns.getD 8 0) 5 W V os/\runM 6 2 Cy [.lst (ns.map .int),.int 5] [] λ d' _=>d'=.lst [wd W,wd V,lN os]:=by
 obtain⟨W,hW,ew⟩:=fJ ns;have ew:Et [.lst (ns.map .int),.int 0]=some (wd W):=ew;have et:Dd [wd W,.int 5]=some (wd W):=jk W 5 hW.n5;have c8:Ah [.lst (ns.map .int),.int 8]=some (.int (ns.getD 8 0)):=G5 ns 8;have c15:Ah [.lst (ns.map .int),.int 15]=some (.int (ns.getD 15 0)):=G5 ns 15;have c16:Ah [.lst (ns.map .int),.int 16]=some (.int (ns.getD 16 0)):=G5 ns 16;obtain⟨os,po,eo⟩:=Qo (ns.getD 15 0) W.n hW.n5;have hol:os.length=W.n:=by have:=po.length_eq;simpa using this
 have i0:=ixw0 W;generalize hc:ns.getD 8 0=c at c8
 by_cases h0:c%4=0
 ·obtain⟨V,hV,vn,m1,t1,eV⟩:=fL ns W hW 5 (z01 _) hW.n5;have eV:Ex [.lst (ns.map .int),.int 8,wd W,.int 5]=some (wd V):=eV;refine⟨W,V,os,⟨hW,hV,hW.n5,vn,by rw[m1],by rw[t1],po,λ z=>by omega⟩,rfl,?_⟩;show Cy [.fz (.lst (ns.map .int)),.fz (.int 5),.un,.un,.un,.un] [] _;unfold Cy;refine⟨.nx [.fz (.lst (ns.map .int)),.fz (.int 5),.fz (wd W),.un,.un,.un],by simp only[cK,ew,et],?_⟩;refine⟨.nx [.fz (.lst (ns.map .int)),.fz (.int 5),.fz (wd W),.fz (.int c),.un,.un],by simp only[cK,c8],?_⟩;refine⟨.nx [.fz (.lst (ns.map .int)),.fz (.int 5),.fz (wd W),.fz (.int c),.fz (lN os),.un],by simp only[cK,c15,i0,eo],?_⟩;refine⟨.rt (.lst [wd W,wd V,lN os]) [.fz (.lst (ns.map .int)),.fz (.int 5),.fz (wd W),.fz (.int c),.fz (lN os),.un],?_,rfl⟩;simp only[ciK,h0,eV]
 ·obtain⟨o1,o2,o3⟩:=pQ W hW os po
  by_cases h3:c%4=3
  ·obtain⟨w1,w2,w3,w4⟩:=fj (ns.getD 16 0) (mvd os W) o1;refine⟨W,Jx (ns.getD 16 0) (mvd os W),os,⟨hW,w1,hW.n5,by rw[w2];exact hW.n5,by rw[w3];exact o2,by rw[w4];exact o3,po,λ z=>by omega⟩,rfl,?_⟩;show Cy [.fz (.lst (ns.map .int)),.fz (.int 5),.un,.un,.un,.un] [] _;unfold Cy;refine⟨.nx [.fz (.lst (ns.map .int)),.fz (.int 5),.fz (wd W),.un,.un,.un],by simp only[cK,ew,et],?_⟩;refine⟨.nx [.fz (.lst (ns.map .int)),.fz (.int 5),.fz (wd W),.fz (.int c),.un,.un],by simp only[cK,c8],?_⟩;refine⟨.nx [.fz (.lst (ns.map .int)),.fz (.int 5),.fz (wd W),.fz (.int c),.fz (lN os),.un],by simp only[cK,c15,i0,eo],?_⟩;refine⟨.nx [.fz (.lst (ns.map .int)),.fz (.int 5),.fz (wd W),.fz (.int c),.fz (lN os),.un],by simp only[ciK,z0a h0],?_⟩;refine⟨[wd W,lN os],rfl,Sv W hW os hol _ λ qs us e1 e2 nd=>?_⟩;obtain⟨k1,k2⟩:=RP nd;obtain⟨n1,n2,n3⟩:=jo nd;generalize hμ:(us.map (cQ lT)).reverse++(qs.map (cQ lM)).reverse=μ at k1 k2;have lq:∀ q∈qs,q.l.length<=1000:=λ q hq=>by
    have:(q.w,q.l)∈(mvd os W).ms:=by rw[<-e1];exact z05.mpr ⟨q,hq,rfl⟩
    have:=(o1.ml _ this).2.1;simp at this;omega
   have lu:∀ q∈us,q.l.length<=1000:=λ q hq=>by
    have:(q.w,q.l)∈(mvd os W).ts:=by rw[<-e2];exact z05.mpr ⟨q,hq,rfl⟩
    have:=(o1.tl _ this).2.1;simp at this;omega
   have l1:qs.length=(mvd os W).ms.length:=by rw[<-e1,z00]
   have l2:us.length=(mvd os W).ts.length:=by rw[<-e2,z00]
   show ifM [] _ _ _ [.fz (.lst (ns.map .int)),.fz (.int 5),.fz (wd W),.fz (.int c),.fz (lN os),.fz (.lst [.int (W.n:Int),aD (adQ qs),aD (adQ us)])] μ _;have v:vwM [] (blF (bF (eqD false) (bF modD (vF 3) (kF (.int 4))) (kF (.int 3)))) [.fz (.lst (ns.map .int)),.fz (.int 5),.fz (wd W),.fz (.int c),.fz (lN os),.fz (.lst [.int (W.n:Int),aD (adQ qs),aD (adQ us)])] μ=some true:=by
    rw[gC];simp only[ciK,h3]
   unfold ifM;rw[v];refine⟨[.lst [.int (W.n:Int),aD (adQ qs),aD (adQ us)],.int (ns.getD 16 0)],by simp only[cK,c16],?_⟩;refine aR W.n qs us (ns.getD 16 0) μ _ (λ q hq=>⟨k1 q hq,lq q hq⟩) (λ q hq=>⟨k2 q hq,lu q hq⟩) (λ hs=>?_) (λ i t q hs hi=>?_) (λ i x y q hs hi=>?_)
   ·have et:Jx (ns.getD 16 0) (mvd os W)=mvd os W:=by
     unfold Jx;rw[show (mvd os W).n=W.n from rfl,<-l1,<-l2,hs]
    rw[et];exact QJ _ _ _ W (mvd os W) os qs us μ (Ms lM e1 k1) (Ms lT e2 k2)
   ·have et:Jx (ns.getD 16 0) (mvd os W)=⟨W.n,(mvd os W).ms.modify i (λ p=>(p.1,tog t p.2)),(mvd os W).ts⟩:=by
     unfold Jx;rw[show (mvd os W).n=W.n from rfl,<-l1,<-l2,hs]
    rw[et];exact QJ _ _ _ W ⟨W.n,(mvd os W).ms.modify i (λ p=>(p.1,tog t p.2)),(mvd os W).ts⟩ os qs us _ (ZM lM e1 k1 n1 hi (tog t)) (WQ lT e2 k2 _ _ λ u hu z=>n3 q (z0H hi) u hu z.symm)
   ·have et:Jx (ns.getD 16 0) (mvd os W)=⟨W.n,(mvd os W).ms,(mvd os W).ts.modify i λ p=>(p.1,tog (x,y) p.2)⟩:=by
     unfold Jx;rw[show (mvd os W).n=W.n from rfl,<-l1,<-l2,hs]
    rw[et];exact QJ _ _ _ W ⟨W.n,(mvd os W).ms,(mvd os W).ts.modify i λ p=>(p.1,tog (x,y) p.2)⟩ os qs us _ (WQ lM e1 k1 _ _ λ u hu z=>n3 u hu q (z0H hi) z) (ZM lT e2 k2 n2 hi (tog (x,y)))
  ·refine⟨W,mvd os W,os,⟨hW,o1,hW.n5,hW.n5,o2,o3,po,λ _=>rfl⟩,rfl,?_⟩;show Cy [.fz (.lst (ns.map .int)),.fz (.int 5),.un,.un,.un,.un] [] _;unfold Cy;refine⟨.nx [.fz (.lst (ns.map .int)),.fz (.int 5),.fz (wd W),.un,.un,.un],by simp only[cK,ew,et],?_⟩;refine⟨.nx [.fz (.lst (ns.map .int)),.fz (.int 5),.fz (wd W),.fz (.int c),.un,.un],by simp only[cK,c8],?_⟩;refine⟨.nx [.fz (.lst (ns.map .int)),.fz (.int 5),.fz (wd W),.fz (.int c),.fz (lN os),.un],by simp only[cK,c15,i0,eo],?_⟩;refine⟨.nx [.fz (.lst (ns.map .int)),.fz (.int 5),.fz (wd W),.fz (.int c),.fz (lN os),.un],by simp only[ciK,z0a h0],?_⟩;refine⟨[wd W,lN os],rfl,Sv W hW os hol _ λ qs us e1 e2 nd=>?_⟩;obtain⟨k1,k2⟩:=RP nd;generalize hμ:(us.map (cQ lT)).reverse++(qs.map (cQ lM)).reverse=μ at k1 k2;show ifM [] _ _ _ [.fz (.lst (ns.map .int)),.fz (.int 5),.fz (wd W),.fz (.int c),.fz (lN os),.fz (.lst [.int (W.n:Int),aD (adQ qs),aD (adQ us)])] μ _;have v:vwM [] (blF (bF (eqD false) (bF modD (vF 3) (kF (.int 4))) (kF (.int 3)))) [.fz (.lst (ns.map .int)),.fz (.int 5),.fz (wd W),.fz (.int c),.fz (lN os),.fz (.lst [.int (W.n:Int),aD (adQ qs),aD (adQ us)])] μ=some false:=by
    rw[gC];simp only[ciK,z0a h3]
   unfold ifM;rw[v];exact QJ _ _ _ W (mvd os W) os qs us μ (Ms lM e1 k1) (Ms lT e2 k2)
theorem K9 (ns:List Int):∃ (W V:Wl) (os:List Nat),Two (ns.getD 8 0) 5 W V os/\HW [.lst (ns.map .int),.int 5]=some (.lst [wd W,wd V,lN os]):=by
 obtain⟨W,V,os,h,wp⟩:=pZ ns;obtain⟨e,h1,ns',m,W',V',os',q1,q2,q3⟩:=Y6 (P:=Good) wp ⟨ns,5,W,V,os,rfl,rfl,h⟩;have en:ns'=ns:=by
  have:ns'.map D.int=ns.map D.int:=by
   have:=congrArg (λ l:List D=>l.head?) q1;simp at this;exact this.symm
  exact (List.map_inj_right (f:=D.int) (λ a b z=>D.int.inj z)).mp this
 have em:m=5:=by
  have:=congrArg (λ l:List D=>l[1]?) q1;simp at this;omega
 subst en em;exact⟨W',V',os',q3,by rw[<-q2];exact h1⟩
theorem rF (x y:Nat) (l:List (Nat×Nat)):inTO (some [.int (x:Int),.int (y:Int)]) (some (kT l))=some (.bl (l.any λ q=>decide (q.1=x)&&decide (q.2=y))):=by
 have h:∀ l:List (Nat×Nat),(getK [(.inl (x:Int):Key),.inl (y:Int)] (l.map λ (q:Nat×Nat)=>([(.inl (q.1:Int):Key),.inl (q.2:Int)],D.bl true))).isSome=l.any λ q=>decide (q.1=x)&&decide (q.2=y):=λ l=>by
  induction l with
  | nil=>rfl
  | cons t r ih=>
   rw[z03,z1e,<-ih];show (if [(.inl (t.1:Int):Key),.inl (t.2:Int)]=[.inl (x:Int),.inl (y:Int)] then _ else _:Option D).isSome=_
   by_cases z:t.1=x/\t.2=y
   ·obtain⟨z1,z2⟩:=z;subst z1 z2;simp
   ·have:¬ ([(.inl (t.1:Int):Key),.inl (t.2:Int)]=[.inl (x:Int),.inl (y:Int)]):=λ q=>by
     simp only[List.cons.injEq,Sum.inl.injEq,and_true] at q;exact z ⟨by omega,by omega⟩
    rw[if_neg this];have:(decide (t.1=x)&&decide (t.2=y))=false:=by
     rw[Bool.and_eq_false_iff]
     by_cases z1:t.1=x
     ·right;exact z0a λ z2=>z ⟨z1,z2⟩
     ·left;exact z0a z1
    rw[this,Bool.false_or]
 have e:inTO (some [.int (x:Int),.int (y:Int)]) (some (kT l))=some (.bl ((getK [(.inl (x:Int):Key),.inl (y:Int)] (l.map λ (q:Nat×Nat)=>([(.inl (q.1:Int):Key),.inl (q.2:Int)],D.bl true))).isSome)):=by
  unfold kT inTO;simp only[z0p];rw[if_pos (Hk (by show 2<=10000000;decide))];rfl
 rw[e,h]
theorem rG (fs:FA) (fb:FE) (ρ:Rho):inTF fs fb ρ=inTO (fs ρ) (fb ρ):=zE_ _
theorem WR (ms:List (Str×List Nat)):(oM ms).map (λ p=>kDt p.1)=(ms.map (·.1)).map .str:=by simp[oM,Oe]
theorem WT (ts:List (Str×List (Nat×Nat))):(oT ts).map (λ p=>kDt p.1)=(ts.map (·.1)).map .str:=by simp[oT,Oe]
theorem U7 {k:List (Key×D)}{zs:List Str}(h:k.map (λ p=>kDt p.1)=zs.map .str) (nd:zs.Nodup) (hl:zs.length<=60):sdkD (.dk k)=some (.lst ((Bo zs).map .str)):=by
 show sdkL k=_;unfold sdkL;rw[h,Z1,z0p,if_pos ⟨nd,hl⟩]
def mk (W:Wl) (w:Str) (i:Nat):Bool:=match W.ms.find? (λ p=>p.1=w) with | some p=>decide (i∈p.2) | none=>false
def tk (W:Wl) (w:Str) (i j:Nat):Bool:=match W.ts.find? (λ p=>p.1=w) with | some p=>decide ((i,j)∈p.2) | none=>false
abbrev mw (W:Wl):List Str:=W.ms.map (·.1)
abbrev tw (W:Wl):List Str:=W.ts.map (·.1)
theorem ZP (i:Nat) (l:List Nat):(l.any λ t=>decide (t=i))=decide (i∈l):=by
 rw[z0N];simp
theorem RT (i j:Nat) (l:List (Nat×Nat)):(l.any λ q=>decide (q.1=i)&&decide (q.2=j))=decide ((i,j)∈l):=by
 rw[z0N];simp
theorem QK {α:Type}{w:Str}{l:List (Str×α)}(h:w∈l.map (·.1)):∃ q,q∈l/\l.find? (λ p=>p.1=w)=some q:=by
 obtain⟨p,hp,e⟩:=z05.mp h;cases q:l.find? (λ p=>p.1=w) with
 | none=>exact absurd (by simpa using e) (by simpa using List.find?_eq_none.mp q p hp)
 | some x=>exact⟨x,List.mem_of_find?_eq_some q,rfl⟩
theorem mF (W:Wl) {w:Str}(h:w∈mw W) (i:Nat):∃ d,ixE (.dk (oM W.ms)) (.str w)=some d/\inF false (.int (i:Int)) d=some (.bl (mk W w i)):=by
 obtain⟨q,_,e⟩:=QK h;refine⟨kM q.2,?_,?_⟩
 ·rw[Hn];unfold oM;rw[RG kM w,e];rfl
 ·rw[rE,ZP,mk,e]
theorem mG (W:Wl) {w:Str}(h:w∈tw W) (i j:Nat):∃ d,ixE (.dk (oT W.ts)) (.str w)=some d/\inTO (some [.int (i:Int),.int (j:Int)]) (some d)=some (.bl (tk W w i j)):=by
 obtain⟨q,_,e⟩:=QK h;refine⟨kT q.2,?_,?_⟩
 ·rw[Hn];unfold oT;rw[RG kT w,e];rfl
 ·rw[rF,RT,tk,e]
theorem rH (W:Wl) {w:Str}(h:w∈mw W) (i:Nat):∃ d,ixE (.dk (eM W.ms)) (.str w)=some d/\inF false (.int (i:Int)) d=some (.bl (mk W w i)):=by
 obtain⟨q,_,e⟩:=QK h;refine⟨lM q.2,?_,?_⟩
 ·rw[Hn];unfold eM;rw[RG lM w,e];rfl
 ·rw[U3,ZP,mk,e]
theorem rJ (W:Wl) {w:Str}(h:w∈tw W) (i j:Nat):∃ d,ixE (.dk (eT W.ts)) (.str w)=some d/\inF false (.tup [.int (i:Int),.int (j:Int)]) d=some (.bl (tk W w i j))/\inF false (.tup [.int (j:Int),.int (i:Int)]) d=some (.bl (tk W w j i)):=by
 obtain⟨q,_,e⟩:=QK h;refine⟨lT q.2,?_,?_,?_⟩
 ·rw[Hn];unfold eT;rw[RG lT w,e];rfl
 ·rw[RK,RT,tk,e]
 ·rw[RK,RT,tk,e]
theorem KZ {α:Type}{tg:FG}{b:FS}(mr:PV.Slot->Rho) (e:α->D) (P:α->Bool) (r:D) (ht:∀ d z,tg d (mr z)=some (mr (.fz d))):∀ (l:List α) (z:PV.Slot),(∀ x∈l,b (mr (.fz (e x)))=some (if P x=true then .nx (mr (.fz (e x))) else .rt r (mr (.fz (e x))))) ->
  ∃ z',forF (tgB tg b) (l.map e) (mr z)=some (if l.all P=true then .nx (mr z') else .rt r (mr z'))
 | [],z,_=>⟨z,rfl⟩
 | x::l,z,h=>by
  rw[z03,Dk,e_tg,ht,Ip,h x (by simp),z1d];cases hx:P x with
  | false=>exact⟨_,rfl⟩
  | true=>
   obtain⟨z',ih⟩:=KZ mr e P r ht l (.fz (e x)) λ y hy=>h y (by simp[hy]);exact⟨z',by rw[if_pos rfl,CQ,ih,Bool.true_and]⟩
theorem gD (a b:Bool):eqD true (.bl a) (.bl b)=some (.bl (!(a==b))):=by cases a<;>cases b<;>rfl
abbrev Pr:=Nat×Nat
def RV (W V:Wl) (q:Pr):Bool:=(mw W).all λ w=>mk W w q.1==mk V w q.2
def JN (W V:Wl) (p q:Pr):Bool:=(tw W).all λ w=>tk W w p.1 q.1==tk V w p.2 q.2
def goB (W V:Wl) (p q:Pr):Bool:=(decide (p.1=q.1)==decide (p.2=q.2))&&(JN W V p q&&JN W V q p)
def fwB (W V:Wl) (ps:List Pr) (q:Pr):Bool:=(RV W V q&&JN W V q q)&&ps.all λ p=>goB W V p q
structure Sp (W V:Wl):Prop where
 mm:∀ w∈mw W,w∈mw V
 tt:∀ w∈tw W,w∈tw V
theorem ixp0 (q:Pr):ixE (pN q) (.int 0)=some (.int (q.1:Int)):=rfl
theorem ixp1 (q:Pr):ixE (pN q) (.int 1)=some (.int (q.2:Int)):=rfl
theorem jq (W V:Wl) (h:Sp W V) (q:Pr):Ea [wob W,wob V,pN q]=some (.bl (RV W V q)):=by
 have m1:=RJ W;have m2:=RJ V;have i0:=ixp0 q;have i1:=ixp1 q;have n1:=WR W.ms;obtain⟨z',e⟩:=KZ (tg:=Ay 3) (b:=FJ) (λ z=>[.fz (wob W),.fz (wob V),.fz (pN q),z]) D.str (λ w=>mk W w q.1==mk V w q.2) (.bl false) (λ d z=>rfl) (mw W) .un λ w hw=>by
  obtain⟨d1,a1,a2⟩:=mF W hw q.1;obtain⟨d2,b1,b2⟩:=mF V (h.mm w hw) q.2;simp only[cK,FJ,m1,m2,i0,i1,a1,a2,b1,b2,gD];cases (mk W w q.1==mk V w q.2)<;>rfl
 have q1:Kv (some (D.dk (oM W.ms)))=some ((mw W).map .str):=by rw[Kg,n1]
 simp only[cK,Ea,Gk,Er,m1,q1,e];show _=some (D.bl ((mw W).all λ w=>mk W w q.1==mk V w q.2));cases (mw W).all (λ w=>mk W w q.1==mk V w q.2)<;>rfl
theorem U8 (W V:Wl) (h:Sp W V) (p q:Pr):CP [wob W,wob V,pN p,pN q]=some (.bl (JN W V p q)):=by
 have m1:=XR W;have m2:=XR V;have i0:=ixp0 p;have i1:=ixp1 p;have j0:=ixp0 q;have j1:=ixp1 q;have n1:=WT W.ts;obtain⟨z',e⟩:=KZ (tg:=Ay 4) (b:=FN) (λ z=>[.fz (wob W),.fz (wob V),.fz (pN p),.fz (pN q),z]) D.str (λ w=>tk W w p.1 q.1==tk V w p.2 q.2) (.bl false) (λ d z=>rfl) (tw W) .un λ w hw=>by
  obtain⟨d1,a1,a2⟩:=mG W hw p.1 q.1;obtain⟨d2,b1,b2⟩:=mG V (h.tt w hw) p.2 q.2;simp only[cK,FN,rG,m1,m2,i0,i1,j0,j1,a1,a2,b1,b2,gD];cases (tk W w p.1 q.1==tk V w p.2 q.2)<;>rfl
 have q1:Kv (some (D.dk (oT W.ts)))=some ((tw W).map .str):=by rw[Kg,n1]
 simp only[cK,CP,Gm,Er,m1,q1,e];show _=some (D.bl ((tw W).all λ w=>tk W w p.1 q.1==tk V w p.2 q.2));cases (tw W).all (λ w=>tk W w p.1 q.1==tk V w p.2 q.2)<;>rfl
theorem QL (a b:Nat):decide ((a:Int)=(b:Int))=decide (a=b):=by
 by_cases z:a=b
 ·subst z;simp
 ·rw[z0a z,z0a (by omega)]
theorem rK (W V:Wl) (h:Sp W V) (p q:Pr):GC [wob W,wob V,pN p,pN q]=some (.bl (goB W V p q)):=by
 have i0:=ixp0 p;have i1:=ixp1 p;have j0:=ixp0 q;have j1:=ixp1 q;have l1:=U8 W V h p q;have l2:=U8 W V h q p;simp only[ciK,GC,Ig,i0,i1,j0,j1,QL,gD];unfold goB;cases hx:(decide (p.1=q.1)==decide (p.2=q.2)) with
 | false=>rfl
 | true=>
  simp only[cK,l1,l2];cases JN W V p q with
  | false=>rfl
  | true=>simp only[cK,l2,Bool.true_and]
theorem ph {α:Type}(f:α->Bool) (l:List α):allD (.lst (l.map λ x=>.bl (f x)))=some (.bl (l.all f)):=by
 show (blsD _).map _=_;rw[Yw];simp[Function.comp_def]
theorem rM (W V:Wl) (h:Sp W V) (ps:List Pr) (hl:ps.length<=1000) (q:Pr):Ge [wob W,wob V,.lst (ps.map pN),pN q]=some (.bl (fwB W V ps q)):=by
 have b1:=jq W V h q;have l1:=U8 W V h q q;have cm:CK (seqA (vF 2)) allT Ih [.fz (wob W),.fz (wob V),.fz (.lst (ps.map pN)),.fz (pN q)]=some (.lst (ps.map λ p=>.bl (goB W V p q))):=
  N5 ps pN (λ p=>.bl (goB W V p q)) (by simp only[cK,Er,Es]) hl λ p _=>by
   have g:=rK W V h p q;simp only[cK,Ih,g]
 have al:=ph (λ p=>goB W V p q) ps;unfold fwB;simp only[cK,Ge,KC,b1];cases RV W V q with
 | false=>simp only[cK,Bool.false_and]
 | true=>
  simp only[cK,l1];cases JN W V q q with
  | false=>simp only[cK,Bool.true_and,Bool.false_and]
  | true=>simp only[cK,cm,al,Bool.true_and]
def mzO (c m:Str) (g:List D->Option D) (o:Option D) (ds:Option (List D)):Option D:=o.bind λ o=>if Jp c m o=true then ds.bind λ ds=>g (o::ds) else none
theorem jr (c m:Str) (g:List D->Option D) (fo:FE) (fs:FA) (ρ:Rho):MJ c m g fo fs ρ=mzO c m g (fo ρ) (fs ρ):=zE_ _
theorem ZQ {g:List D->Option D}{o:D}(h:Jp c m o=true):mzO c m g (some o) (some ds)=g (o::ds):=by
 show (if Jp c m o=true then _ else _)=_;rw[if_pos h];rfl
theorem mH (W:Wl):Jp "World" "mark_words" (wob W)=true:=rfl
theorem mJ (W:Wl):Jp "World" "tie_words" (wob W)=true:=rfl
def Eg (W:Wl) (i j:Nat):List Bool:=decide (i=j)::((Bo (mw W)).map λ w=>mk W w i)++(Bo (tw W)).flatMap λ w=>[tk W w i j,tk W w j i]
theorem rN (bs:List Bool) (b:Bool) (h:bs.length<=1000):appL (.lst (bs.map .bl)) (.bl b)=some (.lst ((bs++[b]).map .bl)):=by
 rw[Q_ _ _ (by simpa using h),z0y];rfl
theorem rO (bs:List Bool) (a b:Bool) (h:bs.length<=1000):catD (.lst (bs.map .bl)) (.lst [.bl a,.bl b])=some (.lst ((bs++[a,b]).map .bl)):=by
 show (if (bs.map D.bl).length+2<=sizeLine then some (D.lst (bs.map D.bl++[.bl a,.bl b])) else none)=_;rw[if_pos (Hk (by rw[z00];omega)),z0y];rfl
theorem ZR (W:Wl) (i j:Nat):∀ (l:List Str) (bs:List Bool) (z:PV.Slot),(∀ w∈l,w∈mw W)->bs.length+l.length<=900->∃ z',forF (tgB (Ay 4) Di) (l.map .str) [.fz (wd W),.fz (iN i),.fz (iN j),.ow (.lst (bs.map .bl)),z]=some (.nx [.fz (wd W),.fz (iN i),.fz (iN j),.ow (.lst ((bs++l.map λ w=>mk W w i).map .bl)),z'])
 | [],bs,z,_,_=>⟨z,by show _=some (Out.nx [_,_,_,.ow (.lst ((bs++[]).map .bl)),z]);rw[z0w];rfl⟩
 | w::l,bs,z,h,hl=>by
  obtain⟨d,a1,a2⟩:=rH W (h w (by simp)) i;have i1:=ixw1 W;have ab:=rN bs (mk W w i) (by omega);obtain⟨z',ih⟩:=ZR W i j l (bs++[mk W w i]) (.fz (.str w)) (λ x hx=>h x (by simp[hx])) (by simp at hl ⊢;omega);refine⟨z',?_⟩;have st:Di [.fz (wd W),.fz (iN i),.fz (iN j),.ow (.lst (bs.map .bl)),.fz (.str w)]=some (.nx [.fz (wd W),.fz (iN i),.fz (iN j),.ow (.lst ((bs++[mk W w i]).map .bl)),.fz (.str w)]):=by
   simp only[cK,Di,i1,a1,a2,ab]
  w_up
  rw[st,CQ,ih,z03,z14];rfl
theorem ZS (W:Wl) (i j:Nat):∀ (l:List Str) (bs:List Bool) (z:PV.Slot),(∀ w∈l,w∈tw W)->bs.length+2*l.length<=900->∃ z',forF (tgB (Ay 4) FP) (l.map .str) [.fz (wd W),.fz (iN i),.fz (iN j),.ow (.lst (bs.map .bl)),z]=some (.nx [.fz (wd W),.fz (iN i),.fz (iN j),.ow (.lst ((bs++l.flatMap λ w=>[tk W w i j,tk W w j i]).map .bl)),z'])
 | [],bs,z,_,_=>⟨z,by rw[List.flatMap_nil,z0w];rfl⟩
 | w::l,bs,z,h,hl=>by
  obtain⟨d,a1,a2,a3⟩:=rJ W (h w (by simp)) i j;have i2:=ixw2 W;have ab:=rO bs (tk W w i j) (tk W w j i) (by omega);obtain⟨z',ih⟩:=ZS W i j l (bs++[tk W w i j,tk W w j i]) (.fz (.str w)) (λ x hx=>h x (by simp[hx])) (by simp at hl ⊢;omega);refine⟨z',?_⟩;have st:FP [.fz (wd W),.fz (iN i),.fz (iN j),.ow (.lst (bs.map .bl)),.fz (.str w)]=some (.nx [.fz (wd W),.fz (iN i),.fz (iN j),.ow (.lst ((bs++[tk W w i j,tk W w j i]).map .bl)),.fz (.str w)]):=by
   simp only[cK,FP,i2,a1,a2,a3,ab]
  w_up
  rw[st,CQ,ih,List.flatMap_cons,z14]
theorem WW (h:l.Nodup):(Bo l).length<=l.length:=sub_len (Ve (J1 l)) λ x hx=>(Dl x l).mp hx
theorem WX (W:Wl) (h:WOk W) (i j:Nat):FQ [wd W,iN i,iN j]=some (.lst ((Eg W i j).map .bl)):=by
 have nd:=z0u.mp h.nd;have n1:=Uz W.ms;have n2:=U0 W.ts;have m3:=h.m3;have t3:=h.t3;have s1:=U7 n1 nd.1 (by simp;omega);have s2:=U7 n2 nd.2.1 (by simp;omega);have l1:(Bo (mw W)).length<=W.ms.length:=z0t (WW nd.1) (by simp);have l2:(Bo (tw W)).length<=W.ts.length:=z0t (WW nd.2.1) (by simp);have i1:=ixw1 W;have i2:=ixw2 W;obtain⟨z1,e1⟩:=ZR W i j (Bo (mw W)) [decide (i=j)] .un (λ w hw=>(Dl w _).mp hw) (by simp;omega);obtain⟨z2,e2⟩:=ZS W i j (Bo (tw W)) ([decide (i=j)]++(Bo (mw W)).map λ w=>mk W w i) z1 (λ w hw=>(Dl w _).mp hw) (by simp;omega);generalize h1:([decide (i=j)]++(Bo (mw W)).map λ w=>mk W w i)=B1 at e1 e2;generalize h2:(B1++(Bo (tw W)).flatMap λ w=>[tk W w i j,tk W w j i])=B2 at e2;have e1:forF (tgB (Ay 4) Di) ((Bo (mw W)).map .str) [.fz (wd W),.fz (iN i),.fz (iN j),.ow (.lst [.bl (decide (i=j))]),.un]=some (.nx [.fz (wd W),.fz (iN i),.fz (iN j),.ow (.lst (B1.map .bl)),z1]):=e1;have e3:Eg W i j=B2:=by rw[<-h2,<-h1];rfl
 rw[e3];simp only[ciK,FQ,Ji,QL,Er,Qs,Qt,LQ,i1,s1,Es,e1,i2,s2,e2]
theorem gF:∀ (l m:List Bool),l.length=m.length->allO (eqK 180) (l.map .bl) (m.map .bl)=some (decide (l=m))
 | [],[],_=>rfl
 | [],_::_,h=>by simp at h
 | _::_,[],h=>by simp at h
 | a::l,b::m,h=>by
  show (match eqK 180 (.bl a) (.bl b),allO (eqK 180) (l.map .bl) (m.map .bl) with | some x,some y=>some (x&&y) | _,_=>none)=_;rw[gF l m (by simpa using h)];have:eqK 180 (.bl a) (.bl b)=some (decide (a=b)):=by cases a<;>cases b<;>rfl
  rw[this];show some (decide (a=b)&&decide (l=m))=_
  by_cases z1:a=b<;>by_cases z2:l=m<;>simp[z1,z2]
theorem pq (l m:List Bool):eqD true (.lst (l.map .bl)) (.lst (m.map .bl))=some (.bl (!decide (l=m))):=by
 unfold eqD;have:eqvD (.lst (l.map .bl)) (.lst (m.map .bl))=some (decide (l=m)):=by
  show (if (l.map D.bl).length=(m.map D.bl).length then allO (eqK 180) (l.map .bl) (m.map .bl) else some false)=_
  by_cases z:l.length=m.length
  ·rw[if_pos (by simpa using z),gF l m z]
  ·rw[if_neg (by simpa using z),z0a (λ e=>z (by rw[e]))]
 rw[this];rfl
theorem Kp {m:List Str}(h:l.Perm m):Bo l=Bo m:=Ww (J1 l) (J1 m) λ x=>by rw[Dl,Dl,h.mem_iff]
theorem Xa {α:Type}{l:List α}{f g:α->Bool}:l.map f=l.map g↔(l.all λ x=>f x==g x)=true:=by
 induction l with
 | nil=>simp
 | cons x r ih=>simp[ih]
theorem jt {f g f' g':Str->Bool}:(l.flatMap λ w=>[f w,g w])=(l.flatMap λ w=>[f' w,g' w])↔((l.all λ w=>f w==f' w)=true/\(l.all λ w=>g w==g' w)=true):=by
 induction l with
 | nil=>simp
 | cons x r ih=>
  simp only[List.flatMap_cons,z1i,z0Q,List.cons.injEq,ih,z1d,z0C,z0J];constructor
  ·rintro⟨a,b,c,d⟩;exact⟨⟨a,c⟩,b,d⟩
  ·rintro⟨⟨a,c⟩,b,d⟩;exact⟨a,b,c,d⟩
theorem RW {P:Str->Bool}:(Bo l).all P=l.all P:=by
 rw[z0N,z0x,z0x];exact⟨λ h x hx=>h x ((Dl x l).mpr hx),λ h x hx=>h x ((Dl x l).mp hx)⟩
structure Spk (W V:Wl):Prop where
 mm:(mw V).Perm (mw W)
 tt:(tw V).Perm (tw W)
theorem Spk.sp {W V:Wl}(h:Spk W V):Sp W V:=⟨λ w hw=>h.mm.mem_iff.mpr hw,λ w hw=>h.tt.mem_iff.mpr hw⟩
theorem ju {α:Type}{a b c d:List α}(h:a.length=c.length):(a++b=c++d)↔(a=c/\b=d):=⟨λ e=>List.append_inj e h,λ ⟨x,y⟩=>by rw[x,y]⟩
theorem Kq {W V:Wl}(h:Spk W V) (p q:Pr):Eg W p.1 q.1=Eg V p.2 q.2↔(decide (p.1=q.1)=decide (p.2=q.2)/\RV W V p=true/\JN W V p q=true/\JN W V q p=true):=by
 unfold Eg;rw[Kp h.mm,Kp h.tt,z1i,z1i,List.cons.injEq];have hl:((Bo (mw W)).map λ w=>mk W w p.1).length=((Bo (mw W)).map λ w=>mk V w p.2).length:=by simp
 rw[ju hl,Xa,jt,RW,RW,RW];rfl
theorem gG (a b:Nat):eqD false (.int (a:Int)) (.int (b:Int))=some (.bl (decide (a=b))):=by rw[R1,QL]
theorem Xb (l:List Pr):lenE (.lst (l.map pN))=some (.int (l.length:Int)):=by
 show lenD (.lst (l.map pN))=_;rw[Qe,z00]
def prs (fs:List Nat):List Pr:=(List.range fs.length).map λ j=>(j,fs.getD j 0)
theorem gH (fs:List Nat) (x:Nat):prs (fs++[x])=prs fs++[(fs.length,x)]:=by
 unfold prs;rw[z0j,List.length_singleton,List.range_succ,z0y];congr 1
 ·refine List.map_congr_left λ j hj=>?_;have:j<fs.length:=z0o.mp hj;rw[z0v,z0v,z0Y this]
 ·simp
def dfs (P:List Nat->Nat->Bool) (n m:Nat):Nat->List Nat->Option (List Nat)
 | 0,_=>none
 | k+1,fs=>if fs.length=n then some fs else (List.range m).findSome? λ x=>if P fs x=true then dfs P n m k (fs++[x]) else none
structure Way (P:List Nat->Nat->Bool) (n m:Nat) (fs gs:List Nat):Prop where
 len:gs.length=n
 pre:gs.take fs.length=fs
 lt:∀ j x,fs.length<=j->gs[j]?=some x->x<m
 ok:∀ j x,fs.length<=j->gs[j]?=some x->P (gs.take j) x=true
theorem N7 {P:List Nat->Nat->Bool}{n m:Nat}:∀ {k:Nat}{fs gs:List Nat},fs.length<=n->dfs P n m k fs=some gs->Way P n m fs gs
 | 0,fs,gs,_,h=>by cases h
 | k+1,fs,gs,hl,h=>by
  unfold dfs at h;split at h
  ·rename_i e;cases h;refine⟨e,by rw[List.take_length],λ j x hj hx=>?_,λ j x hj hx=>?_⟩
   ·rw[z19 hj] at hx;cases hx
   ·rw[z19 hj] at hx;cases hx
  ·rename_i e;obtain⟨x,hx,h2⟩:=List.exists_of_findSome?_eq_some h;split at h2
   ·rename_i px;have w:=N7 (by rw[z0j,List.length_singleton];omega) h2;have hx:=z0o.mp hx;have lg:fs.length<gs.length:=by rw[w.len];omega
    have p0:=w.pre;rw[z0j,List.length_singleton] at p0;have t0:gs.take fs.length=fs:=by
     have:=congrArg (List.take fs.length) p0;rw[List.take_take,Nat.min_eq_left (z0V _)] at this;simpa using this
    have g0:gs[fs.length]?=some x:=by
     have:=congrArg (λ l=>l[fs.length]?) p0;simp at this;exact this
    refine⟨w.len,t0,λ j y hj hy=>?_,λ j y hj hy=>?_⟩
    ·by_cases z:j=fs.length
     ·subst z;rw[g0] at hy;cases hy;exact hx
     ·exact w.lt j y (by rw[z0j,List.length_singleton];omega) hy
    ·by_cases z:j=fs.length
     ·subst z;rw[g0] at hy;cases hy;rw[t0];exact px
     ·exact w.ok j y (by rw[z0j,List.length_singleton];omega) hy
   ·cases h2
theorem WY {P:List Nat->Nat->Bool}{n m:Nat}{gs:List Nat}:∀ {k:Nat}{fs:List Nat},n<k+fs.length->fs.length<=n->Way P n m fs gs->(dfs P n m k fs).isSome=true
 | 0,fs,h,hl,_=>by omega
 | k+1,fs,h,hl,w=>by
  unfold dfs;split
  ·rfl
  ·rename_i e;have lt:fs.length<gs.length:=by rw[w.len];omega
   have g0:gs[fs.length]?=some gs[fs.length]:=z06 lt;have hx:=w.lt fs.length _ (z01 _) g0;have px:=w.ok fs.length _ (z01 _) g0;rw[w.pre] at px;have tk:gs.take (fs.length+1)=fs++[gs[fs.length]]:=by rw[List.take_succ,w.pre,g0];rfl
   have ih:=WY (k:=k) (fs:=fs++[gs[fs.length]]) (by rw[z0j,List.length_singleton];omega) (by rw[z0j,List.length_singleton];omega)
    ⟨w.len,by rw[z0j,List.length_singleton];exact tk,λ j y hj hy=>w.lt j y (by rw[z0j] at hj;omega) hy,λ j y hj hy=>w.ok j y (by rw[z0j] at hj;omega) hy⟩
   rw[List.findSome?_isSome_iff];exact⟨_,z0o.mpr hx,by rw[if_pos px];exact ih⟩
theorem jw {P:List Nat->Nat->Bool}{m k:Nat}(h:n<k):(dfs P n m k []).isSome=true↔∃ gs,Way P n m [] gs:=by
 constructor
 ·intro q;obtain⟨gs,e⟩:=Option.isSome_iff_exists.mp q;exact⟨gs,N7 (z0s _) e⟩
 ·rintro⟨gs,w⟩;exact WY (by simpa using h) (z0s _) w
def P1 (W V:Wl) (rows:List Pr) (fs:List Nat) (x:Nat):Bool:=fwB W V (rows++prs fs) (fs.length,x)
theorem mK (gs:List Nat):isND true (lN gs)=some (.bl true):=rfl
theorem mL:isND true .non=some (.bl false):=rfl
theorem ZV (fs:List Nat):lenE (lN fs)=some (.int (fs.length:Int)):=by
 show lenD (.lst (fs.map iN))=_;rw[Qe,z00]
theorem Xc {α:Type}(l:List α) (e g:α->D) (f:α->Bool) (hs:src ρ=some (l.map e)) (hn:l.length<=1000) (h1:∀ x∈l,ga (ρ++[.fz (e x)])=some (f x)) (h2:∀ x∈l,fe (ρ++[.fz (e x)])=some (g x)):CK src ga fe ρ=some (.lst ((l.filter f).map g)):=by
 have c:∀ l:List α,(∀ x∈l,ga (ρ++[.fz (e x)])=some (f x))->(∀ x∈l,fe (ρ++[.fz (e x)])=some (g x))->Io ρ ga fe (l.map e)=some ((l.filter f).map g):=by
  intro l
  induction l with
  | nil=>intro _ _;rfl
  | cons x r ih=>
   intro a b;rw[z03,JQ,a x (by simp),b x (by simp),ih (λ d hd=>a d (by simp[hd])) (λ d hd=>b d (by simp[hd])),List.filter_cons];cases f x<;>rfl
 exact O8 hs (by rw[z00];omega) (c l h1 h2)
def Ext (μ μ':Mu):Prop:=∀ b c,μ.lookup b=some c->μ'.lookup b=some c
theorem Ext.refl (μ:Mu):Ext μ μ:=λ _ _ h=>h
theorem Ext.trans {a b c:Mu}(h:Ext a b) (k:Ext b c):Ext a c:=λ x y z=>k x y (h x y z)
theorem jz {μ:Mu}{c:D}(h:μ.lookup a=some c):a∈ksM μ:=Fp (lookup_mem h)
theorem Ext.new {μ:Mu}(c:D) (h:p∉ksM μ):Ext μ ((p,c)::μ):=λ b d e=>by
 have:b≠p:=λ z=>h (z▸jz e);rw[z0d,show (b==p)=false from by simpa using this];exact e
theorem Wa (μ:Mu) (p:Addr) (c:D):((p,c)::μ).lookup p=some c:=by rw[z0d,show (p==p)=true from by simp]
theorem U9 {μ:Mu}{fs:List Nat}(h:μ.lookup a=some (lN fs)):seeM μ (.adr a)=lN fs:=by
 have h:μ.lookup a=some (.lst (fs.map iN)):=h;show (match μ.lookup a with | some (.lst ds)=>D.lst ds | _=>.adr a)=_;rw[h];rfl
theorem gJ {α:Type}{μ:Mu}{fs:List Nat}(h:μ.lookup a=some (lN fs)) {ρ:Rho}{j:Nat}(hj:ρ[j]?=some (.fz (.adr a))) (f:Rho->Option α):vwM [j] f ρ μ=f (ρ.set j (.ow (lN fs))):=by
 unfold vwM HD;rw[hj];show (if a∈([]:List Addr) then none else (μ.lookup a).bind λ c=>HD μ [] [a] (ρ.set j (.ow c))).bind f=_;rw[if_neg (by simp),h];rfl
theorem ZW {t:FT}{g gs:FM}{μ:Mu}{K:KM}(e:ρ.map (Cd μ)=ρ') (h:t ρ'=some true) (k:g ρ μ K):ifL t g gs ρ μ K:=by
 unfold ifL;rw[e,h];exact k
theorem ZX {t:FT}{g gs:FM}{μ:Mu}{K:KM}(e:ρ.map (Cd μ)=ρ') (h:t ρ'=some false) (k:gs ρ μ K):ifL t g gs ρ μ K:=by
 unfold ifL;rw[e,h];exact k
theorem p6 (fs:List Nat) (x:Nat) (h:fs.length<=100):catD (lN fs) (.lst [iN x])=some (lN (fs++[x])):=by
 unfold lN;show (if (fs.map iN).length+1<=sizeLine then some (D.lst (fs.map iN++[iN x])) else none)=_;rw[if_pos (by rw[z00];unfold sizeLine;omega),z0y];rfl
theorem Mt (W V:Wl) (h:Sp W V) (hn:W.n<=5) (hv:V.n<=5) (rows:List Pr) (hr:rows.length<=100):∀ (k:Nat) (fs:List Nat) (a:Addr) (μ:Mu) (K:D->Mu->Prop),W.n<k+fs.length->fs.length<=W.n->μ.lookup a=some (lN fs) ->
    (∀ μ',Ext μ μ'->match dfs (P1 W V rows) W.n V.n k fs with | some gs=>∀ q,μ'.lookup q=some (lN gs)->K (.adr q) μ' | none=>K .non μ') ->
    Dh k [wob W,wob V,.lst ((rows++prs fs).map pN),.adr a] μ K
  | 0,fs,a,μ,K,hk,hl,ha,hK=>by omega
  | k+1,fs,a,μ,K,hk,hl,ha,hK=>by
    have s1:=Nz W;have s2:=Nz V;have le:=ZV fs;have eq:=gG fs.length W.n;refine⟨rfl,?_⟩;show seqM _ _ [.fz (wob W),.fz (wob V),.fz (.lst ((rows++prs fs).map pN)),.fz (.adr a),.un,.un,.un] μ (finM K);have lt:∀ {μ':Mu}(z4 z5 z6:PV.Slot),μ'.lookup a=some (lN fs)->([.fz (wob W),.fz (wob V),.fz (.lst ((rows++prs fs).map pN)),.fz (.adr a),z4,z5,z6]:Rho).map (Cd μ')=[.fz (wob W),.fz (wob V),.fz (.lst ((rows++prs fs).map pN)),.fz (lN fs),Cd μ' z4,Cd μ' z5,Cd μ' z6]:=λ {μ'} z4 z5 z6 e=>by
      have:=U9 e;show [PV.Slot.fz (wob W),.fz (wob V),.fz (.lst ((rows++prs fs).map pN)),.fz (seeM μ' (.adr a)),Cd μ' z4,Cd μ' z5,Cd μ' z6]=_;rw[this]
    by_cases z:fs.length=W.n
    · rw[z0g z] at eq
      refine ZW (lt .un .un .un ha) (by simp only[cK,le,s1,eq]) ?_;have hK:=hK μ (Ext.refl μ);unfold dfs at hK;rw[if_pos z] at hK;exact⟨_,rfl,hK a ha⟩
    · rw[z0a z] at eq
      refine ZX (lt .un .un .un ha) (by simp only[cK,le,s1,eq]) ?_;have hp:(prs fs).length=fs.length:=by simp[prs]
      have step:∀ (xs:List Nat) (z4 z5 z6:PV.Slot) (μ:Mu) (K:KM),μ.lookup a=some (lN fs) ->
          (∀ μ',Ext μ μ'->match xs.findSome? λ x=>if P1 W V rows fs x=true then dfs (P1 W V rows) W.n V.n k (fs++[x]) else none with
            | some gs=>∀ q y4 y5 y6,μ'.lookup q=some (lN gs)->K (.rt (.adr q) [.fz (wob W),.fz (wob V),.fz (.lst ((rows++prs fs).map pN)),.fz (.adr a),y4,y5,y6]) μ'
            | none=>∀ y4 y5 y6,K (.nx [.fz (wob W),.fz (wob V),.fz (.lst ((rows++prs fs).map pN)),.fz (.adr a),y4,y5,y6]) μ') ->
          Jq (Ay 4) (Ii (Dh k)) (xs.map iN) [.fz (wob W),.fz (wob V),.fz (.lst ((rows++prs fs).map pN)),.fz (.adr a),z4,z5,z6] μ K:=by
        intro xs
        induction xs with
        | nil=>intro z4 z5 z6 μ K ha hK;exact hK μ (Ext.refl μ) z4 z5 z6
        | cons x xs ih=>
          intro z4 z5 z6 μ K ha hK;have fw:=rM W V h (rows++prs fs) (by rw[z0j,hp];omega) (fs.length,x);have fw:Ge [wob W,wob V,.lst ((rows++prs fs).map pN),.tup [.int (fs.length:Int),.int (x:Int)]]=some (.bl (P1 W V rows fs x)):=fw;refine⟨_,rfl,?_⟩;refine⟨.tup [.int (fs.length:Int),.int (x:Int)],?_,?_⟩
          · refine (gJ ha rfl _).trans ?_
            simp only[cK,z0O,z0P,le]
          show ifL _ _ _ [.fz (wob W),.fz (wob V),.fz (.lst ((rows++prs fs).map pN)),.fz (.adr a),.fz (iN x),.fz (.tup [.int (fs.length:Int),.int (x:Int)]),z6] μ _;cases hP:P1 W V rows fs x with
          | false=>
            rw[hP] at fw;refine ZX (lt _ _ _ ha) ?_ ?_
            · show trF _ [.fz (wob W),.fz (wob V),.fz (.lst ((rows++prs fs).map pN)),.fz (lN fs),.fz (iN x),.fz (.tup [.int (fs.length:Int),.int (x:Int)]),_]=_
              simp only[cK,fw]
            refine ih _ _ _ μ K ha λ μ' e=>?_;have:=hK μ' e;rw[List.findSome?_cons,hP] at this;exact this
          | true=>
            rw[hP] at fw;have a1:addD (.lst ((rows++prs fs).map pN)) (.lst [.tup [.int (fs.length:Int),.int (x:Int)]])=some (.lst ((rows++prs (fs++[x])).map pN)):=by
              rw[ni (by rw[z00,z0j,hp];simp;omega),gH,<-z14];show some (D.lst ((rows++prs fs).map pN++[(fs.length,x)].map pN))=_;rw[<-z0y]
            refine ZW (lt _ _ _ ha) ?_ ?_
            · show trF _ [.fz (wob W),.fz (wob V),.fz (.lst ((rows++prs fs).map pN)),.fz (lN fs),.fz (iN x),.fz (.tup [.int (fs.length:Int),.int (x:Int)]),_]=_
              simp only[cK,fw]
            refine⟨[wob W,wob V,.lst ((rows++prs (fs++[x])).map pN)],lN (fs++[x]),by simp only[cK,a1],?_,λ p hp'=>?_⟩
            · refine (gJ ha rfl _).trans ?_
              have:=p6 fs x (by omega);simp only[cK,z0O,z0P,this]
            refine Mt W V h hn hv rows hr k (fs++[x]) p _ _ (by rw[z0j,List.length_singleton];omega) (by rw[z0j,List.length_singleton];omega) (Wa μ p _) λ μ' e=>?_;have e':Ext μ μ':=(Ext.new _ hp').trans e;cases hd:dfs (P1 W V rows) W.n V.n k (fs++[x]) with
            | none=>
              show ifL (blF (uF (isND true) (vF 6))) (puM (retF (vF 6))) nxM [.fz (wob W),.fz (wob V),.fz (.lst ((rows++prs fs).map pN)),.fz (.adr a),.fz (iN x),.fz (.tup [.int (fs.length:Int),.int (x:Int)]),.fz .non] μ' (bdM (Jq (Ay 4) (Ii (Dh k)) (xs.map iN)) K);refine ZX (lt _ _ _ (e' _ _ ha)) ?_ ?_
              · show blF _ [.fz (wob W),.fz (wob V),.fz (.lst ((rows++prs fs).map pN)),.fz (lN fs),.fz (iN x),.fz (.tup [.int (fs.length:Int),.int (x:Int)]),.fz .non]=_
                simp only[cK,mL]
              refine ih _ _ _ μ' K (e' _ _ ha) λ μ2 e2=>?_;have:=hK μ2 (e'.trans e2);rw[List.findSome?_cons,hP,if_pos rfl,hd] at this;exact this
            | some gs=>
              intro q hq;show ifL _ _ _ [.fz (wob W),.fz (wob V),.fz (.lst ((rows++prs fs).map pN)),.fz (.adr a),.fz (iN x),.fz (.tup [.int (fs.length:Int),.int (x:Int)]),.fz (.adr q)] μ' _;refine ZW (lt _ _ _ (e' _ _ ha)) ?_ ?_
              · show blF _ [.fz (wob W),.fz (wob V),.fz (.lst ((rows++prs fs).map pN)),.fz (lN fs),.fz (iN x),.fz (.tup [.int (fs.length:Int),.int (x:Int)]),.fz (seeM μ' (.adr q))]=_
                rw[U9 hq];simp only[cK,mK]
              refine⟨_,rfl,?_⟩;have:=hK μ' e';rw[List.findSome?_cons,hP,if_pos rfl,hd] at this;exact this q _ _ _ hq
      have e6:=G8 (V.n:Int) (by omega);rw[z0K] at e6;have er:rngD V.n=(List.range V.n).map iN:=rfl;rw[er] at e6;refine⟨(List.range V.n).map iN,by simp only[cK,s2,e6],?_⟩;refine step (List.range V.n) .un .un .un μ _ ha λ μ' e=>?_;have hK:=hK μ' e;unfold dfs at hK;rw[if_neg z] at hK;cases hd:(List.range V.n).findSome? λ x=>if P1 W V rows fs x=true then dfs (P1 W V rows) W.n V.n k (fs++[x]) else none with
      | none=>
        rw[hd] at hK;intro y4 y5 y6;exact⟨_,rfl,hK⟩
      | some gs=>
        rw[hd] at hK;intro q y4 y5 y6 hq;exact hK q hq
theorem mQ (a:Nat):gtD (.int (a:Int)) (.int 0)=some (.bl (decide (0<a))):=by
 rw[Xq];congr 2
 by_cases z:0<a
 ·rw[z0g z,z0g (by omega)]
 ·rw[z0a z,z0a (by omega)]
theorem gK (l:List Pr) (q:Pr) (h:l.length<=1000):appL (.lst (l.map pN)) (pN q)=some (.lst ((l++[q]).map pN)):=by
 rw[Q_ _ _ (by simpa using h),z0y];rfl
theorem Jl (W V:Wl) (os:List Nat) (ho:os.Perm (List.range W.n)) (x0:PV.Slot):∀ (cs:List Int) (l:List Pr) (z5 z6 z7:PV.Slot),(∀ r∈l,r.1<W.n/\r.2<V.n)->l.length+cs.length<=900 ->
  ∃ (l':List Pr) (y5 y6 y7:PV.Slot),(∀ r∈l',r.1<W.n/\r.2<V.n)/\l'.length<=l.length+cs.length/\forF (tgB (Ay 5) Az) (cs.map .int) [x0,.fz (wd W),.fz (wd V),.fz (lN os),.ow (.lst (l.map pN)),z5,z6,z7]=some (.nx [x0,.fz (wd W),.fz (wd V),.fz (lN os),.ow (.lst (l'.map pN)),y5,y6,y7])
 | [],l,z5,z6,z7,h,_=>⟨l,z5,z6,z7,h,by simp,rfl⟩
 | c::cs,l,z5,z6,z7,h,hl=>by
  have i0:=ixw0 W;have j0:=ixw0 V;have g1:=mQ W.n;have g2:=mQ V.n;have hol:os.length=W.n:=by have:=ho.length_eq;simpa using this
  w_up
  by_cases z1:0<W.n
  ·by_cases z2:0<V.n
   ·rw[z0g z1] at g1;rw[z0g z2] at g2;obtain⟨m1,b1⟩:=GQ (c/2) W.n z1;obtain⟨m2,b2⟩:=GQ (c/10) V.n z2;have en:=gG W.n V.n;obtain⟨t,ht,y7,st⟩:∃ t,t<V.n/\∃ y7,Az [x0,.fz (wd W),.fz (wd V),.fz (lN os),.ow (.lst (l.map pN)),.fz (.int c),z6,z7]=some (.nx [x0,.fz (wd W),.fz (wd V),.fz (lN os),.ow (.lst ((l++[((c/2%W.n).toNat,t)]).map pN)),.fz (.int c),.fz (iN (c/2%W.n).toNat),y7]):=by
     by_cases z3:c%2=1
     ·by_cases z4:W.n=V.n
      ·have ix:=U4 os (c/2%W.n).toNat (by rw[hol];exact b1);refine⟨os.getD (c/2%W.n).toNat 0,by rw[<-z4];exact QH ho b1,.fz (iN (os.getD (c/2%W.n).toNat 0)),?_⟩;have ap:=gK l ((c/2%W.n).toNat,os.getD (c/2%W.n).toNat 0) (by simp at hl;omega);rw[z0g z4] at en;simp only[ciK,Az,i0,j0,g1,g2,m1,m2,z3,en,ix,ap]
      ·refine⟨(c/10%V.n).toNat,b2,.fz (iN (c/10%V.n).toNat),?_⟩;have ap:=gK l ((c/2%W.n).toNat,(c/10%V.n).toNat) (by simp at hl;omega);rw[z0a z4] at en;simp only[ciK,Az,i0,j0,g1,g2,m1,m2,z3,en,ap]
     ·refine⟨(c/10%V.n).toNat,b2,.fz (iN (c/10%V.n).toNat),?_⟩;have ap:=gK l ((c/2%W.n).toNat,(c/10%V.n).toNat) (by simp at hl;omega);simp only[ciK,Az,i0,j0,g1,g2,m1,m2,z0a z3,ap]
    obtain⟨l',y5,y6,y7',h1,h2,e⟩:=Jl W V os ho x0 cs (l++[((c/2%W.n).toNat,t)]) (.fz (.int c)) (.fz (iN (c/2%W.n).toNat)) y7 (λ r hr=>by
     rcases z0L.mp hr with q | q
     ·exact h r q
     ·rw[z1h.mp q];exact⟨b1,ht⟩) (by simp at hl ⊢;omega)
    exact⟨l',y5,y6,y7',h1,by simp at h2 ⊢;omega,by rw[st,CQ,e]⟩
   ·obtain⟨l',y5,y6,y7',h1,h2,e⟩:=Jl W V os ho x0 cs l (.fz (.int c)) z6 z7 h (by simp at hl ⊢;omega);refine⟨l',y5,y6,y7',h1,by simp at h2 ⊢;omega,?_⟩;rw[z0g z1] at g1;rw[z0a z2] at g2;have st:Az [x0,.fz (wd W),.fz (wd V),.fz (lN os),.ow (.lst (l.map pN)),.fz (.int c),z6,z7]=some (.nx [x0,.fz (wd W),.fz (wd V),.fz (lN os),.ow (.lst (l.map pN)),.fz (.int c),z6,z7]):=by
     simp only[cK,Az,i0,j0,g1,g2]
    rw[st,CQ,e]
  ·obtain⟨l',y5,y6,y7',h1,h2,e⟩:=Jl W V os ho x0 cs l (.fz (.int c)) z6 z7 h (by simp at hl ⊢;omega);refine⟨l',y5,y6,y7',h1,by simp at h2 ⊢;omega,?_⟩;rw[z0a z1] at g1;have st:Az [x0,.fz (wd W),.fz (wd V),.fz (lN os),.ow (.lst (l.map pN)),.fz (.int c),z6,z7]=some (.nx [x0,.fz (wd W),.fz (wd V),.fz (lN os),.ow (.lst (l.map pN)),.fz (.int c),z6,z7]):=by
    simp only[cK,Az,i0,g1]
   rw[st,CQ,e]
theorem gM (W V:Wl) (os:List Nat) (ho:os.Perm (List.range W.n)) (cs:List Int) (hc:cs.length<=100):∃ rows:List Pr,(∀ r∈rows,r.1<W.n/\r.2<V.n)/\rows.length<=cs.length/\Gv [.lst (cs.map .int),wd W,wd V,lN os]=some (.lst (rows.map pN)):=by
 obtain⟨l',y5,y6,y7,h1,h2,e⟩:=Jl W V os ho (.fz (.lst (cs.map .int))) cs [] .un .un .un (by simp) (by simp;omega);refine⟨l',h1,by simpa using h2,?_⟩;have e0:forF (tgB (Ay 5) Az) (cs.map .int) [.fz (.lst (cs.map .int)),.fz (wd W),.fz (wd V),.fz (lN os),.ow (.lst []),.un,.un,.un]=_:=e;simp only[cK,Gv,Jg,Er,Es,Qs,Qt,LQ,e0]
theorem ZZ (zs:List Str):eqD true (.lst (zs.map .str)) (.lst (zs.map .str))=some (.bl false):=by
 have h:∀ zs:List Str,allO (eqK 180) (zs.map .str) (zs.map .str)=some true:=λ zs=>by
  induction zs with
  | nil=>rfl
  | cons z r ih=>
   show (match eqK 180 (.str z) (.str z),allO (eqK 180) (r.map .str) (r.map .str) with | some a,some b=>some (a&&b) | _,_=>none)=_;rw[ih];have:eqK 180 (.str z) (.str z)=some true:=by show some (eqV (.str z) (.str z))=_;simp[eqV]
   rw[this];rfl
 unfold eqD;have:eqvD (.lst (zs.map .str)) (.lst (zs.map .str))=some true:=by
  show (if (zs.map D.str).length=(zs.map D.str).length then allO (eqK 180) (zs.map .str) (zs.map .str) else some false)=_;rw[if_pos rfl,h]
 rw[this];rfl
theorem Sw (W:Wl) (h:WOk W):B_ [wob W]=some (.lst ((Bo (mw W)).map .str))/\Ce [wob W]=some (.lst ((Bo (tw W)).map .str)):=by
 have nd:=z0u.mp h.nd;have m3:=h.m3;have t3:=h.t3;have s1:=U7 (WR W.ms) nd.1 (by simp;omega);have s2:=U7 (WT W.ts) nd.2.1 (by simp;omega);have f1:=RJ W;have f2:=XR W;constructor
 ·simp only[cK,B_,Ed,f1,s1]
 ·simp only[cK,Ce,E_,f2,s2]
theorem aU (W V:Wl) (h:WOk W) (hv:WOk V) (hs:Spk W V):EY [wob W,wob V]=some .non:=by
 obtain⟨a1,a2⟩:=Sw W h;obtain⟨b1,b2⟩:=Sw V hv;rw[Kp hs.mm] at b1;rw[Kp hs.tt] at b2;have o1:=mH W;have o2:=mH V;have o3:=mJ W;have o4:=mJ V;have e1:=ZZ (Bo (mw W));have e2:=ZZ (Bo (tw W));simp only[cK,EY,Gj,jr,ZQ o1,ZQ o2,ZQ o3,ZQ o4,a1,a2,b1,b2,e1,e2]
theorem Mv (W V:Wl) (x2:PV.Slot):∀ (rows:List Pr) (z3 z4:PV.Slot),(∀ r∈rows,r.1<W.n/\r.2<V.n)->∃ y3 y4,forF (tgB (tupG 2 (BZ 3 (BZ 4 nilG))) Bh) (rows.map pN) [.fz (wob W),.fz (wob V),x2,z3,z4]=some (.nx [.fz (wob W),.fz (wob V),x2,y3,y4])
 | [],z3,z4,_=>⟨z3,z4,rfl⟩
 | r::rows,z3,z4,h=>by
  have s1:=Nz W;have s2:=Nz V;have t1:=KY W.n r.1 (h r (by simp)).1;have t2:=KY V.n r.2 (h r (by simp)).2;obtain⟨y3,y4,e⟩:=Mv W V x2 rows (.fz (.int (r.1:Int))) (.fz (.int (r.2:Int))) λ x hx=>h x (by simp[hx]);refine⟨y3,y4,?_⟩;have st:Bh [.fz (wob W),.fz (wob V),x2,.fz (.int (r.1:Int)),.fz (.int (r.2:Int))]=some (.nx [.fz (wob W),.fz (wob V),x2,.fz (.int (r.1:Int)),.fz (.int (r.2:Int))]):=by
   simp only[cK,Bh,s1,s2,t1,t2]
  rw[z03,Dk,e_tg,Ja,Ip];simp only[z0O,z0P];rw[st,CQ,e]
theorem Xd (W V:Wl) (h:WOk W) (hv:WOk V) (hs:Spk W V) (rows:List Pr) (hr:∀ r∈rows,r.1<W.n/\r.2<V.n):Bq [wob W,wob V,.lst (rows.map pN)]=some .non:=by
 have u:=aU W V h hv hs;obtain⟨y3,y4,e⟩:=Mv W V (.fz (.lst (rows.map pN))) rows .un .un hr;simp only[cK,Bq,Cz,u,Er,Es,e]
theorem j5 {α β:Type}(f:α->β) (l:List α) (lo hi:Option Int):cutD (l.map f) lo hi=(cutD l lo hi).map f:=by
 unfold cutD;rw[z00,List.map_take,List.map_drop]
theorem j6 {α:Type}(l:List α) (lo hi:Option Int):(cutD l lo hi).length<=l.length:=by
 unfold cutD;rw[z0W,z18];omega
theorem U_ (hj:j<=gs.length) {p:Pr}:p∈prs (gs.take j)↔∃ i x,i<j/\gs[i]?=some x/\p=(i,x):=by
 unfold prs;rw[z0W,Nat.min_eq_left hj];constructor
 ·intro h;obtain⟨i,hi,rfl⟩:=z05.mp h;have hi:=z0o.mp hi;refine⟨i,gs[i]'(by omega),hi,z06 (by omega),?_⟩;rw[z0v,List.getElem?_take_of_lt hi,z06 (by omega)];rfl
 ·rintro⟨i,x,hi,hx,rfl⟩;refine z05.mpr ⟨i,z0o.mpr hi,?_⟩;rw[z0v,List.getElem?_take_of_lt hi,hx];rfl
theorem RX (W V:Wl) (rows:List Pr) (gs:List Nat) {j x:Nat}(hx:gs[j]?=some x):P1 W V rows (gs.take j) x=true↔(RV W V (j,x)=true/\JN W V (j,x) (j,x)=true/\(∀ r∈rows,goB W V r (j,x)=true)/\∀ i y,i<j->gs[i]?=some y->goB W V (i,y) (j,x)=true):=by
 have hj:j<gs.length:=(z0m.mp hx).1;unfold P1 fwB;rw[z0W,Nat.min_eq_left (by omega),z0C,z0C,z0x];constructor
 ·rintro⟨⟨a,b⟩,c⟩;exact⟨a,b,λ r hr=>c r (z0M _ hr),λ i y hi hy=>c (i,y) (z0A _ ((U_ (by omega)).mpr ⟨i,y,hi,hy,rfl⟩))⟩
 ·rintro⟨a,b,c,d⟩;refine⟨⟨a,b⟩,λ p hp=>?_⟩
  rcases z0L.mp hp with q | q
  ·exact c p q
  ·obtain⟨i,y,hi,hy,rfl⟩:=(U_ (by omega)).mp q;exact d i y hi hy
def fitB (W V:Wl) (rows:List Pr):Bool:=rows.all λ p=>rows.all λ q=>decide (Eg W p.1 q.1=Eg V p.2 q.2)
theorem Za {W V:Wl}{rows:List Pr}:fitB W V rows=true↔∀ p∈rows,∀ q∈rows,Eg W p.1 q.1=Eg V p.2 q.2:=by
 unfold fitB;simp only[z0x,z1q]
theorem RZ (W V:Wl) (p q:Pr):goB W V p q=true↔(decide (p.1=q.1)=decide (p.2=q.2)/\JN W V p q=true/\JN W V q p=true):=by
 unfold goB;rw[z0C,z0C,z0J]
theorem dsym (a b c d:Nat) (h:decide (a=b)=decide (c=d)):decide (b=a)=decide (d=c):=by
 rw[show decide (b=a)=decide (a=b) by simp[eq_comm],show decide (d=c)=decide (c=d) by simp[eq_comm],h]
theorem VB (P:Nat->Bool) (n:Nat):((List.range n).all P)=true↔∀ i,i<n->P i=true:=by
 rw[z0x];exact⟨λ h i hi=>h i (z0o.mpr hi),λ h i hi=>h i (z0o.mp hi)⟩
def lfB (W V:Wl) (rows:List Pr) (k j:Nat):Bool:=decide (Eg W (rows.getD k (0,0)).1 (rows.getD j (0,0)).1=Eg V (rows.getD k (0,0)).2 (rows.getD j (0,0)).2)
theorem p7 (W V:Wl) (hs:Spk W V) (rows:List Pr):((List.range rows.length).all λ k=>(List.range (k+1)).all λ j=>lfB W V rows k j)=fitB W V rows:=by
 rw[z0N,VB,Za];constructor
 ·intro h;have key:∀ i j (hi:i<rows.length) (hj:j<rows.length),j<=i->Eg W rows[i].1 rows[j].1=Eg V rows[i].2 rows[j].2:=λ i j hi hj z=>by
   have:=(VB _ _).mp (h i hi) j (by omega);unfold lfB at this;rw[z0v,z06 hi,z0v,z06 hj] at this;exact z12 this
  intro p hp q hq;obtain⟨i,hi,rfl⟩:=List.mem_iff_getElem.mp hp;obtain⟨j,hj,rfl⟩:=List.mem_iff_getElem.mp hq
  by_cases z:j<=i
  ·exact key i j hi hj z
  ·have f1:=(Kq hs rows[j] rows[i]).mp (key j i hj hi (by omega));have f2:=(Kq hs rows[i] rows[i]).mp (key i i hi hi (z01 _));exact (Kq hs rows[i] rows[j]).mpr ⟨dsym _ _ _ _ f1.1,f2.2.1,f1.2.2.2,f1.2.2.1⟩
 ·intro h i hi;refine (VB _ _).mpr λ j hj=>z0g ?_;have hj':j<rows.length:=by omega
  rw[z0v,z06 hi,z0v,z06 hj'];exact h _ (z15 hi) _ (z15 hj')
theorem ix_p {rows:List Pr}{k:Nat}(h:k<rows.length):ixE (.lst (rows.map pN)) (.int (k:Int))=some (pN (rows.getD k (0,0))):=by
 have e:(rows.map pN)[k]?=some (pN rows[k]):=by rw[z04,z06 h];rfl
 rw[z0v,z06 h];show atI (rows.map pN) (k:Int)=_;rw[Fl,e];rfl
theorem gO (W V:Wl) (h:WOk W) (hv:WOk V) (rows:List Pr) (k:Nat) (hk:k<rows.length) (hl:rows.length<=900) (z4:PV.Slot):∃ y4,GD [.fz (wd W),.fz (wd V),.fz (.lst (rows.map pN)),.fz (.int (k:Int)),z4]=some (if ((List.range (k+1)).all λ j=>lfB W V rows k j)=true then .nx [.fz (wd W),.fz (wd V),.fz (.lst (rows.map pN)),.fz (.int (k:Int)),y4] else .rt (.bl false) [.fz (wd W),.fz (wd V),.fz (.lst (rows.map pN)),.fz (.int (k:Int)),y4]):=by
 obtain⟨y4,e⟩:=KZ (tg:=Ay 4) (b:=Ij) (λ z=>[.fz (wd W),.fz (wd V),.fz (.lst (rows.map pN)),.fz (.int (k:Int)),z]) (λ j:Nat=>.int (j:Int)) (λ j=>lfB W V rows k j) (.bl false) (λ d z=>rfl) (List.range (k+1)) z4 λ j hj=>by
  have hj:=z0o.mp hj;have x0:=ix_p hk;have x1:=ix_p (rows:=rows) (k:=j) (by omega);have i0:=ixp0 (rows.getD k (0,0));have i1:=ixp1 (rows.getD k (0,0));have j0:=ixp0 (rows.getD j (0,0));have j1:=ixp1 (rows.getD j (0,0));have f1:=WX W h (rows.getD k (0,0)).1 (rows.getD j (0,0)).1;have f2:=WX V hv (rows.getD k (0,0)).2 (rows.getD j (0,0)).2;simp only[cK,Ij,x0,x1,i0,i1,j0,j1,f1,f2,pq];unfold lfB;cases decide (Eg W (rows.getD k (0,0)).1 (rows.getD j (0,0)).1=Eg V (rows.getD k (0,0)).2 (rows.getD j (0,0)).2)<;>rfl
 refine⟨y4,?_⟩;have e6:=G8 ((k:Int)+1) (by omega);have r0:rngD ((k:Int)+1).toNat=(List.range (k+1)).map λ j:Nat=>D.int (j:Int):=by
  rw[show ((k:Int)+1).toNat=k+1 by omega];rfl
 rw[r0] at e6;simp only[ciK,GD,e6,e]
theorem Xe (W V:Wl) (h:WOk W) (hv:WOk V) (hs:Spk W V) (rows:List Pr) (hl:rows.length<=900):Hr [wd W,wd V,.lst (rows.map pN)]=some (.bl (fitB W V rows)):=by
 have lp:∀ (l:List Nat) (z3 z4:PV.Slot),(∀ k∈l,k<rows.length)->∃ y3 y4,forF (tgB (Ay 3) GD) (l.map λ j:Nat=>D.int (j:Int)) [.fz (wd W),.fz (wd V),.fz (.lst (rows.map pN)),z3,z4]=some (if (l.all λ k=>(List.range (k+1)).all λ j=>lfB W V rows k j)=true then .nx [.fz (wd W),.fz (wd V),.fz (.lst (rows.map pN)),y3,y4] else .rt (.bl false) [.fz (wd W),.fz (wd V),.fz (.lst (rows.map pN)),y3,y4]):=by
  intro l
  induction l with
  | nil=>intro z3 z4 _;exact⟨z3,z4,rfl⟩
  | cons k l ih=>
   intro z3 z4 hk;obtain⟨y4,st⟩:=gO W V h hv rows k (hk k (by simp)) hl z4
   w_up
   rw[st,z1d];cases hb:((List.range (k+1)).all λ j=>lfB W V rows k j) with
   | true=>
    obtain⟨y3,y4',e⟩:=ih (.fz (.int (k:Int))) y4 λ x hx=>hk x (by simp[hx]);refine⟨y3,y4',?_⟩;rw[if_pos rfl,CQ,e,Bool.true_and]
   | false=>
    refine⟨.fz (.int (k:Int)),y4,?_⟩;rfl
 obtain⟨y3,y4,e⟩:=lp (List.range rows.length) .un .un λ k hk=>z0o.mp hk;rw[p7 W V hs rows] at e;have ln:=Xb rows;have e6:=G8 (rows.length:Int) (by omega);have r0:rngD ((rows.length:Int)).toNat=(List.range rows.length).map λ j:Nat=>D.int (j:Int):=by
  rw[z0K];rfl
 rw[r0] at e6;simp only[cK,Hr,KD,ln,e6,e];cases fitB W V rows<;>rfl
theorem rP (q:Pr):eqK 180 (pN q) (pN q)=some true:=by
 show allO (eqK 179) [.int (q.1:Int),.int (q.2:Int)] [.int (q.1:Int),.int (q.2:Int)]=_;have e:∀ a:Int,eqK 179 (.int a) (.int a)=some true:=λ a=>by
  show some (decide (a=a))=_;simp
 unfold allO;rw[e];unfold allO;rw[e];rfl
theorem p8 (rows:List Pr):eqD true (.lst (rows.map pN)) (.lst (rows.map pN))=some (.bl false):=by
 have a:∀ rows:List Pr,allO (eqK 180) (rows.map pN) (rows.map pN)=some true:=by
  intro rows
  induction rows with
  | nil=>rfl
  | cons q r ih=>
   rw[z03];unfold allO;rw[rP,ih];rfl
 unfold eqD;have:eqvD (.lst (rows.map pN)) (.lst (rows.map pN))=some true:=by
  show (if (rows.map pN).length=(rows.map pN).length then allO (eqK 180) (rows.map pN) (rows.map pN) else some false)=_;rw[if_pos rfl,a]
 rw[this];rfl
theorem Zb (ns:List Int) (lo hi:Option Int):slD (.lst (ns.map .int)) lo hi=some (.lst ((cutD ns lo hi).map .int)):=by
 show some (D.lst (cutD (ns.map D.int) lo hi))=_;rw[j5]
theorem Zc (l:List D):J6 (.lst l)=some (.lst l):=rfl
theorem gP (h:os.Perm (List.range n)) (hi:i<n):os[i]?=some (os.getD i 0)/\os.getD i 0<n:=by
 have hl:os.length=n:=by rw[h.length_eq,List.length_range]
 have e:os[i]?=some os[i]:=z06 (by omega);rw[z0v,e];exact⟨rfl,z0o.mp (h.mem_iff.mp (z15 _))⟩
theorem VD (h:os.Perm (List.range n)) (hi:i<n) (hj:j<n):os.getD i 0=os.getD j 0↔i=j:=by
 have hl:os.length=n:=by rw[h.length_eq,List.length_range]
 have nd:os.Nodup:=h.nodup_iff.mpr List.nodup_range;constructor
 ·intro e;rw[z0v,z0v,z06 (by omega),z06 (by omega)] at e;have pw:=List.pairwise_iff_getElem.mp (List.nodup_iff_pairwise_ne.mp nd)
  rcases Nat.lt_trichotomy i j with z | z | z
  ·exact absurd e (pw i j _ _ z)
  ·exact z
  ·exact absurd e.symm (pw j i _ _ z)
 ·rintro rfl;rfl
theorem Zd {α:Type}:∀ {l:List (Str×α)}{p q:Str×α},(l.map (·.1)).Nodup->p∈l->q∈l->p.1=q.1->p=q
 | [],p,q,_,hp,_,_=>by cases hp
 | r::l,p,q,nd,hp,hq,e=>by
  obtain⟨n1,n2⟩:=z0G.mp nd
  rcases z08.mp hp with z | hp2<;>rcases z08.mp hq with y | hq2
  ·rw[z,y]
  ·exact absurd (show (λ x:Str×α=>x.1) r∈l.map (·.1) from z05.mpr ⟨q,hq2,by rw[<-z];exact e.symm⟩) n1
  ·exact absurd (show (λ x:Str×α=>x.1) r∈l.map (·.1) from z05.mpr ⟨p,hp2,by rw[<-y];exact e⟩) n1
  ·exact Zd n2 hp2 hq2 e
theorem subN:∀ {l m:List Nat},l.Nodup->(∀ x∈l,x∈m)->l.length<=m.length
 | [],m,_,_=>z0s _
 | x::l,m,nd,h=>by
  obtain⟨n1,n2⟩:=z0G.mp nd;have hx:=h x z0h;have:=subN (m:=m.erase x) n2 λ y hy=>(List.mem_erase_of_ne (λ z:y=x=>n1 (by rw[<-z];exact hy))).mpr (h y (z0b _ hy));rw[List.length_erase_of_mem hx] at this;have:=List.length_pos_of_mem hx;rw[z0B];omega
theorem Wb {α:Type}{l:List (Str×α)}(nd:(l.map (·.1)).Nodup) (w:Str):l.reverse.find? (λ p=>p.1=w)=l.find? (λ p=>p.1=w):=by
 cases e:l.find? (λ p=>p.1=w) with
 | none=>
  rw[List.find?_eq_none] at e ⊢;exact λ x hx=>e x (List.mem_reverse.mp hx)
 | some p=>
  cases e2:l.reverse.find? (λ p=>p.1=w) with
  | none=>
   rw[List.find?_eq_none] at e2;exact absurd (by simpa using List.find?_some e) (e2 p (List.mem_reverse.mpr (List.mem_of_find?_eq_some e)))
  | some q=>
   have h1:p.1=w:=by simpa using List.find?_some e
   have h2:q.1=w:=by simpa using List.find?_some e2
   rw[Zd nd (List.mem_reverse.mp (List.mem_of_find?_eq_some e2)) (List.mem_of_find?_eq_some e) (h2.trans h1.symm)]
theorem p_ {W:Wl}(h:WOk W) {os:List Nat}(ho:os.Perm (List.range W.n)) (w:Str) {i:Nat}(hi:i<W.n):mk (mvd os W) w (os.getD i 0)=mk W w i:=by
 have nd:(W.ms.map (·.1)).Nodup:=(z0u.mp h.nd).1;unfold mk mvd;dsimp only;rw[Wb (by rw[z0k];exact nd),List.find?_map];show (match (W.ms.find? λ p=>p.1=w).map (λ p:Str×List Nat=>(p.1,p.2.map λ t=>os.getD t 0)) with | some p=>decide (os.getD i 0∈p.2) | none=>false)=_;cases e:W.ms.find? λ p=>p.1=w with
 | none=>rfl
 | some p=>
  have hp:=(h.ml p (List.mem_of_find?_eq_some e)).2.2;show decide (os.getD i 0∈p.2.map λ t=>os.getD t 0)=decide (i∈p.2);rw[decide_eq_decide];constructor
  ·intro m;obtain⟨t,ht,et⟩:=z05.mp m
   rwa [<-(VD ho (hp t ht) hi).mp et]
  ·exact λ m=>z05.mpr ⟨i,m,rfl⟩
theorem qC {W:Wl}(h:WOk W) {os:List Nat}(ho:os.Perm (List.range W.n)) (w:Str) {i j:Nat}(hi:i<W.n) (hj:j<W.n):tk (mvd os W) w (os.getD i 0) (os.getD j 0)=tk W w i j:=by
 have nd:(W.ts.map (·.1)).Nodup:=(z0u.mp h.nd).2.1;unfold tk mvd;dsimp only;rw[Wb (by rw[z0k];exact nd),List.find?_map];show (match (W.ts.find? λ p=>p.1=w).map (λ p:Str×List Pr=>(p.1,p.2.map λ q=>(os.getD q.1 0,os.getD q.2 0))) with | some p=>decide ((os.getD i 0,os.getD j 0)∈p.2) | none=>false)=_;cases e:W.ts.find? λ p=>p.1=w with
 | none=>rfl
 | some p=>
  have hp:=(h.tl p (List.mem_of_find?_eq_some e)).2.2;show decide ((os.getD i 0,os.getD j 0)∈p.2.map λ q=>(os.getD q.1 0,os.getD q.2 0))=decide ((i,j)∈p.2);rw[decide_eq_decide];constructor
  ·intro m;obtain⟨t,ht,et⟩:=z05.mp m;have e1:=(VD ho (hp t ht).1 hi).mp (congrArg Prod.fst et);have e2:=(VD ho (hp t ht).2 hj).mp (congrArg Prod.snd et);rw[<-e1,<-e2];exact ht
  ·exact λ m=>z05.mpr ⟨(i,j),m,rfl⟩
theorem gQ {W:Wl}(h:WOk W) {os:List Nat}(ho:os.Perm (List.range W.n)) {i:Nat}(hi:i<W.n):RV W (mvd os W) (i,os.getD i 0)=true:=by
 unfold RV;rw[z0x];intro w _;rw[p_ h ho w hi];simp
theorem Ra {W:Wl}(h:WOk W) {os:List Nat}(ho:os.Perm (List.range W.n)) {i j:Nat}(hi:i<W.n) (hj:j<W.n):JN W (mvd os W) (i,os.getD i 0) (j,os.getD j 0)=true:=by
 unfold JN;rw[z0x];intro w _;rw[qC h ho w hi hj];simp
theorem gR {W:Wl}(h:WOk W) {os:List Nat}(ho:os.Perm (List.range W.n)) {i j:Nat}(hi:i<W.n) (hj:j<W.n):goB W (mvd os W) (i,os.getD i 0) (j,os.getD j 0)=true:=by
 refine (RZ _ _ _ _).mpr ⟨?_,Ra h ho hi hj,Ra h ho hj hi⟩;rw[decide_eq_decide];exact (VD ho hi hj).symm
theorem j7 {W:Wl}(h:WOk W) {os:List Nat}(ho:os.Perm (List.range W.n)) (rows:List Pr) (hr:∀ r∈rows,r.1<W.n/\r.2=os.getD r.1 0):Way (P1 W (mvd os W) rows) W.n (mvd os W).n [] os:=by
 have hl:os.length=W.n:=by rw[ho.length_eq,List.length_range]
 refine⟨hl,rfl,λ j x _ hx=>?_,λ j x _ hx=>?_⟩
 ·exact z0o.mp (ho.mem_iff.mp (z0H hx))
 ·have hj:j<W.n:=by rw[<-hl];exact (z0m.mp hx).1
  have ex:x=os.getD j 0:=by
   have:=(gP ho hj).1;rw[hx] at this;exact z0e this
  subst ex;refine (RX _ _ rows os hx).mpr ⟨gQ h ho hj,Ra h ho hj hj,λ r hrr=>?_,λ i y hi hy=>?_⟩
  ·obtain⟨a,b⟩:=hr r hrr;have:r=(r.1,os.getD r.1 0):=by rw[<-b]
   rw[this];exact gR h ho a hj
  ·have hi':i<W.n:=by omega
   have:=(gP ho hi').1;rw[hy] at this;rw[z0e this];exact gR h ho hi' hj
theorem gU {W V:Wl}{rows:List Pr}(w:Way (P1 W V rows) W.n V.n [] gs) (e:W.n=V.n):gs.Perm (List.range V.n):=by
 have nd:gs.Nodup:=by
  rw[List.nodup_iff_pairwise_ne,List.pairwise_iff_getElem];intro i j hi hj hij z;have hx:gs[j]?=some gs[j]:=z06 hj;have hy:gs[i]?=some gs[i]:=z06 hi;have:=((RZ _ _ _ _).mp (((RX W V rows gs hx).mp (w.ok j _ (z0s _) hx)).2.2.2 i _ hij hy)).1;have t:decide (gs[i]=gs[j])=true:=z0g z;have f:decide (i=j)=false:=z0a (by omega);simp only at this;rw[t,f] at this;cases this
 have sub:∀ x∈gs,x∈List.range V.n:=λ x hx=>by
  obtain⟨j,hj,rfl⟩:=List.mem_iff_getElem.mp hx;exact z0o.mpr (w.lt j _ (z0s _) (z06 hj))
 refine (List.perm_ext_iff_of_nodup nd List.nodup_range).mpr λ x=>⟨sub x,λ hx=>?_⟩
 rcases Classical.em (x∈gs) with z | z
 ·exact z
 ·have:=subN (l:=x::gs) (m:=List.range V.n) (z0G.mpr ⟨z,nd⟩) (λ y hy=>by
   rcases z08.mp hy with rfl | hy
   ·exact hx
   ·exact sub y hy)
  rw[z0B,w.len,List.length_range,e] at this;omega
theorem j8 {W V:Wl}{rows:List Pr}(w:Way (P1 W V rows) W.n V.n [] gs) {r:Pr}(hr:r∈rows) (hb:r.1<W.n):gs[r.1]?=some r.2:=by
 have hx:gs[r.1]?=some (gs[r.1]'(by rw[w.len];exact hb)):=z06 _;have:=((RZ _ _ _ _).mp (((RX W V rows gs hx).mp (w.ok r.1 _ (z0s _) hx)).2.2.1 r hr)).1;simp only[decide_true] at this;rw[hx,z12 this.symm]
theorem j9 {W V:Wl}(hs:Spk W V) {rows:List Pr}{gs:List Nat}(w:Way (P1 W V rows) W.n V.n [] gs):fitB W V (prs gs)=true:=by
 refine Za.mpr λ p hp q hq=>?_;have hm:∀ {p:Pr},p∈prs gs->∃ i x,gs[i]?=some x/\p=(i,x):=λ {p} hp=>by
  have hp':p∈prs (gs.take gs.length):=by rw[List.take_length];exact hp
  obtain⟨i,x,_,h1,h2⟩:=(U_ (z01 _)).mp hp';exact⟨i,x,h1,h2⟩
 obtain⟨i,x,hx,rfl⟩:=hm hp;obtain⟨j,y,hy,rfl⟩:=hm hq;have px:=(RX W V rows gs hx).mp (w.ok i x (z0s _) hx);have py:=(RX W V rows gs hy).mp (w.ok j y (z0s _) hy);refine (Kq hs (i,x) (j,y)).mpr ?_
 by_cases z:i=j
 ·subst z;rw[hx] at hy;cases hy;exact⟨by simp,px.1,px.2.1,px.2.1⟩
 ·by_cases l:i<j
  ·have g:=(RZ _ _ _ _).mp (py.2.2.2 i x l hx);exact⟨g.1,px.1,g.2.1,g.2.2⟩
  ·have g:=(RZ _ _ _ _).mp (px.2.2.2 j y (by omega) hy);exact⟨dsym _ _ _ _ g.1,px.1,g.2.2,g.2.1⟩
def mtc (W V:Wl) (rows:List Pr):Option (List Nat):=if W.n=V.n then dfs (P1 W V rows) W.n V.n 10 [] else none
theorem Hj {g:FS}{gs:FM}{μ:Mu}{K:KM}(e:g ρ=some (.nx ρ')) (k:gs ρ' μ K):seqM (puM g) gs ρ μ K:=⟨_,e,k⟩
theorem mR {gs:FM}{μ:Mu}{K:KM}(e:ρ=ρ') (k:gs ρ' μ K):thM gs K (.nx ρ) μ:=by
 subst e;exact k
theorem Ze {t:FT}{g gs:FM}{μ:Mu}{K:KM}(e:ρ.map (Cd μ)=ρ') (h:t ρ'=some false) (k:gs ρ μ K):seqM (ifL t g nxM) gs ρ μ K:=ZX e h (show nxM ρ μ (thM gs K) from k)
theorem rQ {t:FT}{g g' gs:FM}{μ:Mu}{K:KM}(e:ρ.map (Cd μ)=ρ') (h:t ρ'=some true) (k:g ρ μ (thM gs K)):seqM (ifL t g g') gs ρ μ K:=ZW e h k
theorem Ow (W V:Wl) (h:WOk W) (hv:WOk V) (hs:Spk W V) (rows:List Pr) (hr:∀ r∈rows,r.1<W.n/\r.2<V.n) (hl:rows.length<=100) (μ:Mu) (K:D->Mu->Prop)
  (hK:∀ μ',match mtc W V rows with | some gs=>∀ q,μ'.lookup q=some (lN gs)->K (.adr q) μ' | none=>K .non μ'):Jh [wob W,wob V,.lst (rows.map pN)] μ K:=by
 have st:=Xd W V h hv hs rows hr;have s1:=Nz W;have s2:=Nz V;have en:eqD true (.int (W.n:Int)) (.int (V.n:Int))=some (.bl (!decide (W.n=V.n))):=by rw[R3,QL]
 have h5:=h.n5;refine⟨rfl,?_⟩;show Lb [.fz (wob W),.fz (wob V),.fz (.lst (rows.map pN))] μ (finM K);refine Hj (ρ':=[.fz (wob W),.fz (wob V),.fz (.lst (rows.map pN))]) (by simp only[cK,st]) ?_
 by_cases z:W.n=V.n
 ·rw[z0g z] at en;refine Hj (ρ':=[.fz (wob W),.fz (wob V),.fz (.lst (rows.map pN))]) (by simp only[cK,s1,s2,en]) ?_;refine⟨[wob W,wob V,.lst (rows.map pN)],lN [],by simp only[cK,Zc],rfl,λ p hp=>?_⟩;have e0:rows.map pN=(rows++prs []).map pN:=by simp[prs]
  rw[e0];refine Mt W V hs.sp h.n5 hv.n5 rows hl 10 [] p _ _ (by simp;omega) (z0s _) (Wa μ p _) λ μ' e=>?_;have hK:=hK μ';unfold mtc at hK;rw[if_pos z] at hK;cases hd:dfs (P1 W V rows) W.n V.n 10 [] with
  | none=>rw[hd] at hK;exact hK
  | some gs=>rw[hd] at hK;exact hK
 ·rw[z0a z] at en;have hK:=hK μ;unfold mtc at hK;rw[if_neg z] at hK;refine⟨.rt .non [.fz (wob W),.fz (wob V),.fz (.lst (rows.map pN))],by simp only[cK,s1,s2,en],hK⟩
theorem j_ {W V:Wl}{rows:List Pr}(e:mtc W V rows=some gs):W.n=V.n/\Way (P1 W V rows) W.n V.n [] gs:=by
 unfold mtc at e;split at e
 ·rename_i z;exact⟨z,N7 (z0s _) e⟩
 ·cases e
theorem qD (h:gs.Perm (List.range n)) (hn:n<=60):srtI (lN gs)=some (lN (List.range n)):=by
 have e1:gs.map iN=(gs.map λ t:Nat=>(t:Int)).map .int:=by rw[z0k];rfl
 have e2:(List.range n).map iN=((List.range n).map λ t:Nat=>(t:Int)).map .int:=by rw[z0k];rfl
 have hl:gs.length=n:=by rw[h.length_eq,List.length_range]
 unfold lN;rw[e1,e2];show (Kw _).bind _=_;rw[aL];show (if (gs.map λ t:Nat=>(t:Int)).length<=60 then some (D.lst _) else none)=_;rw[if_pos (by rw[z00];omega)];rw[<-PySem.W.eq_sortI (h.symm.map λ t:Nat=>(t:Int)) (by
  rw[z16];refine List.Pairwise.imp (R:=λ a b=>a<b) (λ {a b} h=>by omega) List.pairwise_lt_range)]
theorem mU (gs:List Nat):eqD true (lN gs) (lN gs)=some (.bl false):=by
 have a:∀ gs:List Nat,allO (eqK 180) (gs.map iN) (gs.map iN)=some true:=by
  intro gs
  induction gs with
  | nil=>rfl
  | cons q r ih=>
   have e:eqK 180 (iN q) (iN q)=some true:=by
    show some (decide ((q:Int)=(q:Int)))=_;simp
   rw[z03];unfold allO;rw[e,ih];rfl
 unfold eqD lN;have:eqvD (.lst (gs.map iN)) (.lst (gs.map iN))=some true:=by
  show (if (gs.map iN).length=(gs.map iN).length then allO (eqK 180) (gs.map iN) (gs.map iN) else some false)=_;rw[if_pos rfl,a]
 rw[this];rfl
theorem rR (gs:List Nat):isiD "list" (lN gs)=some (.bl true):=rfl
theorem rT (t:Int):isiD "int" (.int t)=some (.bl true):=rfl
theorem rU (t:Int):isiD "bool" (.int t)=some (.bl false):=rfl
theorem gW {k x:Nat}(h:gs[k]?=some x):ixE (lN gs) (.int (k:Int))=some (iN x):=by
 show atI (gs.map iN) (k:Int)=_;rw[Fl,z04,h];rfl
theorem Sy (x0 x1 x2 x4:PV.Slot) (gs:List Nat):∀ (rows:List Pr) (z5 z6:PV.Slot),(∀ r∈rows,gs[r.1]?=some r.2)->∃ y5 y6,forF (tgB (tupG 2 (BZ 5 (BZ 6 nilG))) GF) (rows.map pN) [x0,x1,x2,.fz (lN gs),x4,z5,z6]=some (.nx [x0,x1,x2,.fz (lN gs),x4,y5,y6])
 | [],z5,z6,_=>⟨z5,z6,rfl⟩
 | r::rows,z5,z6,h=>by
  have ix:=gW (h r (by simp));obtain⟨y5,y6,e⟩:=Sy x0 x1 x2 x4 gs rows (.fz (.int (r.1:Int))) (.fz (.int (r.2:Int))) λ x hx=>h x (by simp[hx]);refine⟨y5,y6,?_⟩;have ne:eqD true (.int (r.2:Int)) (.int (r.2:Int))=some (.bl false):=by rw[R3];simp
  have st:GF [x0,x1,x2,.fz (lN gs),x4,.fz (.int (r.1:Int)),.fz (.int (r.2:Int))]=some (.nx [x0,x1,x2,.fz (lN gs),x4,.fz (.int (r.1:Int)),.fz (.int (r.2:Int))]):=by
   simp only[cK,GF,ix,ne]
  rw[z03,Dk,e_tg,Ja,Ip];simp only[z0O,z0P];rw[st,CQ,e]
theorem kE (W V:Wl) (h:WOk W) (hv:WOk V) (hs:Spk W V) (rows:List Pr) (hr:∀ r∈rows,r.1<W.n/\r.2<V.n) (gs:List Nat) (e:mtc W V rows=some gs):Hs [wd W,wd V,.lst (rows.map pN),lN gs]=some (.bl true):=by
 obtain⟨en,w⟩:=j_ e;have pm:=gU w en;have h5:=h.n5;have v5:=hv.n5;have i0:=ixw0 W;have j0:=ixw0 V;have so:=qD pm (by omega);have rg:=fK V.n (by omega);have nl:=mU (List.range V.n);have il:=rR gs;have ln:=ZV gs;have nw:eqD true (.int (gs.length:Int)) (.int (W.n:Int))=some (.bl false):=by rw[w.len,R3];simp
 obtain⟨y4,l1⟩:=KZ (tg:=Ay 4) (b:=Ik) (λ z=>[.fz (wd W),.fz (wd V),.fz (.lst (rows.map pN)),.fz (lN gs),z,.un,.un]) iN (λ _=>true) (.bl false) (λ d z=>rfl) gs .un λ x hx=>by
  simp only[cK,Ik,rT,rU,if_true]
 have al:(gs.all λ _=>true)=true:=by simp
 rw[if_pos al] at l1;obtain⟨y5,y6,l2⟩:=Sy (.fz (wd W)) (.fz (wd V)) (.fz (.lst (rows.map pN))) y4 gs rows .un .un λ r hrr=>j8 w hrr (hr r hrr).1;have e6:=G8 (W.n:Int) (by omega);rw[z0K] at e6;have cm:CK (rngI (bF ixE (vF 0) (kF (.int 0)))) allT Il [.fz (wd W),.fz (wd V),.fz (.lst (rows.map pN)),.fz (lN gs),y4,y5,y6]=some (.lst ((List.range W.n).map λ k=>pN (k,gs.getD k 0))):=
  N5 (List.range W.n) iN (λ k=>pN (k,gs.getD k 0)) (by simp only[cK,i0,e6];rfl) (by rw[List.length_range];omega) λ k hk=>by
   have hk:=z0o.mp hk;have hx:gs[k]?=some (gs.getD k 0):=by rw[z0v,z06 (by rw[w.len];exact hk)];rfl
   have ix:=gW hx;simp only[cK,Il,ix]
 have ep:((List.range W.n).map λ k=>pN (k,gs.getD k 0))=(prs gs).map pN:=by unfold prs;rw[z0k,w.len];rfl
 rw[ep] at cm;have lf:=Xe W V h hv hs (prs gs) (by simp[prs,w.len];omega);rw[j9 hs w] at lf;have sq:Kv (some (lN gs))=some (gs.map iN):=Es _;simp only[cK,Hs,KH,il,so,j0,rg,nl,ln,i0,nw,Er,sq,l1,Es,l2,cm,lf]
def byB (os:List Nat) (r:Pr):Bool:=decide (r.2=os.getD r.1 0)
theorem qF (os:List Nat) (rows:List Pr):decide (((rows.filter (byB os)).length:Int)=(rows.length:Int))=rows.all (byB os):=by
 rw[z0N,decide_eq_true_iff,z0x];constructor
 ·intro h;have h:(rows.filter (byB os)).length=rows.length:=by omega
  exact λ r hr=>(List.length_filter_eq_length_iff.mp h) r hr
 ·intro h;rw[List.length_filter_eq_length_iff.mpr h]
theorem gY (W V:Wl) (os:List Nat) (h:WOk W) (ho:os.Perm (List.range W.n)) (e:V=mvd os W) (rows:List Pr) (hr:∀ r∈rows,r.1<W.n/\r.2<V.n) (hb:rows.all (byB os)=true):mtc W V rows≠none:=by
 subst e;rw[z0x] at hb;have w:=j7 h ho rows λ r hrr=>⟨(hr r hrr).1,z12 (hb r hrr)⟩;unfold mtc;show (if W.n=W.n then dfs (P1 W (mvd os W) rows) W.n (mvd os W).n 10 [] else none)≠none;rw[if_pos rfl];have:=(jw (k:=10) (by have:=h.n5;omega)).mpr ⟨os,w⟩;intro z;rw[z] at this;cases this
theorem mV:isND false .non=some (.bl true):=rfl
theorem qG (gs:List Nat):isND false (lN gs)=some (.bl false):=rfl
theorem kI (ns cl:List Int) (hc:cl.length<=46) (W V:Wl) (os:List Nat) (c:Int) (h:Two c 5 W V os) (al:Bool) (ha:al=true->c%4=1∨c%4=2) (k li:Nat) (z10 z11 z12 z13 z14 z15:PV.Slot) (μ:Mu) (K:KM)
  (hK:∀ (m:Nat) (y10 y11 y12 y13 y14 y15:PV.Slot) (μ':Mu),K (.nx [.fz (.lst (ns.map .int)),.fz (wd W),.fz (wd V),.fz (lN os),.fz (wob W),.fz (wob V),.fz (.lst (cl.map .int)),.fz (.bl al),.fz (.int ((k+1+m:Nat):Int)),.fz (.int ((li+1:Nat):Int)),y10,y11,y12,y13,y14,y15]) μ'):Ur [.fz (.lst (ns.map .int)),.fz (wd W),.fz (wd V),.fz (lN os),.fz (wob W),.fz (wob V),.fz (.lst (cl.map .int)),.fz (.bl al),.fz (.int (k:Int)),.fz (.int (li:Int)),z10,z11,z12,z13,z14,z15] μ K:=by
 have hs:Spk W V:=⟨h.mm,h.tt⟩;obtain⟨m,hm⟩:∃ m:Nat,(cl.getD k 0+(k:Int))%6=(m:Int):=⟨((cl.getD k 0+(k:Int))%6).toNat,by omega⟩;have ca:=G5 cl k;have em:=Ej (cl.getD k 0+(k:Int)) 6 (by decide);rw[hm] at em;have sl:=Zb cl (some ((k:Int)+1)) (some ((k:Int)+1+(m:Int)));have cn:=j6 cl (some ((k:Int)+1)) (some ((k:Int)+1+(m:Int)));obtain⟨rows,r1,r2,r3⟩:=gM W V os h.pm (cutD cl (some ((k:Int)+1)) (some ((k:Int)+1+(m:Int)))) (by omega);have np:=p8 rows;have ln:=Xb rows;have lnf:=Xb (rows.filter (byB os));have e7:((k+1+m:Nat):Int)=(k:Int)+1+(m:Int):=by omega
 have e8:((li+1:Nat):Int)=(li:Int)+1:=by omega
 refine Hj (ρ':=[.fz (.lst (ns.map .int)),.fz (wd W),.fz (wd V),.fz (lN os),.fz (wob W),.fz (wob V),.fz (.lst (cl.map .int)),.fz (.bl al),.fz (.int (k:Int)),.fz (.int ((li:Int)+1)),z10,z11,z12,z13,z14,z15]) (by simp only[ciK,np]) ?_;refine Hj (ρ':=[.fz (.lst (ns.map .int)),.fz (wd W),.fz (wd V),.fz (lN os),.fz (wob W),.fz (wob V),.fz (.lst (cl.map .int)),.fz (.bl al),.fz (.int (k:Int)),.fz (.int ((li:Int)+1)),.fz (.int (m:Int)),z11,z12,z13,z14,z15]) (by simp only[ciK,ca,em]) ?_;refine Hj (ρ':=[.fz (.lst (ns.map .int)),.fz (wd W),.fz (wd V),.fz (lN os),.fz (wob W),.fz (wob V),.fz (.lst (cl.map .int)),.fz (.bl al),.fz (.int (k:Int)),.fz (.int ((li:Int)+1)),.fz (.int (m:Int)),.fz (.lst (rows.map pN)),z12,z13,z14,z15]) (by simp only[ciK,sl,r3]) ?_;refine Hj (ρ':=[.fz (.lst (ns.map .int)),.fz (wd W),.fz (wd V),.fz (lN os),.fz (wob W),.fz (wob V),.fz (.lst (cl.map .int)),.fz (.bl al),.fz (.int (k:Int)),.fz (.int ((li:Int)+1)),.fz (.int (m:Int)),.fz (.lst (rows.map pN)),.fz (.lst (rows.map pN)),z13,z14,z15]) (by simp only[cK,Zc]) ?_;refine⟨[wob W,wob V,.lst (rows.map pN)],by simp only[cK],?_⟩;refine Ow W V h.w h.v hs rows r1 (by omega) μ _ λ μ'=>?_;have by_:∀ f:PV.Slot,setF 14 (bF (eqD false) (uF lenE (CK (seqA (vF 11)) QC QD)) (uF lenE (vF 11))) [.fz (.lst (ns.map .int)),.fz (wd W),.fz (wd V),.fz (lN os),.fz (wob W),.fz (wob V),.fz (.lst (cl.map .int)),.fz (.bl al),.fz (.int (k:Int)),.fz (.int ((li:Int)+1)),.fz (.int (m:Int)),.fz (.lst (rows.map pN)),.fz (.lst (rows.map pN)),f,z14,z15]=some (.nx [.fz (.lst (ns.map .int)),.fz (wd W),.fz (wd V),.fz (lN os),.fz (wob W),.fz (wob V),.fz (.lst (cl.map .int)),.fz (.bl al),.fz (.int (k:Int)),.fz (.int ((li:Int)+1)),.fz (.int (m:Int)),.fz (.lst (rows.map pN)),.fz (.lst (rows.map pN)),f,.fz (.bl (rows.all (byB os))),z15]):=λ f=>by
  have cm:CK (seqA (vF 11)) QC QD [.fz (.lst (ns.map .int)),.fz (wd W),.fz (wd V),.fz (lN os),.fz (wob W),.fz (wob V),.fz (.lst (cl.map .int)),.fz (.bl al),.fz (.int (k:Int)),.fz (.int ((li:Int)+1)),.fz (.int (m:Int)),.fz (.lst (rows.map pN)),.fz (.lst (rows.map pN)),f,z14,z15]=some (.lst ((rows.filter (byB os)).map pN)):=Xc rows pN pN (byB os) (by simp only[cK,Er,Es]) (by omega) (λ r hr=>by
   have i0:=ixp0 r;have i1:=ixp1 r;have ix:=gW (gP h.pm (r1 r hr).1).1;have eq:=gG r.2 (os.getD r.1 0);simp only[cK,QC,i0,i1,ix,eq];rfl) (λ r hr=>by simp only[cK,QD])
  have eq:eqD false (.int ((rows.filter (byB os)).length:Int)) (.int (rows.length:Int))=some (.bl (rows.all (byB os))):=by rw[R1,qF]
  simp only[cK,cm,lnf,ln,eq]
 cases hd:mtc W V rows with
 | none=>
  dsimp only;refine mR (ρ':=[.fz (.lst (ns.map .int)),.fz (wd W),.fz (wd V),.fz (lN os),.fz (wob W),.fz (wob V),.fz (.lst (cl.map .int)),.fz (.bl al),.fz (.int (k:Int)),.fz (.int ((li:Int)+1)),.fz (.int (m:Int)),.fz (.lst (rows.map pN)),.fz (.lst (rows.map pN)),.fz .non,z14,z15]) rfl ?_;refine Hj (by_ _) ?_;have nt:(al&&rows.all (byB os))=false:=by
   cases ea:al with
   | false=>rfl
   | true=>
    cases eb:rows.all (byB os) with
    | false=>rfl
    | true=>exact absurd hd (gY W V os h.w h.pm (h.al (ha ea)) rows r1 eb)
  refine Ze (ρ':=[.fz (.lst (ns.map .int)),.fz (wd W),.fz (wd V),.fz (lN os),.fz (wob W),.fz (wob V),.fz (.lst (cl.map .int)),.fz (.bl al),.fz (.int (k:Int)),.fz (.int ((li:Int)+1)),.fz (.int (m:Int)),.fz (.lst (rows.map pN)),.fz (.lst (rows.map pN)),.fz .non,.fz (.bl (rows.all (byB os))),Cd μ' z15]) rfl ?_ ?_
  ·cases ea:al with
   | false=>simp only[cK,np,mV]
   | true=>
    rw[ea] at nt;have eb:rows.all (byB os)=false:=by simpa using nt
    simp only[cK,np,mV,eb]
  refine Ze (ρ':=[.fz (.lst (ns.map .int)),.fz (wd W),.fz (wd V),.fz (lN os),.fz (wob W),.fz (wob V),.fz (.lst (cl.map .int)),.fz (.bl al),.fz (.int (k:Int)),.fz (.int ((li:Int)+1)),.fz (.int (m:Int)),.fz (.lst (rows.map pN)),.fz (.lst (rows.map pN)),.fz .non,.fz (.bl (rows.all (byB os))),Cd μ' z15]) rfl (by simp only[cK,mL]) ?_;refine⟨.nx [.fz (.lst (ns.map .int)),.fz (wd W),.fz (wd V),.fz (lN os),.fz (wob W),.fz (wob V),.fz (.lst (cl.map .int)),.fz (.bl al),.fz (.int ((k:Int)+1+(m:Int))),.fz (.int ((li:Int)+1)),.fz (.int (m:Int)),.fz (.lst (rows.map pN)),.fz (.lst (rows.map pN)),.fz .non,.fz (.bl (rows.all (byB os))),z15],by simp only[ciK,np],?_⟩;have:=hK m (.fz (.int (m:Int))) (.fz (.lst (rows.map pN))) (.fz (.lst (rows.map pN))) (.fz .non) (.fz (.bl (rows.all (byB os)))) z15 μ';rw[e7,e8] at this;exact this
 | some gs=>
  intro q hq;have gd:=kE W V h.w h.v hs rows r1 gs hd;refine mR (ρ':=[.fz (.lst (ns.map .int)),.fz (wd W),.fz (wd V),.fz (lN os),.fz (wob W),.fz (wob V),.fz (.lst (cl.map .int)),.fz (.bl al),.fz (.int (k:Int)),.fz (.int ((li:Int)+1)),.fz (.int (m:Int)),.fz (.lst (rows.map pN)),.fz (.lst (rows.map pN)),.fz (.adr q),z14,z15]) rfl ?_;refine Hj (by_ _) ?_;have lt:([.fz (.lst (ns.map .int)),.fz (wd W),.fz (wd V),.fz (lN os),.fz (wob W),.fz (wob V),.fz (.lst (cl.map .int)),.fz (.bl al),.fz (.int (k:Int)),.fz (.int ((li:Int)+1)),.fz (.int (m:Int)),.fz (.lst (rows.map pN)),.fz (.lst (rows.map pN)),.fz (.adr q),.fz (.bl (rows.all (byB os))),z15]:Rho).map (Cd μ')=[.fz (.lst (ns.map .int)),.fz (wd W),.fz (wd V),.fz (lN os),.fz (wob W),.fz (wob V),.fz (.lst (cl.map .int)),.fz (.bl al),.fz (.int (k:Int)),.fz (.int ((li:Int)+1)),.fz (.int (m:Int)),.fz (.lst (rows.map pN)),.fz (.lst (rows.map pN)),.fz (lN gs),.fz (.bl (rows.all (byB os))),Cd μ' z15]:=by
   show [.fz (.lst (ns.map .int)),.fz (wd W),.fz (wd V),.fz (lN os),.fz (wob W),.fz (wob V),.fz (.lst (cl.map .int)),.fz (.bl al),.fz (.int (k:Int)),.fz (.int ((li:Int)+1)),.fz (.int (m:Int)),.fz (.lst (rows.map pN)),.fz (.lst (rows.map pN)),PV.Slot.fz (seeM μ' (.adr q)),.fz (.bl (rows.all (byB os))),Cd μ' z15]=_;rw[U9 hq]
  refine Ze lt (by simp only[cK,np,qG]) ?_;refine rQ lt (by simp only[cK,mK]) ?_;refine Ze lt (by simp only[cK,gd]) ?_;refine⟨lN gs,(gJ hq rfl _).trans (by simp only[cK,z0O,z0P];rfl),?_⟩;refine⟨[],q,lN gs,.non,.lst [],rfl,rfl,hq,rfl,?_⟩;refine⟨[wob W,wob V,.lst (rows.map pN)],by simp only[cK,z0O,z0P],?_⟩;refine Ow W V h.w h.v hs rows r1 (by omega) _ _ λ μ2=>?_;rw[hd];intro q2 hq2;refine⟨lN gs,rfl,?_⟩;rw[U9 hq2,mU];refine⟨.nx [.fz (.lst (ns.map .int)),.fz (wd W),.fz (wd V),.fz (lN os),.fz (wob W),.fz (wob V),.fz (.lst (cl.map .int)),.fz (.bl al),.fz (.int ((k:Int)+1+(m:Int))),.fz (.int ((li:Int)+1)),.fz (.int (m:Int)),.fz (.lst (rows.map pN)),.fz (.lst (rows.map pN)),.fz (.adr q),.fz (.bl (rows.all (byB os))),.fz (lN gs)],by simp only[ciK,z0O,z0P],?_⟩;have:=hK m (.fz (.int (m:Int))) (.fz (.lst (rows.map pN))) (.fz (.lst (rows.map pN))) (.fz (.adr q)) (.fz (.bl (rows.all (byB os)))) (.fz (lN gs)) μ2;rw[e7,e8] at this;exact this
theorem Zf (ns cl:List Int) (hc:cl.length<=46) (W V:Wl) (os:List Nat) (c:Int) (h:Two c 5 W V os) (al:Bool) (ha:al=true->c%4=1∨c%4=2) (K:KM) (hK:∀ ρ μ,K (.nx ρ) μ):∀ (f k li:Nat) (z10 z11 z12 z13 z14 z15:PV.Slot) (μ:Mu),8-li<f->J7 Kl Ur f [.fz (.lst (ns.map .int)),.fz (wd W),.fz (wd V),.fz (lN os),.fz (wob W),.fz (wob V),.fz (.lst (cl.map .int)),.fz (.bl al),.fz (.int (k:Int)),.fz (.int (li:Int)),z10,z11,z12,z13,z14,z15] μ K
 | 0,_,_,_,_,_,_,_,_,_,hf=>by omega
 | f+1,k,li,z10,z11,z12,z13,z14,z15,μ,hf=>by
  have ln:lenE (.lst (cl.map .int))=some (.int (cl.length:Int)):=by
   show lenD (.lst (cl.map .int))=_;rw[Qe,z00]
  have le:([.fz (.lst (ns.map .int)),.fz (wd W),.fz (wd V),.fz (lN os),.fz (wob W),.fz (wob V),.fz (.lst (cl.map .int)),.fz (.bl al),.fz (.int (k:Int)),.fz (.int (li:Int)),z10,z11,z12,z13,z14,z15]:Rho).map (Cd μ)=[.fz (.lst (ns.map .int)),.fz (wd W),.fz (wd V),.fz (lN os),.fz (wob W),.fz (wob V),.fz (.lst (cl.map .int)),.fz (.bl al),.fz (.int (k:Int)),.fz (.int (li:Int)),Cd μ z10,Cd μ z11,Cd μ z12,Cd μ z13,Cd μ z14,Cd μ z15]:=rfl;have t0:Kl ([.fz (.lst (ns.map .int)),.fz (wd W),.fz (wd V),.fz (lN os),.fz (wob W),.fz (wob V),.fz (.lst (cl.map .int)),.fz (.bl al),.fz (.int (k:Int)),.fz (.int (li:Int)),z10,z11,z12,z13,z14,z15].map (Cd μ))=some (decide ((k:Int)<=(cl.length:Int))&&decide ((li:Int)<8)):=by
   rw[le]
   by_cases z1:(k:Int)<=(cl.length:Int)
   ·by_cases z2:(li:Int)<8
    ·simp only[ciK,Kl,ln,z1,z2,decide_true,Bool.and_self]
    ·simp only[ciK,Kl,ln,z1,z2,decide_true,decide_false,Bool.and_false]
   ·simp only[ciK,Kl,ln,z1,decide_false,Bool.false_and]
  unfold J7;rw[t0];cases hb:(decide ((k:Int)<=(cl.length:Int))&&decide ((li:Int)<8)) with
  | false=>exact hK _ _
  | true=>
   rw[z0C,z1q,z1q] at hb;exact kI ns cl hc W V os c h al ha k li z10 z11 z12 z13 z14 z15 μ _ λ m y10 y11 y12 y13 y14 y15 μ'=>Zf ns cl hc W V os c h al ha K hK f (k+1+m) (li+1) y10 y11 y12 y13 y14 y15 μ' (by omega)
theorem gZ:∀ ns:List Int,ns.length<=63->V8 [.lst (ns.map .int)]=some (.bl true):=by
 intro ns hn;obtain⟨W,V,os,h,e⟩:=K9 ns;have i0:=ixw0 W;have i1:=ixw1 W;have i2:=ixw2 W;have j0:=ixw0 V;have j1:=ixw1 V;have j2:=ixw2 V;have tg:tupG 3 (BZ 1 (BZ 2 (BZ 3 nilG))) (.lst [wd W,wd V,lN os]) [.fz (.lst (ns.map .int)),.un,.un,.un,.un,.un,.un,.un,.un,.un,.un,.un,.un,.un,.un,.un]=some [.fz (.lst (ns.map .int)),.fz (wd W),.fz (wd V),.fz (lN os),.un,.un,.un,.un,.un,.un,.un,.un,.un,.un,.un,.un]:=rfl;have as:asgF (An HW (Aa (vF 0) (Aa (kF (.int 5)) nilA))) (tupG 3 (BZ 1 (BZ 2 (BZ 3 nilG)))) [.fz (.lst (ns.map .int)),.un,.un,.un,.un,.un,.un,.un,.un,.un,.un,.un,.un,.un,.un,.un]=some (.nx [.fz (.lst (ns.map .int)),.fz (wd W),.fz (wd V),.fz (lN os),.un,.un,.un,.un,.un,.un,.un,.un,.un,.un,.un,.un]):=by
  have c:An HW (Aa (vF 0) (Aa (kF (.int 5)) nilA)) [.fz (.lst (ns.map .int)),.un,.un,.un,.un,.un,.un,.un,.un,.un,.un,.un,.un,.un,.un,.un]=some (.lst [wd W,wd V,lN os]):=by simp only[cK,e]
  unfold asgF;rw[c];show (tupG 3 (BZ 1 (BZ 2 (BZ 3 nilG))) (.lst [wd W,wd V,lN os]) _).map Out.nx=_;rw[tg];rfl
 have mk1:=mC W h.w (Aa (bF ixE (vF 1) (kF (.int 0))) (Aa (bF ixE (vF 1) (kF (.int 1))) (Aa (bF ixE (vF 1) (kF (.int 2))) nilA))) [.fz (.lst (ns.map .int)),.fz (wd W),.fz (wd V),.fz (lN os),.un,.un,.un,.un,.un,.un,.un,.un,.un,.un,.un,.un] (by simp only[cK,i0,i1,i2]);have mk2:=mC V h.v (Aa (bF ixE (vF 2) (kF (.int 0))) (Aa (bF ixE (vF 2) (kF (.int 1))) (Aa (bF ixE (vF 2) (kF (.int 2))) nilA))) [.fz (.lst (ns.map .int)),.fz (wd W),.fz (wd V),.fz (lN os),.fz (wob W),.un,.un,.un,.un,.un,.un,.un,.un,.un,.un,.un] (by simp only[cK,j0,j1,j2]);have sl:=Zb ns (some 17) (some 63);have hc:(cutD ns (some 17) (some 63)).length<=46:=by
  show ((ns.drop _).take _).length<=46;rw[z0W,z18];have:HT.sIx ns.length 0 (some 17)≥min ns.length 17:=by
   show _<=_;simp[HT.sIx];omega
  omega
 have c8:Ah [.lst (ns.map .int),.int 8]=some (.int (ns.getD 8 0)):=G5 ns 8;obtain⟨x,hx⟩:∃ x:Nat,ns.getD 8 0%4=(x:Int):=⟨(ns.getD 8 0%4).toNat,by omega⟩;have em:=Ej (ns.getD 8 0) 4 (by decide);rw[hx] at em;have il:inF false (.int (x:Int)) (.lst [.int 1,.int 2])=_:=U3 x [1,2];generalize hal:([1,2].any λ t=>decide (t=x))=al at il;have ha:al=true->ns.getD 8 0%4=1∨ns.getD 8 0%4=2:=λ z=>by
  rw[<-hal] at z;simp at z;rw[hx];omega
 have wp:runM 16 1 Y7 [.lst (ns.map .int)] [] λ d' _=>d'=.bl true:=by
  refine⟨rfl,?_⟩;show Y7 [.fz (.lst (ns.map .int)),.un,.un,.un,.un,.un,.un,.un,.un,.un,.un,.un,.un,.un,.un,.un] [] _;refine Hj as ?_;refine Hj (ρ':=[.fz (.lst (ns.map .int)),.fz (wd W),.fz (wd V),.fz (lN os),.fz (wob W),.un,.un,.un,.un,.un,.un,.un,.un,.un,.un,.un]) (by rw[R4,mk1,M4];rfl) ?_;refine Hj (ρ':=[.fz (.lst (ns.map .int)),.fz (wd W),.fz (wd V),.fz (lN os),.fz (wob W),.fz (wob V),.un,.un,.un,.un,.un,.un,.un,.un,.un,.un]) (by rw[R4,mk2,M4];rfl) ?_;refine Hj (ρ':=[.fz (.lst (ns.map .int)),.fz (wd W),.fz (wd V),.fz (lN os),.fz (wob W),.fz (wob V),.fz (.lst ((cutD ns (some 17) (some 63)).map .int)),.un,.un,.un,.un,.un,.un,.un,.un,.un]) (by simp only[cK,sl]) ?_;refine Hj (ρ':=[.fz (.lst (ns.map .int)),.fz (wd W),.fz (wd V),.fz (lN os),.fz (wob W),.fz (wob V),.fz (.lst ((cutD ns (some 17) (some 63)).map .int)),.fz (.bl al),.un,.un,.un,.un,.un,.un,.un,.un]) (by simp only[ciK,c8,em,il]) ?_;refine Hj (ρ':=[.fz (.lst (ns.map .int)),.fz (wd W),.fz (wd V),.fz (lN os),.fz (wob W),.fz (wob V),.fz (.lst ((cutD ns (some 17) (some 63)).map .int)),.fz (.bl al),.fz (.int 0),.un,.un,.un,.un,.un,.un,.un]) (by simp only[cK]) ?_;refine Hj (ρ':=[.fz (.lst (ns.map .int)),.fz (wd W),.fz (wd V),.fz (lN os),.fz (wob W),.fz (wob V),.fz (.lst ((cutD ns (some 17) (some 63)).map .int)),.fz (.bl al),.fz (.int 0),.fz (.int 0),.un,.un,.un,.un,.un,.un]) (by simp only[cK]) ?_;refine Zf ns _ hc W V os _ h al ha _ (λ ρ μ=>?_) 60 0 0 .un .un .un .un .un .un [] (by omega);exact⟨_,rfl,rfl⟩
 obtain⟨d,h1,h2⟩:=Y6 (P:=lr) wp rfl;rw[show V8 [.lst (ns.map .int)]=some d from h1,show d=.bl true from h2]
end K32
end
open PySem PySem.W PyProof.Rows
theorem L2.head_at {r:OpenRow}{q:Program}{d:DefRec}{kwd:List (Str×Expr)}{N:Nat}(H:Hook)
  (l1:LeftO r.prog q loose (λ s=>xlAt q [] s&&recOk r.records s) H.obs H.val N)
  (e1:defOf q r.name=some (d,kwd)) (e2:r.prog.theDef r.name=some (d.params,d.body,d.scope)) (e3:kwWritten? d.params.kwonlyargs d.params.kw_defaults=some kwd)
  (e4:(!r.writes||r.records.isEmpty)=true) (e5:r.wellSaid=true) (e6:(chainsOk q&&opensWell r.prog&&(frees r.toRowW&&r.within.isEmpty))=true) (e7:r.prog.bare) (e8:r.toRowW.promised)
  (e9:WalkO q loose (XL q []) H.says r.toRowW d kwd λ f vs=>PySem.call f vs):r.Holds:=
 holds_open (XP:=XL q []) l1 H.of H.keeps (λ s e=>xl_of s (Bool.and_eq_true_iff.mp e).1) XL.keeps e1 e2 e3 (λ _ e=>recFacts_of (Bool.and_eq_true_iff.mp e).2) e4 e5 e6 e7 e8 e9
set_option maxHeartbeats 0 in
theorem PySem.Challenge.cw_twinrounds_k32_matchings_walk_holds : PySem.Challenge.rw_twinrounds_k32_matchings_walk.Holds := by
 w_on;o_law;refine L2.head_at (q:=K32.vw) (loose:=[]) (N:=6000) K32.hook K32.look (by rfl) (by rfl) (by rfl) (by rfl) (by assumption) (by decide +kernel) ⟨rfl,rfl,rfl,rfl,rfl,by decide +kernel⟩ ?_ ?_
 ·w_witness2
 unfold K32.hook
 k_fill
 refine L2.iR (l:=PySem.Challenge.rw_twinrounds_k32_matchings_walk) (n:=63) (k:=15) (x:="_law_script") (CX:=λ _=>L2.CX0) (sp:=λ w=>K32.lz _) rfl (by decide) rfl ⟨rfl,by decide,by decide⟩ (λ w h Y=>PySem.W.kIn_of Y) ?F (λ _ _ a ns hl _ hS=>⟨a,ns,rfl,hS,hl,λ _=>rfl⟩) λ _ _ _ _ _ z=>z
 case F=>
  intro w mg fa h KX G hmg;have TT:∃ C_World:Addr,∃ T:K32.Tx (K32.gx (L2.KOf KX) C_World) mg,∀ (s:Shared) (u:Value),BindsTo s T.x_law.fd ⟨[u],[]⟩ [("_law_script",u)]:=by
   dsimp only [L2.KOf];refine' ⟨_,{ C_World:=_,gc_World:=PV.o7,cl_World:=(PV.cls KX ?pg_World ?hd_World ?po_World ?sa_World :),mC_World:=PySem.W.mg_of KX G ?aC_World,x__law_trimmed:=(PV.dx KX G ?a0 ?l0 ?c0 ?k0 ?b0 :),x__law_cell:=(PV.dx KX G ?a1 ?l1 ?c1 ?k1 ?b1 :),x__law_order:=(PV.dx KX G ?a2 ?l2 ?c2 ?k2 ?b2 :),x__law_copied:=(PV.dx KX G ?a3 ?l3 ?c3 ?k3 ?b3 :),x__law_words:=(PV.dx KX G ?a4 ?l4 ?c4 ?k4 ?b4 :),x__law_bits:=(PV.dx KX G ?a5 ?l5 ?c5 ?k5 ?b5 :),x__law_world:=(PV.dx KX G ?a6 ?l6 ?c6 ?k6 ?b6 :),x__law_turned:=(PV.dx KX G ?a7 ?l7 ?c7 ?k7 ?b7 :),x__law_other:=(PV.dx KX G ?a8 ?l8 ?c8 ?k8 ?b8 :),x__law_two:=(PV.dx KX G ?a9 ?l9 ?c9 ?k9 ?b9 :),x_refuse_above:=(PV.dx KX G ?a10 ?l10 ?c10 ?k10 ?b10 :),x_refuse_no_thing:=(PV.dx KX G ?a11 ?l11 ?c11 ?k11 ?b11 :),x_kept_things:=(PV.dx KX G ?a12 ?l12 ?c12 ?k12 ?b12 :),x_kept_pairs:=(PV.dx KX G ?a13 ?l13 ?c13 ?k13 ?b13 :),x_is_word:=(PV.dx KX G ?a14 ?l14 ?c14 ?k14 ?b14 :),x_World___init__:=(PV.ix KX ?mk_World ?kc_World ?a15 ?i15 ?l15 ?c15 ?k15 ?b15 :),x__law_pairs:=(PV.dx KX G ?a16 ?l16 ?c16 ?k16 ?b16 :),x_World_mark_words:=(PV.mx KX ?a17 ?i17 ?l17 ?c17 ?k17 ?b17 :),x_World_tie_words:=(PV.mx KX ?a18 ?i18 ?l18 ?c18 ?k18 ?b18 :),x_refuse_unlike:=(PV.dx KX G ?a19 ?l19 ?c19 ?k19 ?b19 :),x_refuse_strange_pairs:=(PV.dx KX G ?a20 ?l20 ?c20 ?k20 ?b20 :),x_bear_the_same:=(PV.dx KX G ?a21 ?l21 ?c21 ?k21 ?b21 :),x_lead_the_same:=(PV.dx KX G ?a22 ?l22 ?c22 ?k22 ?b22 :),x_go_together:=(PV.dx KX G ?a23 ?l23 ?c23 ?k23 ?b23 :),x_fits_with:=(PV.dx KX G ?a24 ?l24 ?c24 ?k24 ?b24 :),x_completed:=(PV.dx KX G ?a25 ?l25 ?c25 ?k25 ?b25 :),x_matching:=(PV.dx KX G ?a26 ?l26 ?c26 ?k26 ?b26 :),x__law_facts:=(PV.dx KX G ?a27 ?l27 ?c27 ?k27 ?b27 :),x__law_fits:=(PV.dx KX G ?a28 ?l28 ?c28 ?k28 ?b28 :),x__law_good:=(PV.dx KX G ?a29 ?l29 ?c29 ?k29 ?b29 :),x_law:=(PV.dx KX G ?a30 ?l30 ?c30 ?k30 ?b30 :),fl_size:=(PV.XD KX (PV.cls KX ?pg_World ?hd_World ?po_World ?sa_World) ?n_World_size :),fl_marked:=(PV.XD KX (PV.cls KX ?pg_World ?hd_World ?po_World ?sa_World) ?n_World_marked :),fl_tied:=(PV.XD KX (PV.cls KX ?pg_World ?hd_World ?po_World ?sa_World) ?n_World_tied :),z_all:=z17 KX G ?z_all,z_bool:=z17 KX G ?z_bool,z_int:=z17 KX G ?z_int,z_isinstance:=z17 KX G ?z_isinstance,z_len:=z17 KX G ?z_len,z_list:=z17 KX G ?z_list,z_range:=z17 KX G ?z_range,z_reversed:=z17 KX G ?z_reversed,z_sorted:=z17 KX G ?z_sorted,s_MOST_LETTERS:=(PV.sx (f:=(.int 8)) KX G ?a_MOST_LETTERS :),s_LETTERS:=(PV.sx (f:=(.str "abcdefghijklmnopqrstuvwxyz")) KX G ?a_LETTERS :),s_MOST_THINGS:=(PV.sx (f:=(.int 5)) KX G ?a_MOST_THINGS :),s_MOST_WORDS:=(PV.sx (f:=(.int 3)) KX G ?a_MOST_WORDS :),c_KEPT_TEXTS:=(PV.kx (xs:=["not","and","or","some","all"]) KX G ?a_KEPT_TEXTS ?l_KEPT_TEXTS ?h_KEPT_TEXTS ?v_KEPT_TEXTS :) },?bt⟩
   case aC_World | pg_World | hd_World | po_World | sa_World | mk_World | kc_World | n_World_size | n_World_marked | n_World_tied | a0 | l0 | c0 | k0 | a1 | l1 | c1 | k1 | a2 | l2 | c2 | k2 | a3 | l3 | c3 | k3 | a4 | l4 | c4 | k4 | a5 | l5 | c5 | k5 | a6 | l6 | c6 | k6 | a7 | l7 | c7 | k7 | a8 | l8 | c8 | k8 | a9 | l9 | c9 | k9 | a10 | l10 | c10 | k10 | a11 | l11 | c11 | k11 | a12 | l12 | c12 | k12 | a13 | l13 | c13 | k13 | a14 | l14 | c14 | k14 | a15 | i15 | l15 | c15 | k15 | a16 | l16 | c16 | k16 | a17 | i17 | l17 | c17 | k17 | a18 | i18 | l18 | c18 | k18 | a19 | l19 | c19 | k19 | a20 | l20 | c20 | k20 | a21 | l21 | c21 | k21 | a22 | l22 | c22 | k22 | a23 | l23 | c23 | k23 | a24 | l24 | c24 | k24 | a25 | l25 | c25 | k25 | a26 | l26 | c26 | k26 | a27 | l27 | c27 | k27 | a28 | l28 | c28 | k28 | a29 | l29 | c29 | k29 | a30 | l30 | c30 | k30 | z_all | z_bool | z_int | z_isinstance | z_len | z_list | z_range | z_reversed | z_sorted | a_MOST_LETTERS | a_LETTERS | a_MOST_THINGS | a_MOST_WORDS | a_KEPT_TEXTS | l_KEPT_TEXTS=>k_is
   case b14 | b17 | b18 | b30=>exact λ _ _ _ _ _ _ us hl=>by (obtain⟨_,rfl⟩:=PV.lR hl;rfl)
   case b0 | b1 | b2 | b3 | b4 | b5 | b6 | b7 | b9 | b10 | b11 | b12 | b13 | b19=>exact λ _ _ _ _ _ _ us hl=>by (obtain⟨_,_,rfl⟩:=PV.lU hl;rfl)
   case b20 | b21 | b26 | b27 | b28=>exact λ _ _ _ _ _ _ us hl=>by (obtain⟨_,_,_,rfl⟩:=PV.lV hl;rfl)
   case b8 | b15 | b16 | b22 | b23 | b24 | b25 | b29=>exact λ _ _ _ _ _ _ us hl=>by (obtain⟨_,_,_,_,rfl⟩:=PV.q_ hl;rfl)
   case h_KEPT_TEXTS=>decide
   case v_KEPT_TEXTS=>exact .cons ⟨_,rfl⟩ (.cons ⟨_,rfl⟩ (.cons ⟨_,rfl⟩ (.cons ⟨_,rfl⟩ (.cons ⟨_,rfl⟩ (.nil)))))
   case bt=>exact λ s u=>.of_eq rfl
  obtain⟨C_World,T,e1⟩:=TT;have e0:fa=T.x_law.f:=by
   have q:=hmg.symm.trans T.x_law.m;cases q;rfl
  subst e0;exact⟨T.x_law.fd,e1,λ base kb nb=>(K32.pC (w:=w) (base:=base) T).imp (K32.pD K32.gZ)⟩
