import PyProof.Rows.All
import Wide.All
import OpenK.AllK
import Wide.FinOn
import Lean
import PyProof.EqAt
import PyProof.EqKinds
import PyProof.TupleCall
import PyProof.DictWalks
import PyProof.DictItemsLoops
import KE.KPairComp
import KE.KDictList
import PyProof.StrWalks
import PyProof.ConsumeWalk
import PyProof.DictUpdate
import PySem.Challenge.RW_twinrounds_k17_whole_is_so
set_option Elab.async false
set_option linter.all false
set_option maxRecDepth 100000
set_option maxHeartbeats 4000000
section
open PySem PySem.W PyProof.Rows
def L2.viewAt (p : Program) (ks : List Nat) : Program:={ p with main:={ p.main with body:=ks.filterMap fun i => p.main.body[i]? } }
def K17.vw : Program:=L2.viewAt PySem.Challenge.pw_twinrounds_k17_whole_is_so [0,2,3,4,5,6,8,9,10,11,12,13,14,15,16,17,18,20,21,22,23,24,25,26,27,28,29,30,31,32,33,36,37,38,39,40,41,42,43,44,45,46,47,48]
set_option maxRecDepth 100000 in
set_option maxHeartbeats 0 in
theorem K17.look1 : ∀ w : World,(openEnds treeTable (PySem.Challenge.rw_twinrounds_k17_whole_is_so.row).prog w 6400).map (fun s => openSeen K17.vw [Str.ofString "is_so"] (importedModules (PySem.Challenge.rw_twinrounds_k17_whole_is_so.row).prog.main.body) (fun s => xlAt K17.vw [] s && recOk (PySem.Challenge.rw_twinrounds_k17_whole_is_so.row).records s) true s) = some (openGood K17.vw [Str.ofString "is_so"]):=by
 intro w; kernel_rfl
section
local macro_rules | `(tactic| o_head $H) => `(tactic| exact ‹∀ P : Prop,P› _)
set_option maxRecDepth 100000 in
set_option maxHeartbeats 0 in
theorem K17.side (hole : ∀ P : Prop,P) : (PySem.Challenge.rw_twinrounds_k17_whole_is_so.row).Holds:=by
 k_head
end
def K17.as : List Addr:=[2,3,15,17,18,20,21,22,29,30,31,32,35,42,44,45,47,48,49,50,51,54,61,63,64,66,67,68,69,70,73,80,82,83,85,86,87,88,89,92,99,101,102,104,105,106,107,108,111,112,115,116,117,119,120,122,123,124,126,127,129,130,131,133,134,136,137,138,140,141,143,144,152,154,155,157,158,159,161,162,164,165,166,168,169,171,172,173,175,176,178,179,180,182,183,185,186,187,188,189,190,191,194,195,196,198,199,201,202,203,205,206,208,209,210,213,214,215,217,218,220,221,222,224,225,227,228,229,231,232,234,235,236,238,239,241,242,243,246,247,248,250,251,253,254,255,258,259,260,263,264,265,267,268,270,271,272,273,276,277,278,280,281,283,284,285,288,289,290,293,294,295,298,299,300,302,303,305,306,307,309,310,312,313,314,316,317,319,320,321,323,324,326,327,328,331,332,333,335,336,338,339,340,343,344,345,347,348,350,351,352,354,355,357,358]
set_option maxRecDepth 100000 in
set_option maxHeartbeats 0 in
theorem K17.as_ok : ∀ P,K17.as = (K17.side.heap_1 P).map (·.1):=fun _ => by kernel_rfl
noncomputable def K17.hook : Hook:=kHook K17.side.heap_1 K17.as K17.as_ok
set_option maxRecDepth 100000 in
set_option maxHeartbeats 0 in
theorem K17.look2 : ∀ w : World,(openEnds treeTable (PySem.Challenge.rw_twinrounds_k17_whole_is_so.row).prog w 6400).map K17.hook.obs = some (K17.hook.val w):=by
 intro w; kernel_rfl
end
namespace L2
open PySem PySem.Spec PyProof.Rows
abbrev Key:=Sum Int Str
def Qy : Key->Value->Bool
 | .inl k,v => Value.isInt k v
 | .inr x,v => Value.isStrOf x v
def keyH (w : World) : Key->Int
 | .inl k => hashInt k
 | .inr x => hashStr w x
theorem B_ : ∀ {k : Key} {v : Value},Qy k v = true->(∃ i t,k = Sum.inl i/\v = Value.int i t) ∨ (∃ x t,k = Sum.inr x/\v = Value.str x t)
 | .inl i,v,h => by
  obtain ⟨t,e⟩:=Value.isInt_shape (k:=i) (v:=v) h
  exact .inl ⟨i,t,rfl,e⟩
 | .inr x,v,h => by
  obtain ⟨t,e⟩:=Value.isStrOf_shape (x:=x) (v:=v) h
  exact .inr ⟨x,t,rfl,e⟩
theorem YX (i : Int) (t : Tok) : Qy (.inl i) (.int i t) = true:=by simp [Qy,Value.isInt]
theorem YZ (x : Str) (t : Tok) : Qy (.inr x) (.str x t) = true:=by simp [Qy,Value.isStrOf]
theorem lK (a b : Int) : decide ((Sum.inl a : Key) = Sum.inl b) = (a == b):=by
 by_cases e : a = b
 ·subst e; simp
 ·have h : ¬ (Sum.inl a : Key) = Sum.inl b:=fun q => e (Sum.inl.inj q)
  rw [decide_eq_false h]
  exact (beq_eq_false_iff_ne.mpr e).symm
theorem lL (a b : Str) : decide ((Sum.inr a : Key) = Sum.inr b) = decide (a = b):=by
 by_cases e : a = b
 ·subst e; simp
 ·have h : ¬ (Sum.inr a : Key) = Sum.inr b:=fun q => e (Sum.inr.inj q)
  rw [decide_eq_false h,decide_eq_false e]
theorem lN (a : Int) (b : Str) : decide ((Sum.inl a : Key) = Sum.inr b) = false:=decide_eq_false (fun q => nomatch q)
theorem lO (a : Str) (b : Int) : decide ((Sum.inr a : Key) = Sum.inl b) = false:=decide_eq_false (fun q => nomatch q)
def Ax (prog : Program) (w : World) : PySem.KeyKind prog w Key where
 is:=Qy
 hash:=keyH w
 inj:=fun v a b ha hb => by
  rcases B_ ha with ⟨i,t,rfl,rfl⟩ | ⟨x,t,rfl,rfl⟩
  ·rcases B_ hb with ⟨j,u,rfl,e⟩ | ⟨y,u,rfl,e⟩
   ·injection e with e1 _; rw [e1]
   ·exact nomatch e
  ·rcases B_ hb with ⟨j,u,rfl,e⟩ | ⟨y,u,rfl,e⟩
   ·exact nomatch e
   ·injection e with e1 _; rw [e1]
 byValue:=fun k v h => by
  rcases B_ h with ⟨i,t,rfl,rfl⟩ | ⟨x,t,rfl,rfl⟩ <;> rfl
 pyHash:=fun hv h => by
  rcases B_ hv with ⟨i,t,rfl,rfl⟩ | ⟨x,t,rfl,rfl⟩
  ·exact wpAny_pyHash_int h
  ·exact wpAny_pyHash_str h
 eqBool:=fun hu hv h => by
  rcases B_ hu with ⟨i,t,rfl,rfl⟩ | ⟨x,t,rfl,rfl⟩
  ·rcases B_ hv with ⟨j,u,rfl,rfl⟩ | ⟨y,u,rfl,rfl⟩
   ·rw [lK] at h; exact wpAny_eqBool_int h
   ·rw [lN] at h; exact SeqAt.EqAt.int_str i t y u _ _ _ _ h
  ·rcases B_ hv with ⟨j,u,rfl,rfl⟩ | ⟨y,u,rfl,rfl⟩
   ·rw [lO] at h; exact SeqAt.EqAt.str_int x t j u _ _ _ _ h
   ·rw [lL] at h; exact wpAny_eqBool_str h
 «strs»:=fun k x t v h => by
  rcases B_ h with ⟨i,u,rfl,e⟩ | ⟨y,u,rfl,e⟩
  ·exact nomatch e
  ·injection e with e1 _
   subst e1
   cases v <;> rfl
theorem Tf (prog : Program) (w : World) (i : Int) (t : Tok) : (Ax prog w).is (.inl i) (.int i t) = true:=YX i t
theorem Tg (prog : Program) (w : World) (x : Str) (t : Tok) : (Ax prog w).is (.inr x) (.str x t) = true:=YZ x t
end L2
namespace L2
open PySem PySem.Spec PyProof.Rows
inductive V where
 | non | bl (b : Bool) | int (i : Int) | str (x : Str) | byt (b : Array UInt8) | flt (b : UInt64) | ref (a : Addr) | ty (n : String)
 deriving DecidableEq
def RelV : V->Value->Prop
 | .non,u => u = Value.none
 | .bl b,u => u = Value.bool b
 | .int i,u => ∃ t,u = Value.int i t
 | .str x,u => ∃ t,u = Value.str x t
 | .byt b,u => ∃ t,u = Value.bytes b t
 | .flt b,u => ∃ t,u = Value.float b t
 | .ref a,u => u = Value.ref a
 | .ty n,u => u = Value.type n
abbrev Vals : List V->List Value->Prop:=Paired RelV
theorem Vals.length {xs : List V} {us : List Value} (r : Vals xs us) : xs.length = us.length:=Paired.length r
theorem Vals.get : ∀ {xs : List V} {us : List Value} {i : Nat} {x : V},Vals xs us->xs[i]? = some x->∃ u,us[i]? = some u/\RelV x u
 | _,_,_,_,.nil,e => by simp at e
 | _,_,0,_,.cons r _,e => by simp at e; subst e; exact ⟨_,rfl,r⟩
 | _,_,i + 1,x,.cons _ t,e => by
  obtain ⟨u,h1,h2⟩:=Vals.get (i:=i) (x:=x) t (by simpa using e)
  exact ⟨u,by simpa using h1,h2⟩
theorem Vals.set {x : V} {u : Value} (r : RelV x u) : ∀ {xs : List V} {us : List Value} (i : Nat),Vals xs us->Vals (xs.set i x) (us.set i u)
 | _,_,_,.nil => .nil
 | _,_,0,.cons _ t => .cons r t
 | _,_,i + 1,.cons q t => .cons q (Vals.set r i t)
theorem Vals.append : ∀ {xs ys : List V} {us ws : List Value},Vals xs us->Vals ys ws->Vals (xs ++ ys) (us ++ ws)
 | _,_,_,_,.nil,s => s
 | _,_,_,_,.cons r t,s => .cons r (Vals.append t s)
theorem Vals.take : ∀ {xs : List V} {us : List Value} (n : Nat),Vals xs us->Vals (xs.take n) (us.take n)
 | _,_,0,_ => .nil
 | _,_,_ + 1,.nil => .nil
 | _,_,n + 1,.cons r t => .cons r (Vals.take n t)
theorem Vals.drop : ∀ {xs : List V} {us : List Value} (n : Nat),Vals xs us->Vals (xs.drop n) (us.drop n)
 | _,_,0,r => r
 | _,_,_ + 1,.nil => .nil
 | _,_,n + 1,.cons _ t => Vals.drop n t
def RelO : Option V->Option Value->Prop
 | some v,some u => RelV v u
 | none,none => True
 | _,_ => False
def KV {κ : Type} : List (κ × V)->List (κ × Value)->Prop:=Paired fun (p : κ × V) (q : κ × Value) => p.1 = q.1/\RelV p.2 q.2
def kV : Key->V
 | .inl i => .int i
 | .inr x => .str x
inductive HO where
 | lst (xs : List V)
 | tup (xs : List V)
 | dK (kvs : List (Key × V)) | dT (kvs : List (List Key × V))
 | set (S : Int->Bool) (n : Nat)
 | ins (C dx : Addr) (fs : List (Str × V))
 | own (x : Addr)
 | xd (fs : List (Str × V))
 | met (f x : Addr)
 | rng (lo hi : Int)
 | frz (o : Obj) (u : HO)
 | tbl (ps : Array Value)
 | ext (φ : Heap->Prop)
abbrev Hp:=Addr->Option HO
def upd (H : Hp) (a : Addr) (o : HO) : Hp:=fun b => if b = a then some o else H b
theorem Aj {H : Hp} {a : Addr} {o : HO} : upd H a o a = some o:=by unfold upd; rw [if_pos rfl]
theorem Al {H : Hp} {a b : Addr} {o : HO} (h : b ≠ a) : upd H a o b = H b:=by unfold upd; rw [if_neg h]
theorem jY {H : Hp} {a b : Addr} {o u : HO} (h : H a = some o) (h' : H b = some u) (d : o ≠ u) : a ≠ b:=by
 intro e; subst e; rw [h] at h'; exact d (Option.some.inj h')
theorem Ck {H : Hp} {a b : Addr} {o : HO} (h : H a = some o) (h' : H b = none) : a ≠ b:=by
 intro e; subst e; rw [h] at h'; cases h'
section
variable (P : Program) (w : World)
def Bj (H : Hp) (h : Heap) (a : Addr) : HO->Prop
  | .lst xs => xs.length<=sizeLine/\∃ (its : List Value) (n : Nat),Vals xs its/\h.get? a = some { cls:=.type "list",data:=.seq its.toArray n }
  | .tup xs => xs.length<=sizeLine/\∃ its : List Value,Vals xs its/\IsTup h a its.toArray
  | .dK kvs => kvs.length<=sizeLine/\(a == sysModules) = false/\∃ vs,KV kvs vs/\h.DictOf (Ax P w) a vs
  | .dT kvs => kvs.length<=sizeLine/\(a == sysModules) = false/\∃ xs : List (List Key × Addr × Value),
      Paired (fun (p : List Key × V) (q : List Key × Addr × Value) => p.1 = q.1/\H q.2.1 = some (.tup (p.1.map kV))/\RelV p.2 q.2.2) kvs xs ∧
      ∃ o es ep,h.get? a = some o/\o.ExactDict/\o.data = .dict es ep/\es.toList = xs.map (entryOfKey (tupleKind (Ax P w)))/\(xs.map (·.1)).Nodup
  | .set S n => h.SetOf (intKind P w) a S n
  | .ins C dx fs => H dx = some (.own a)/\fs.length<=1000/\dx ≠ a/\h.get? a = some (PySem.W.instObj C dx) ∧
      ∃ mA,h.Ns1 dx mA/\(∀ f,RelO (fs.lookup f) (mA f))/\PySem.Within mA (fs.map (·.1))
  | .own _ => ∃ o,h.get? a = some o
  | .xd fs => ∃ mA,h.Ns1 a mA/\∀ f,RelO (fs.lookup f) (mA f)
  | .rng lo hi => ∃ t u v,h.get? a = some { cls:=.type "range",data:=.fields #[.int lo t,.int hi u,.int 1 v] }
  | .frz o u => h.get? a = some o/\Bj H h a u
  | .tbl ps => h.get? a = some { cls:=.none,data:=.fields ps }
  | .met f x => h.get? a = some (PySem.W.methodObj (.ref f) (.ref x))
  | .ext φ => φ h/\(∃ o,h.get? a = some o)/\∀ h1 h2 : Heap,φ h1->(∀ o,h1.get? a = some o->h2.get? a = some o)->φ h2
def HOk (H : Hp) (h : Heap) : Prop:=∀ a o,H a = some o->Bj P w H h a o
end
section
variable {P : Program} {w : World} {H H' : Hp} {h h' : Heap} {a : Addr} {o : HO}
theorem Bj.lt (x : Bj P w H h a o) : a < h.objs.size:=by
 cases o with
 | lst xs => obtain ⟨_,_,_,_,e⟩:=x; exact Heap.lt_size e
 | tup xs => obtain ⟨_,_,_,p⟩:=x; exact p.lt
 | dK kvs => obtain ⟨_,_,_,_,o,_,_,e,_⟩:=x; exact Heap.lt_size e
 | dT kvs => obtain ⟨_,_,_,_,o,_,_,e,_⟩:=x; exact Heap.lt_size e
 | set S n => obtain ⟨o,_,_,_,e,_⟩:=x; exact Heap.lt_size e
 | ins C dx fs => obtain ⟨_,_,_,e,_⟩:=x; exact Heap.lt_size e
 | own y => obtain ⟨_,e⟩:=x; exact Heap.lt_size e
 | xd fs => obtain ⟨_,⟨_,_,_,e,_⟩,_⟩:=x; exact Heap.lt_size e
 | rng lo hi => obtain ⟨_,_,_,e⟩:=x; exact Heap.lt_size e
 | frz ob u => obtain ⟨e,_⟩:=x; exact Heap.lt_size e
 | tbl ps => exact Heap.lt_size (show h.get? a = some _ from x)
 | met f y => exact Heap.lt_size (show h.get? a = some _ from x)
 | ext φ => obtain ⟨_,⟨_,e⟩,_⟩:=x; exact Heap.lt_size e
theorem Paired.mapP {α β : Type} {F G : α->β->Prop} : ∀ {l₁ : List α} {l₂ : List β},Paired F l₁ l₂->(∀ a b,F a b->G a b)->Paired G l₁ l₂
 | _,_,.nil,_ => .nil
 | _,_,.cons r t,f => .cons (f _ _ r) (Paired.mapP t f)
theorem Bj.stay (x : Bj P w H h a o) (k : ∀ b u,(b = a ∨ H b = some (.own a))->h.get? b = some u->h'.get? b = some u)
  (ho : ∀ b,H b = some (.own a)->H' b = some (.own a)) (ht : ∀ b xs,H b = some (.tup xs)->H' b = some (.tup xs)) : Bj P w H' h' a o:=by
 induction o with
 | lst xs => obtain ⟨z,its,n,r,e⟩:=x; exact ⟨z,its,n,r,k _ _ (.inl rfl) e⟩
 | tup xs => obtain ⟨z,its,r,ob,e,c⟩:=x; exact ⟨z,its,r,ob,k _ _ (.inl rfl) e,c⟩
 | dK kvs => obtain ⟨z,y,vs,r,ob,es,ep,e,c⟩:=x; exact ⟨z,y,vs,r,ob,es,ep,k _ _ (.inl rfl) e,c⟩
 | dT kvs =>
  obtain ⟨z,y,xs,r,ob,es,ep,e,c⟩:=x
  exact ⟨z,y,xs,Paired.mapP r fun p q z => ⟨z.1,ht _ _ z.2.1,z.2.2⟩,ob,es,ep,k _ _ (.inl rfl) e,c⟩
 | set S n => obtain ⟨ob,es,ep,t,e,c⟩:=x; exact ⟨ob,es,ep,t,k _ _ (.inl rfl) e,c⟩
 | ins C dx fs =>
  obtain ⟨d,z,ne,e,mA,⟨od,es,ep,e2,c⟩,r⟩:=x
  exact ⟨ho _ d,z,ne,k _ _ (.inl rfl) e,mA,⟨od,es,ep,k _ _ (.inr d) e2,c⟩,r⟩
 | own y => obtain ⟨ob,e⟩:=x; exact ⟨ob,k _ _ (.inl rfl) e⟩
 | xd fs => obtain ⟨mA,⟨od,es,ep,e,c⟩,r⟩:=x; exact ⟨mA,⟨od,es,ep,k _ _ (.inl rfl) e,c⟩,r⟩
 | rng lo hi => obtain ⟨t,u,v,e⟩:=x; exact ⟨t,u,v,k _ _ (.inl rfl) e⟩
 | frz ob u ih => obtain ⟨e,q⟩:=x; exact ⟨k _ _ (.inl rfl) e,ih q⟩
 | tbl ps =>
  have e : h.get? a = some { cls:=.none,data:=.fields ps }:=x
  show h'.get? a = some { cls:=.none,data:=.fields ps }
  exact k a _ (.inl rfl) e
 | met f y =>
  have e : h.get? a = some (PySem.W.methodObj (.ref f) (.ref y)):=x
  show h'.get? a = some (PySem.W.methodObj (.ref f) (.ref y))
  exact k a _ (.inl rfl) e
 | ext φ => obtain ⟨p,⟨o,e⟩,st⟩:=x; exact ⟨st _ _ p fun o q => k _ _ (.inl rfl) q,⟨o,k _ _ (.inl rfl) e⟩,st⟩
theorem HOk.lt (x : HOk P w H h) (e : H a = some o) : a < h.objs.size:=(x a o e).lt
theorem HOk.fresh (x : HOk P w H h) (e : h.objs.size<=a) : H a = none:=by
 cases q : H a with
 | none => rfl
 | some u => exact absurd (Nat.lt_of_lt_of_le (x.lt q) e) (Nat.lt_irrefl _)
theorem HOk.kept (x : HOk P w H h) (k : ∀ b u,h.get? b = some u->h'.get? b = some u) : HOk P w H h':=fun a o e =>
 (x a o e).stay (fun b u _ q => k b u q) (fun _ q => q) fun _ _ q => q
theorem HOk.laid (x : HOk P w H h) (k : ∀ b u,h.get? b = some u->h'.get? b = some u) (hp : h.objs.size<=a) (new : Bj P w (upd H a o) h' a o) : HOk P w (upd H a o) h':=fun b u e => by
 have hn:=x.fresh hp
 by_cases hb : b = a
 ·subst hb; rw [Aj] at e; cases e; exact new
 ·rw [Al hb] at e
  exact (x b u e).stay (fun c v _ q => k c v q) (fun c q => by rw [Al (Ck q hn)]; exact q) fun c xs q => by rw [Al (Ck q hn)]; exact q
end
def Rd (H : Hp) (a : Addr) (u : HO) : Prop:=H a = some u ∨ ∃ o,H a = some (.frz o u)
theorem Rd.of {H : Hp} {a : Addr} {u : HO} (h : H a = some u) : Rd H a u:=.inl h
theorem Rd.ok {P : Program} {w : World} {H : Hp} {h : Heap} {a : Addr} {u : HO} (r : Rd H a u) (x : HOk P w H h) : Bj P w H h a u:=by
 rcases r with r | ⟨o,r⟩
 ·exact x a u r
 ·obtain ⟨_,q⟩:=x a _ r
  exact q
def Mut : Option HO->Prop
 | some (.lst _) => True
 | some (.dK _) => True
 | some (.dT _) => True
 | some (.set _ _) => True
 | some (.ins _ _ _) => True
 | some (.ext _) => True
 | _ => False
section
variable {P : Program} {w : World} {H : Hp} {h h' : Heap} {x e : Addr} {o' : HO}
theorem HOk.write (ok : HOk P w H h) (mu : Mut (H x)) (he : e = x ∨ H e = some (.own x)) (k : ∀ b u,b ≠ e->h.get? b = some u->h'.get? b = some u) (heo : ∃ u,h'.get? e = some u)
  (new : Bj P w (upd H x o') h' x o') : HOk P w (upd H x o') h':=fun b u q => by
 have nown : ∀ c y,H c = some (.own y)->c ≠ x:=fun c y r z => by subst z; rw [r] at mu; exact mu
 have ntup : ∀ c xs,H c = some (.tup xs)->c ≠ x:=fun c xs r z => by subst z; rw [r] at mu; exact mu
 by_cases hb : b = x
 ·subst hb; rw [Aj] at q; cases q; exact new
 ·rw [Al hb] at q
  by_cases hbe : b = e
  ·have q' : H b = some (.own x):=by
    rcases he with z | z
    ·exact absurd (hbe.trans z) hb
    ·rw [hbe]; exact z
   rw [q] at q'; cases q'
   obtain ⟨v,hv⟩:=heo
   exact ⟨v,by rw [hbe]; exact hv⟩
  ·refine (ok b u q).stay (fun c v hc r => k c v ?_ r) (fun c r => by rw [Al (nown c b r)]; exact r) fun c xs r => by rw [Al (ntup c xs r)]; exact r
   rcases hc with rfl | hc
   ·exact hbe
   ·rintro rfl
    rcases he with z | z
    ·exact nown c b hc z
    ·rw [hc] at z; cases z; exact hb rfl
end
structure Un (fs ex : List Addr) (H H' : Hp) (h h' : Heap) : Prop where
 keep : ∀ b o,h.get? b = some o->H b = none->b ∉ fs->b ∉ ex->h'.get? b = some o
 slot : ∀ b o,h.get? b = some o->H b = none->b ∈ fs->b ∉ ex->∃ sl,h'.get? b = some { o with slots:=sl }
 free : ∀ b o,h.get? b = some o->H b = none->b ∉ ex->H' b = none
 there : ∀ b o,h.get? b = some o->b ∉ ex->∃ o',h'.get? b = some o'
 tups : ∀ b xs,H b = some (.tup xs)->H' b = some (.tup xs)
 frzs : ∀ b o u,H b = some (.frz o u)->H' b = some (.frz o u)
 tbls : ∀ b ps,H b = some (.tbl ps)->∃ more,H' b = some (.tbl (ps ++ more))
section
variable {fs fs' ex ex' : List Addr} {H H1 H2 : Hp} {h h1 h2 h' : Heap} {a x e : Addr} {o : HO}
theorem Un.any (u : Un fs ex H H1 h h1) {b : Addr} {ob : Obj} (q : h.get? b = some ob) (n : H b = none) (hx : b ∉ ex) : ∃ sl,h1.get? b = some { ob with slots:=sl }:=by
 by_cases hb : b ∈ fs
 ·exact u.slot b ob q n hb hx
 ·exact ⟨ob.slots,u.keep b ob q n hb hx⟩
theorem Un.trans (a : Un fs ex H H1 h h1) (b : Un fs ex H1 H2 h1 h2) : Un fs ex H H2 h h2 where
 keep:=fun c ob q n hc hx => b.keep c ob (a.keep c ob q n hc hx) (a.free c ob q n hx) hc hx
 slot:=fun c ob q n hc hx => by
  obtain ⟨sl,e1⟩:=a.slot c ob q n hc hx
  obtain ⟨sl',e2⟩:=b.slot c _ e1 (a.free c ob q n hx) hc hx
  exact ⟨sl',e2⟩
 free:=fun c ob q n hx => by
  obtain ⟨o',e1⟩:=a.there c ob q hx
  exact b.free c o' e1 (a.free c ob q n hx) hx
 there:=fun c ob q hx => by
  obtain ⟨o',e1⟩:=a.there c ob q hx
  exact b.there c o' e1 hx
 tups:=fun c xs q => b.tups c xs (a.tups c xs q)
 frzs:=fun c ob xs q => b.frzs c ob xs (a.frzs c ob xs q)
 tbls:=fun c ps q => by
  obtain ⟨m1,e1⟩:=a.tbls c ps q
  obtain ⟨m2,e2⟩:=b.tbls c _ e1
  exact ⟨m1 ++ m2,by rw [e2,Array.append_assoc]⟩
theorem Un.kept (k : ∀ b u,h.get? b = some u->h'.get? b = some u) : Un fs ex H H h h':=
 ⟨fun b ob q _ _ _ => k b ob q,fun b ob q _ _ _ => ⟨ob.slots,k b ob q⟩,fun _ _ _ n _ => n,fun b ob q _ => ⟨ob,k b ob q⟩,fun _ _ q => q,fun _ _ _ q => q,fun _ ps q => ⟨#[],by rw [q]; simp⟩⟩
theorem Un.refl : Un fs ex H H h h:=Un.kept fun _ _ q => q
theorem Un.laid (k : ∀ b u,h.get? b = some u->h'.get? b = some u) (hp : h.objs.size<=a) (hn : H a = none) : Un fs ex H (upd H a o) h h' where
 keep:=fun b u q _ _ _ => k b u q
 slot:=fun b u q _ _ _ => ⟨u.slots,k b u q⟩
 free:=fun b u q n _ => by rw [Al (Nat.ne_of_lt (Nat.lt_of_lt_of_le (Heap.lt_size q) hp))]; exact n
 there:=fun b u q _ => ⟨u,k b u q⟩
 tups:=fun b xs q => by rw [Al (Ck q hn)]; exact q
 frzs:=fun b u xs q => by rw [Al (Ck q hn)]; exact q
 tbls:=fun b ps q => ⟨#[],by rw [Al (Ck q hn),q]; simp⟩
theorem Un.write (mu : Mut (H x)) (he : e = x ∨ H e = some (.own x)) (k : ∀ b u,b ≠ e->h.get? b = some u->h'.get? b = some u) (heo : ∃ u,h'.get? e = some u) : Un fs ex H (upd H x o) h h':=by
 have hx : ∀ b,H b = none->b ≠ x:=fun b n z => by subst z; rw [n] at mu; exact mu
 have hb : ∀ b,H b = none->b ≠ e:=fun b n z => by
  subst z
  rcases he with r | r
  ·exact hx b n r
  ·rw [n] at r; cases r
 have hm : ∀ b u,H b = some u->¬ Mut (some u)->b ≠ x:=fun b u q nm z => by subst z; rw [q] at mu; exact nm mu
 refine ⟨fun b u q n _ _ => k b u (hb b n) q,fun b u q n _ _ => ⟨u.slots,k b u (hb b n) q⟩,fun b u q n _ => by rw [Al (hx b n)]; exact n,fun b u q _ => ?_,
  fun b xs q => by rw [Al (hm b _ q fun z => z)]; exact q,fun b u xs q => by rw [Al (hm b _ q fun z => z)]; exact q,fun b ps q => ⟨#[],by rw [Al (hm b _ q fun z => z),q]; simp⟩⟩
 by_cases hbe : b = e
 ·subst hbe; exact heo
 ·exact ⟨u,k b u hbe q⟩
theorem Un.mono (u : Un fs ex H H1 h h1) (hs : ∀ b ∈ fs,b ∈ fs') (hx : ∀ b ∈ ex,b ∈ ex') : Un fs' ex' H H1 h h1:=
 ⟨fun b ob q n hb he => u.keep b ob q n (fun z => hb (hs b z)) fun z => he (hx b z),fun _ _ q n _ he => u.any q n fun z => he (hx _ z),fun b ob q n he => u.free b ob q n fun z => he (hx b z),fun b ob q he => u.there b ob q fun z => he (hx b z),u.tups,u.frzs,u.tbls⟩
end
def trk (h : Heap) (H : Hp) : List Addr:=(List.range h.objs.size).filter fun a => (H a).isSome
def hidT (h : Heap) (H : Hp) : Heap:=PySem.W.hideAll h (trk h H)
theorem Yb (h : Heap) (H : Hp) : (hidT h H).objs.size = h.objs.size:=PySem.W.hideAll_size _ _
theorem ZX {h : Heap} {H : Hp} {b : Addr} {o : Obj} (e : h.get? b = some o) (n : H b = none) : (hidT h H).get? b = some o:=
 PySem.W.hideAll_get _ e fun hm => by
  have q : (H b).isSome = true:=(List.mem_filter.mp hm).2
  rw [n] at q; simp at q
theorem fJ {h : Heap} {H : Hp} {b : Addr} {o : Obj} (e : (hidT h H).get? b = some o) : h.get? b = some o/\H b = none:=by
 have e' : h.get? b = some o:=PySem.W.of_hideAll (trk h H) e
 refine ⟨e',?_⟩
 cases q : H b with
 | none => rfl
 | some x =>
  have hm : b ∈ trk h H:=List.mem_filter.mpr ⟨List.mem_range.mpr (Heap.lt_size e'),by simp [q]⟩
  have z : (hidT h H).get? b = none:=PySem.W.hideAll_none (trk h H) hm
  rw [z] at e; cases e
def fK (g h : Heap) (L : Addr) : List (Addr × Obj):=(List.range h.objs.size).filterMap fun a => if a = L ∨ (g.get? a).isSome = true then none else (h.get? a).map fun o => (a,o)
def rest (g h : Heap) (L d : Addr) : List (Addr × Obj):=(fK g h L).filter fun p => decide (p.1 ≠ d)
end L2
namespace L2
open PySem PySem.Spec PyProof.Rows
structure Mod (K : PySem.W.Frag) (mg : Str->Option Value) (base : Heap) : Prop where
 kin : K.In base
 glob : base.Ns mainGlobals mg
 blt : ∃ mb,base.Ns builtinsNs mb/\∀ x : Str,x ≠ "__name__"->mb x = bootBuiltins x
 nolimit : base.NoLimit
structure Cx where
 prog : Program
 w : World
 K : PySem.W.Frag
 mg : Str->Option Value
 base : Heap
 A : Around
 N : List Str
 s₀ : Shared
 H₀ : Hp
 env : Env
 outer : List Env
 stack : List Env
 ex : List Addr
 fn : Str->Bool
 calm : Bool
 pn : List (Addr × Obj)
 xe : Value->Shared->Prop
def frs (l : List Env) : List Addr:=l.filterMap (·.frame)
abbrev Cx.fs (X : Cx) : List Addr:=frs X.outer
def Vis (sc : Scope) (x : Str) : Prop:=sc.names.lookup x = some .local ∨ sc.names.lookup x = some .cell ∨ sc.names.lookup x = some .free
def Loc (sc : Scope) (x : Str) : Prop:=sc.names.lookup x = some .local ∨ sc.names.lookup x = some .cell
def Look (env : Env) (h : Heap) (m : Str->Option Value) (x : Str) (u : Value) : Prop:=
 (env.kindOf x = some .local/\m x = some u) ∨ ((env.kindOf x = some .cell ∨ env.kindOf x = some .free)/\∃ c,env.cells.lookup x = some c/\h.IsCell c (some u))
structure Cx.Ok (X : Cx) : Prop where
 mod : Mod X.K X.mg X.base
 kind : X.env.scope.kind = .function
 glob : X.env.globals = mainGlobals
 blt : X.env.builtins = builtinsNs
 above : X.s₀.heap.objs.size<=X.env.locals
 inj : ∀ x y c,X.env.cells.lookup x = some c->X.env.cells.lookup y = some c->x = y
 has : ∀ x,(X.env.kindOf x = some .cell ∨ X.env.kindOf x = some .free)->∃ c,X.env.cells.lookup x = some c
 cab : ∀ x c,X.fn x = true->X.env.cells.lookup x = some c->X.s₀.heap.objs.size<=c
 hd : X.calm = true->X.A.handled = none
 frames : X.A.frames = some X.stack
 stk : X.stack = X.outer ∨ (X.stack = X.env :: X.outer/\X.env.frame = some X.env.locals)
 exf : ∀ b ∈ X.ex,b ≠ X.env.locals/\∀ x c,X.env.cells.lookup x = some c->c ≠ b
 bs : ∀ b o,X.base.get? b = some o->X.s₀.heap.get? b = some o/\X.H₀ b = none
 bsz : X.base.objs.size<=X.s₀.heap.objs.size
 noex : ∀ b o,X.base.get? b = some o->b ∉ X.ex
 exfs : ∀ b ∈ X.ex,b ∉ X.fs
 funs : X.s₀.heap.FunFrames X.base X.outer
 frf : ∀ b ∈ X.fs,X.H₀ b = none
structure Inv (X : Cx) (pins : List (Addr × Obj)) (σ : List (Option V)) (H : Hp) (s : Shared) : Prop where
 ok : X.Ok
 os : s.os = X.s₀.os
 bare : AllBare s.gens
 base : Un X.fs X.ex X.H₀ H X.s₀.heap s.heap
 loc : ∃ m,s.heap.Ns X.env.locals m/\∀ (i : Nat) (x : Str) (v : V),X.N[i]? = some x->σ[i]? = some (some v)->Vis X.env.scope x->∃ u,RelV v u/\Look X.env s.heap m x u
 cell : ∀ x c,X.env.cells.lookup x = some c->∃ v,s.heap.IsCell c v
 free : H X.env.locals = none
 freeC : ∀ x c,X.env.cells.lookup x = some c->H c = none
 pin : ∀ p ∈ X.pn ++ pins,s.heap.get? p.1 = some p.2/\H p.1 = none/\p.1 ≠ X.env.locals/\p.1 ∉ X.fs/\∀ v,p.2.data ≠ .cell v
 hok : HOk X.prog X.w H s.heap
 len : σ.length = X.N.length
section
variable {X : Cx} {pins : List (Addr × Obj)} {σ : List (Option V)} {H H' : Hp} {s : Shared} {h' : Heap}
theorem Cx.Ok.nofr (ok : X.Ok) {b : Addr} {o : Obj} (e : X.base.get? b = some o) : b ∉ X.fs:=fun hb => by
 have:=(ok.funs.mem hb).1
 rw [e] at this; cases this
theorem Inv.bs (I : Inv X pins σ H s) : ∀ b o,X.base.get? b = some o->s.heap.get? b = some o/\H b = none:=fun b o e =>
 ⟨I.base.keep b o (I.ok.bs b o e).1 (I.ok.bs b o e).2 (I.ok.nofr e) (I.ok.noex b o e),I.base.free b o (I.ok.bs b o e).1 (I.ok.bs b o e).2 (I.ok.noex b o e)⟩
theorem Inv.bk (I : Inv X pins σ H s) : ∀ b o,X.base.get? b = some o->s.heap.get? b = some o:=fun b o e => (I.bs b o e).1
theorem Inv.mod (I : Inv X pins σ H s) : Mod X.K X.mg X.base:=I.ok.mod
theorem Inv.kIn (I : Inv X pins σ H s) : X.K.In s.heap:=I.ok.mod.kin.keeps I.bk
theorem Inv.nolimit (I : Inv X pins σ H s) : s.heap.NoLimit:=I.ok.mod.nolimit.keeps I.bk
theorem Inv.fr (I : Inv X pins σ H s) : ∃ m,Fr X.base X.env.locals s.heap m:=
 let ⟨m,hn,_⟩:=I.loc
 ⟨m,hn,I.bk,Nat.le_trans I.ok.bsz I.ok.above⟩
theorem Inv.lt (I : Inv X pins σ H s) : X.env.locals < s.heap.objs.size:=let ⟨_,hn,_⟩:=I.loc; hn.lt
theorem Inv.sz (I : Inv X pins σ H s) : X.s₀.heap.objs.size<=s.heap.objs.size:=Nat.le_trans I.ok.above (Nat.le_of_lt I.lt)
theorem Inv.nofs (I : Inv X pins σ H s) {a : Addr} (h : s.heap.objs.size<=a) : a ∉ X.fs:=fun hb => by
 obtain ⟨_,o,ho,_⟩:=I.ok.funs.mem hb
 exact absurd (Nat.lt_of_lt_of_le (Heap.lt_size ho) (Nat.le_trans I.sz h)) (Nat.lt_irrefl _)
theorem Inv.cne (I : Inv X pins σ H s) : ∀ x c,X.env.cells.lookup x = some c->c ≠ X.env.locals:=fun x c e z => by
 obtain ⟨v,o,ho,hd⟩:=I.cell x c e
 obtain ⟨m,⟨o',es,ep,ho',hd',_⟩,_⟩:=I.loc
 rw [z,ho'] at ho; cases ho; rw [hd'] at hd; cases hd
theorem Inv.funs (I : Inv X pins σ H s) : s.heap.FunFrames X.base X.outer:=by
 have all : ∀ (l : List Env),(∀ b ∈ frs l,b ∈ X.fs)->X.s₀.heap.FunFrames X.base l->s.heap.FunFrames X.base l:=by
  intro l
  induction l with
  | nil => intro _ _; trivial
  | cons env r ih =>
   intro hs hl
   obtain ⟨hk,⟨L,o,hf,hn,ho,hd⟩,hr⟩:=hl
   have hL : L ∈ X.fs:=hs L (by unfold frs; rw [List.filterMap_cons,hf]; exact List.mem_cons_self)
   obtain ⟨sl,e⟩:=I.base.slot L o ho (I.ok.frf L hL) hL fun z => I.ok.exfs L z hL
   exact ⟨hk,⟨L,_,hf,hn,e,hd⟩,ih (fun b hb => hs b (by unfold frs; rw [List.filterMap_cons,hf]; exact List.mem_cons_of_mem _ hb)) hr⟩
 exact all X.outer (fun _ hb => hb) I.ok.funs
theorem Inv.stack (I : Inv X pins σ H s) : s.heap.FunFrames X.base X.stack:=by
 rcases I.ok.stk with e | ⟨e,hf⟩
 ·rw [e]; exact I.funs
 ·rw [e]
  obtain ⟨m,hn,_⟩:=I.loc
  refine .cons (by rw [I.ok.kind]; decide) hf hn ?_ I.funs
  exact Heap.get?_none_of_le (Nat.le_trans I.ok.bsz I.ok.above)
theorem Inv.stkSub (I : Inv X pins σ H s) : ∀ b ∈ frs X.stack,b ∈ X.env.locals :: X.fs:=fun b hb => by
 rcases I.ok.stk with e | ⟨e,hf⟩
 ·rw [e] at hb; exact List.mem_cons_of_mem _ hb
 ·rw [e] at hb
  unfold frs at hb
  rw [List.filterMap_cons,hf] at hb
  exact hb
theorem Inv.stkFree (I : Inv X pins σ H s) : ∀ b ∈ frs X.stack,H b = none:=fun b hb => by
 rcases List.mem_cons.mp (I.stkSub b hb) with e | hb
 ·rw [e]; exact I.free
 ·obtain ⟨_,o,ho,_⟩:=I.ok.funs.mem hb
  exact I.base.free b o ho (I.ok.frf b hb) fun z => I.ok.exfs b z hb
theorem Inv.step {g' : Array GenState} {t' : Nat} {d' : Drawn} {ch : List Addr} (I : Inv X pins σ H s)
  (hch : ∀ b ∈ ch,(b ∈ X.ex ∨ X.s₀.heap.objs.size<=b)/\b ≠ X.env.locals/\(∀ x c,X.env.cells.lookup x = some c->c ≠ b)/\∀ p ∈ X.pn ++ pins,p.1 ≠ b)
  (keep : ∀ b o,b ≠ X.env.locals->b ∉ X.fs->b ∉ ch->s.heap.get? b = some o->H b = none->h'.get? b = some o)
  (slot : ∀ b o,b ≠ X.env.locals->b ∈ X.fs->b ∉ ch->s.heap.get? b = some o->H b = none->∃ sl,h'.get? b = some { o with slots:=sl }) (free : ∀ b o,b ∉ ch->s.heap.get? b = some o->H b = none->H' b = none)
  (there : ∀ b o,b ∉ ch->s.heap.get? b = some o->∃ o',h'.get? b = some o')
  (tups : ∀ b xs,H b = some (.tup xs)->H' b = some (.tup xs)) (frzs : ∀ b o u,H b = some (.frz o u)->H' b = some (.frz o u)) (tbls : ∀ b ps,H b = some (.tbl ps)->∃ more,H' b = some (.tbl (ps ++ more)))
  (ns : ∀ m,s.heap.Ns X.env.locals m->h'.Ns X.env.locals m) (hok : HOk X.prog X.w H' h') (hg : AllBare g') :
  Inv X pins σ H' { s with heap:=h',gens:=g',drawn:=d',toks:=t' }:=by
 have neL : ∀ b o,X.s₀.heap.get? b = some o->b ≠ X.env.locals:=fun b o e => Nat.ne_of_lt (Nat.lt_of_lt_of_le (Heap.lt_size e) I.ok.above)
 have neC : ∀ b o,X.s₀.heap.get? b = some o->b ∉ X.ex->b ∉ ch:=fun b o e hx hb => by
  rcases (hch b hb).1 with z | z
  ·exact hx z
  ·exact absurd (Nat.lt_of_lt_of_le (Heap.lt_size e) z) (Nat.lt_irrefl _)
 have cellK : ∀ x c,X.env.cells.lookup x = some c->∀ v,s.heap.IsCell c v->h'.IsCell c v:=fun x c e v ⟨o,ho,hd⟩ => by
  have nch : c ∉ ch:=fun z => (hch c z).2.2.1 x c e rfl
  by_cases hc : c ∈ X.fs
  ·obtain ⟨sl,q⟩:=slot c o (I.cne x c e) hc nch ho (I.freeC x c e)
   exact ⟨_,q,hd⟩
  ·exact ⟨o,keep c o (I.cne x c e) hc nch ho (I.freeC x c e),hd⟩
 refine ⟨I.ok,I.os,hg,⟨fun b o e n hb hx => ?_,fun b o e n hb hx => ?_,fun b o e n hx => ?_,fun b o e hx => ?_,fun b xs e => tups b xs (I.base.tups b xs e),fun b o xs e => frzs b o xs (I.base.frzs b o xs e),fun b ps e => ?_⟩,?_,fun x c e => ?_,?_,fun x c e => ?_,fun p hp => ?_,hok,I.len⟩
 ·exact keep b o (neL b o e) hb (neC b o e hx) (I.base.keep b o e n hb hx) (I.base.free b o e n hx)
 ·obtain ⟨sl,e1⟩:=I.base.slot b o e n hb hx
  obtain ⟨sl',e2⟩:=slot b _ (neL b o e) hb (neC b o e hx) e1 (I.base.free b o e n hx)
  exact ⟨sl',e2⟩
 ·obtain ⟨o',e1⟩:=I.base.there b o e hx
  exact free b o' (neC b o e hx) e1 (I.base.free b o e n hx)
 ·obtain ⟨o',e1⟩:=I.base.there b o e hx
  exact there b o' (neC b o e hx) e1
 ·obtain ⟨m1,e1⟩:=I.base.tbls b ps e
  obtain ⟨m2,e2⟩:=tbls b _ e1
  exact ⟨m1 ++ m2,by rw [e2,Array.append_assoc]⟩
 ·obtain ⟨m,hn,hl⟩:=I.loc
  refine ⟨m,ns m hn,fun i x v e1 e2 e3 => ?_⟩
  obtain ⟨u,r,l⟩:=hl i x v e1 e2 e3
  refine ⟨u,r,?_⟩
  rcases l with l | ⟨k,c,e,z⟩
  ·exact .inl l
  ·exact .inr ⟨k,c,e,cellK x c e _ z⟩
 ·obtain ⟨v,z⟩:=I.cell x c e
  exact ⟨v,cellK x c e v z⟩
 ·obtain ⟨m,⟨o,_,_,ho,_⟩,_⟩:=I.loc
  exact free _ o (fun z => (hch _ z).2.1 rfl) ho I.free
 ·obtain ⟨v,o,ho,hd⟩:=I.cell x c e
  exact free c o (fun z => (hch c z).2.2.1 x c e rfl) ho (I.freeC x c e)
 ·obtain ⟨e,n,ne,nf,d⟩:=I.pin p hp
  have nch : p.1 ∉ ch:=fun z => (hch p.1 z).2.2.2 p hp rfl
  exact ⟨keep p.1 p.2 ne nf nch e n,free p.1 p.2 nch e n,ne,nf,d⟩
theorem Inv.un {t' : Nat} (I : Inv X pins σ H s) (u : Un X.fs [] H H' s.heap h') (hok : HOk X.prog X.w H' h') : Inv X pins σ H' { s with heap:=h',toks:=t' }:=by
 obtain ⟨m,⟨o,es,ep,ho,r⟩,_⟩:=id I.loc
 obtain ⟨sl,hL⟩:=u.any ho I.free (by simp)
 exact I.step (g':=s.gens) (d':=s.drawn) (ch:=[]) (fun _ z => nomatch z) (fun b o _ hb _ e n => u.keep b o e n hb (by simp)) (fun b o _ hb _ e n => u.slot b o e n hb (by simp)) (fun b o _ e n => u.free b o e n (by simp)) (fun b o _ e => u.there b o e (by simp)) u.tups u.frzs u.tbls (fun m' hm => by
  obtain ⟨o',es',ep',ho',r'⟩:=hm
  rw [ho] at ho'; cases ho'
  exact ⟨_,es',ep',hL,r'⟩) hok I.bare
theorem Inv.call {g' : Array GenState} {t' : Nat} {d' : Drawn} {ch : List Addr} (I : Inv X pins σ H s) (u : Un (frs X.stack) ch H H' s.heap h') (hok : HOk X.prog X.w H' h') (hg : AllBare g')
  (hch : ∀ b ∈ ch,(b ∈ X.ex ∨ X.s₀.heap.objs.size<=b)/\b ≠ X.env.locals/\(∀ x c,X.env.cells.lookup x = some c->c ≠ b)/\∀ p ∈ X.pn ++ pins,p.1 ≠ b) :
  Inv X pins σ H' { s with heap:=h',gens:=g',drawn:=d',toks:=t' }:=by
 obtain ⟨m,⟨o,es,ep,ho,r⟩,_⟩:=id I.loc
 obtain ⟨sl,hL⟩:=u.any ho I.free fun z => (hch _ z).2.1 rfl
 exact I.step (ch:=ch) hch (fun b o hL hb hc e n => u.keep b o e n (fun z => (List.mem_cons.mp (I.stkSub b z)).elim hL hb) hc) (fun b o _ _ hc e n => u.any e n hc) (fun b o hc e n => u.free b o e n hc) (fun b o hc e => u.there b o e hc) u.tups u.frzs u.tbls (fun m' hm => by
  obtain ⟨o',es',ep',ho',r'⟩:=hm
  rw [ho] at ho'; cases ho'
  exact ⟨_,es',ep',hL,r'⟩) hok hg
theorem Inv.turned {t' : Nat} {it : Addr} (I : Inv X pins σ H s) (k : ∀ b o,b ≠ it->s.heap.get? b = some o->h'.get? b = some o) (hn : H it = none) (hL : it ≠ X.env.locals)
  (h1 : it ∈ X.ex ∨ X.s₀.heap.objs.size<=it) (h2 : ∀ x c,X.env.cells.lookup x = some c->c ≠ it) (h3 : ∀ p ∈ X.pn ++ pins,p.1 ≠ it) : Inv X pins σ H { s with heap:=h',toks:=t' }:=by
 have nit : ∀ b u,H b = some u->b ≠ it:=fun b u e z => by rw [z,hn] at e; cases e
 refine I.step (g':=s.gens) (d':=s.drawn) (ch:=[it]) (fun b hb => ?_) (fun b o _ _ hc e _ => k b o (fun z => hc (by simp [z])) e) (fun b o _ _ hc e _ => ⟨o.slots,k b o (fun z => hc (by simp [z])) e⟩) (fun _ _ _ _ n => n)
  (fun b o hc e => ⟨o,k b o (fun z => hc (by simp [z])) e⟩) (fun _ _ e => e) (fun _ _ _ e => e) (fun b ps e => ⟨#[],by rw [e]; simp⟩) (fun m hm => ?_) (fun b u e => ?_) I.bare
 ·have e : b = it:=by simpa using hb
  subst e
  exact ⟨h1,hL,h2,h3⟩
 ·obtain ⟨o,es,ep,ho,r⟩:=hm
  exact ⟨o,es,ep,k _ o (Ne.symm hL) ho,r⟩
 ·refine (I.hok b u e).stay (fun c v hc q => k c v ?_ q) (fun _ q => q) fun _ _ q => q
  rcases hc with z | z
  ·rw [z]; exact nit b u e
  ·exact nit c _ z
theorem Inv.tok (I : Inv X pins σ H s) (t : Nat) : Inv X pins σ H { s with toks:=t }:=I.un (h':=s.heap) (t':=t) Un.refl I.hok
theorem Inv.kept {t' : Nat} (I : Inv X pins σ H s) (k : ∀ b u,s.heap.get? b = some u->h'.get? b = some u) : Inv X pins σ H { s with heap:=h',toks:=t' }:=I.un (Un.kept k) (I.hok.kept k)
theorem Inv.laid {a : Addr} {o : HO} {t' : Nat} (I : Inv X pins σ H s) (k : ∀ b u,s.heap.get? b = some u->h'.get? b = some u) (hp : s.heap.objs.size<=a) (new : Bj X.prog X.w (upd H a o) h' a o) :
  Inv X pins σ (upd H a o) { s with heap:=h',toks:=t' }:=I.un (Un.laid k hp (I.hok.fresh hp)) (I.hok.laid k hp new)
theorem Inv.write {x e : Addr} {o : HO} {t' : Nat} (I : Inv X pins σ H s) (mu : Mut (H x)) (he : e = x ∨ H e = some (.own x)) (k : ∀ b u,b ≠ e->s.heap.get? b = some u->h'.get? b = some u) (heo : ∃ u,h'.get? e = some u)
  (new : Bj X.prog X.w (upd H x o) h' x o) : Inv X pins σ (upd H x o) { s with heap:=h',toks:=t' }:=I.un (Un.write mu he k heo) (I.hok.write mu he k heo new)
theorem Inv.pins_of {pins' : List (Addr × Obj)} (I : Inv X pins σ H s) (h : ∀ p ∈ pins',s.heap.get? p.1 = some p.2/\H p.1 = none/\p.1 ≠ X.env.locals/\p.1 ∉ X.fs/\∀ v,p.2.data ≠ .cell v) : Inv X pins' σ H s:=
 ⟨I.ok,I.os,I.bare,I.base,I.loc,I.cell,I.free,I.freeC,fun p hp => (List.mem_append.mp hp).elim (fun z => I.pin p (List.mem_append_left _ z)) (h p),I.hok,I.len⟩
theorem Th {N : List Str} (hN : N.Nodup) {i j : Nat} {x : Str} (a : N[i]? = some x) (b : N[j]? = some x) : i = j:=by
 obtain ⟨h1,e1⟩:=List.getElem?_eq_some_iff.mp a
 obtain ⟨h2,e2⟩:=List.getElem?_eq_some_iff.mp b
 exact (List.getElem_inj hN).mp (e1.trans e2.symm)
theorem Qz {M : Model} {A : Around} {E : Value->Shared->Prop} {i : Nat} {x : Str} {v : V} {u : Value} {Q : Unit->Shared->Prop} (I : Inv X pins σ H s) (hN : X.N.Nodup) (hi : X.N[i]? = some x) (hx : Loc X.env.scope x) (r : RelV v u)
  (h : ∀ s',Inv X pins (σ.set i (some v)) H s'->(∃ a,Heap.SameBut a s.heap s'.heap/\(a = X.env.locals ∨ X.env.cells.lookup x = some a))->Q () s') (hf : X.fn x = true ∨ X.env.scope.names.lookup x = some .local:=by first | exact .inl rfl | exact .inr rfl | assumption) : wpAny M A (storeName X.env x u) Q E s:=by
 obtain ⟨m,hn,hl⟩:=id I.loc
 have hcls : (X.env.scope.kind == .class || (X.env.scope.kind == .module && X.env.locals != X.env.globals)) = false:=by rw [I.ok.kind]; rfl
 have hiσ : i < σ.length:=by rw [I.len]; exact (List.getElem?_eq_some_iff.mp hi).1
 have cne:=I.cne
 have tracked : ∀ {a : Addr} {h' : Heap},(∃ o,s.heap.get? a = some o/\H a = none)->Heap.SameBut a s.heap h'->HOk X.prog X.w H h':=fun {a h'} ha hs b ob e => by
  obtain ⟨_,_,hfree⟩:=ha
  refine (I.hok b ob e).stay (fun c w' hc q => (hs.2 c ?_).trans q) (fun _ q => q) fun _ _ q => q
  rintro rfl
  rcases hc with rfl | hc
  ·rw [hfree] at e; cases e
  ·rw [hfree] at hc; cases hc
 rcases hx with hk | hk
 ·refine wpAny_storeName_local hk hn (fun h' hn' hs => ?_) hcls
  obtain ⟨oL,_,_,hoL,_⟩:=id hn
  refine h _ ⟨I.ok,I.os,I.bare,⟨fun b o e n hb hx => ?_,fun b o e n hb hx => ?_,I.base.free,fun b o e hx => ?_,I.base.tups,I.base.frzs,I.base.tbls⟩,⟨_,hn',fun j y v' e1 e2 e3 => ?_⟩,fun y c e => ?_,I.free,I.freeC,fun p hp => ?_,tracked ⟨oL,hoL,I.free⟩ hs,by simpa using I.len⟩ ⟨_,hs,.inl rfl⟩
  ·exact (hs.2 b (Nat.ne_of_lt (Nat.lt_of_lt_of_le (Heap.lt_size e) I.ok.above))).trans (I.base.keep b o e n hb hx)
  ·obtain ⟨sl,e1⟩:=I.base.slot b o e n hb hx
   exact ⟨sl,(hs.2 b (Nat.ne_of_lt (Nat.lt_of_lt_of_le (Heap.lt_size e) I.ok.above))).trans e1⟩
  ·obtain ⟨o',e1⟩:=I.base.there b o e hx
   exact ⟨o',(hs.2 b (Nat.ne_of_lt (Nat.lt_of_lt_of_le (Heap.lt_size e) I.ok.above))).trans e1⟩
  ·by_cases hj : j = i
   ·subst hj
    rw [hi] at e1; cases e1
    rw [List.getElem?_set_self hiσ] at e2
    cases e2
    exact ⟨u,r,.inl ⟨hk,by simp⟩⟩
   ·rw [List.getElem?_set_ne (Ne.symm hj)] at e2
    obtain ⟨u',r',q⟩:=hl j y v' e1 e2 e3
    refine ⟨u',r',?_⟩
    rcases q with ⟨k,e⟩ | ⟨k,c,e,z⟩
    ·refine .inl ⟨k,?_⟩
     have : y ≠ x:=fun e => hj (Th hN e1 (e ▸ hi))
     simp [this,e]
    ·exact .inr ⟨k,c,e,z.sameBut hs (cne y c e)⟩
  ·obtain ⟨w',z⟩:=I.cell y c e
   exact ⟨w',z.sameBut hs (cne y c e)⟩
  ·obtain ⟨e,n,ne,nf,d⟩:=I.pin p hp
   exact ⟨(hs.2 p.1 ne).trans e,n,ne,nf,d⟩
 ·have hfn : X.fn x = true:=by
   rcases hf with z | z
   ·exact z
   ·rw [z] at hk; cases hk
  obtain ⟨c,hc⟩:=I.ok.has x (.inl hk)
  obtain ⟨w',z⟩:=I.cell x c hc
  refine wpAny_storeName_cell I.ok.kind hk hc z (fun h' hc' hs => ?_)
  obtain ⟨oc,hoc,hocd⟩:=id z
  refine h { s with heap:=h' } ⟨I.ok,I.os,I.bare,⟨fun b o e n hb hx => ?_,fun b o e n hb hx => ?_,I.base.free,fun b o e hx => ?_,I.base.tups,I.base.frzs,I.base.tbls⟩,⟨m,hn.sameBut hs (Ne.symm (cne x c hc)),fun j y v' e1 e2 e3 => ?_⟩,fun y c' e => ?_,I.free,I.freeC,fun p hp => ?_,tracked ⟨oc,hoc,I.freeC x c hc⟩ hs,by simpa using I.len⟩ ⟨c,hs,.inr hc⟩
  ·exact (hs.2 b (Nat.ne_of_lt (Nat.lt_of_lt_of_le (Heap.lt_size e) (I.ok.cab x c hfn hc)))).trans (I.base.keep b o e n hb hx)
  ·obtain ⟨sl,e1⟩:=I.base.slot b o e n hb hx
   exact ⟨sl,(hs.2 b (Nat.ne_of_lt (Nat.lt_of_lt_of_le (Heap.lt_size e) (I.ok.cab x c hfn hc)))).trans e1⟩
  ·obtain ⟨o',e1⟩:=I.base.there b o e hx
   exact ⟨o',(hs.2 b (Nat.ne_of_lt (Nat.lt_of_lt_of_le (Heap.lt_size e) (I.ok.cab x c hfn hc)))).trans e1⟩
  ·by_cases hj : j = i
   ·subst hj
    rw [hi] at e1; cases e1
    rw [List.getElem?_set_self hiσ] at e2
    cases e2
    exact ⟨u,r,.inr ⟨.inl hk,c,hc,hc'⟩⟩
   ·rw [List.getElem?_set_ne (Ne.symm hj)] at e2
    obtain ⟨u',r',q⟩:=hl j y v' e1 e2 e3
    refine ⟨u',r',?_⟩
    rcases q with q | ⟨k,c',e,z'⟩
    ·exact .inl q
    ·refine .inr ⟨k,c',e,z'.sameBut hs ?_⟩
     rintro rfl
     exact hj (Th hN e1 (I.ok.inj _ _ _ e hc ▸ hi))
  ·by_cases hcc : c' = c
   ·subst hcc; exact ⟨_,hc'⟩
   ·obtain ⟨w2,z2⟩:=I.cell y c' e
    exact ⟨w2,z2.sameBut hs hcc⟩
  ·obtain ⟨e,n,ne,nf,d⟩:=I.pin p hp
   refine ⟨(hs.2 p.1 ?_).trans e,n,ne,nf,d⟩
   intro q
   rw [q,hoc] at e
   have q' : oc = p.2:=Option.some.inj e
   exact d w' (by rw [<-q']; exact hocd)
theorem PQ {M : Model} {A : Around} {E : Value->Shared->Prop} {i : Nat} {x : Str} {v : V} {u : Value} {Q : Unit->Shared->Prop} (I : Inv X pins σ H s) (hN : X.N.Nodup) (hi : X.N[i]? = some x) (hx : Loc X.env.scope x) (r : RelV v u)
  (h : ∀ s',Inv X pins (σ.set i (some v)) H s'->Q () s') (hf : X.fn x = true ∨ X.env.scope.names.lookup x = some .local:=by first | exact .inl rfl | exact .inr rfl | assumption) : wpAny M A (storeName X.env x u) Q E s:=
 Qz I hN hi hx r (fun s' I' _ => h s' I') hf
theorem Inv.call' {s' : Shared} {ch : List Addr} (I : Inv X pins σ H s) (ho : s'.os = s.os) (u : Un (frs X.stack) ch H H' s.heap s'.heap) (hok : HOk X.prog X.w H' s'.heap) (hg : AllBare s'.gens)
  (hch : ∀ b ∈ ch,(b ∈ X.ex ∨ X.s₀.heap.objs.size<=b)/\b ≠ X.env.locals/\(∀ x c,X.env.cells.lookup x = some c->c ≠ b)/\∀ p ∈ X.pn ++ pins,p.1 ≠ b) : Inv X pins σ H' s':=by
 obtain ⟨h',g',d',t',o'⟩:=s'
 have e : o' = s.os:=ho
 subst e
 exact I.call (g':=g') (t':=t') (d':=d') u hok hg hch
end
abbrev XK:=Value->Option Addr->Hp->Prop
abbrev St:=List (Option V)
abbrev VK:=V->Hp->Prop
abbrev TE:=St->Hp->VK->Prop
abbrev TT:=St->Hp->(Bool->Hp->Prop)->Prop
abbrev TA:=St->Hp->(List V->Hp->Prop)->Prop
structure Ends where
 nx : St->Hp->Prop
 rt : VK
 bk : St->Hp->Prop:=fun _ _ => False
 ct : St->Hp->Prop:=fun _ _ => False
abbrev TS:=Ends->St->Hp->Prop
def EP (X : Cx) (pins : List (Addr × Obj)) (σ : St) (Q : VK) (u : Value) (s' : Shared) : Prop:=∃ v H',Inv X pins σ H' s'/\RelV v u/\Q v H'
def TP (X : Cx) (pins : List (Addr × Obj)) (σ : St) (Q : Bool->Hp->Prop) (b : Bool) (s' : Shared) : Prop:=∃ H',Inv X pins σ H' s'/\Q b H'
def AP (X : Cx) (pins : List (Addr × Obj)) (σ : St) (Q : List V->Hp->Prop) (us : List Value) (s' : Shared) : Prop:=∃ vs H',Inv X pins σ H' s'/\Vals vs us/\Q vs H'
def SP (X : Cx) (pins : List (Addr × Obj)) (D : Ends) (f : Flow) (s' : Shared) : Prop:=
 match f with
 | .next => ∃ σ' H',Inv X pins σ' H' s'/\D.nx σ' H'
 | .brk => ∃ σ' H',Inv X pins σ' H' s'/\D.bk σ' H'
 | .cont => ∃ σ' H',Inv X pins σ' H' s'/\D.ct σ' H'
 | .ret u => ∃ v σ' H',Inv X pins σ' H' s'/\RelV v u/\D.rt v H'
def PE (X : Cx) (e : Expr) (t : TE) : Prop:=
 ∀ (pins : List (Addr × Obj)) (s : Shared) (σ : St) (H : Hp) (Q : VK),Inv X pins σ H s->t σ H Q->wpAny (model X.prog X.w) X.A (eval e X.env) (EP X pins σ Q) X.xe s
def PT (X : Cx) (e : Expr) (t : TT) : Prop:=
 ∀ (pins : List (Addr × Obj)) (s : Shared) (σ : St) (H : Hp) (Q : Bool->Hp->Prop),Inv X pins σ H s->t σ H Q->wpAny (model X.prog X.w) X.A (isTrue e X.env (eval e X.env)) (TP X pins σ Q) X.xe s
def PW (X : Cx) (e : Expr) (t : TT) : Prop:=
 ∀ (whole : Sem Value) (pins : List (Addr × Obj)) (s : Shared) (σ : St) (H : Hp) (Q : Bool->Hp->Prop),Inv X pins σ H s->t σ H Q->wpAny (model X.prog X.w) X.A (isTrue e X.env whole) (TP X pins σ Q) X.xe s
theorem PW.pt {X : Cx} {e : Expr} {t : TT} (h : PW X e t) : PT X e t:=h _
def PA (X : Cx) (es : List Expr) (t : TA) : Prop:=
 ∀ (pos : Pos) (pins : List (Addr × Obj)) (s : Shared) (σ : St) (H : Hp) (Q : List V->Hp->Prop),Inv X pins σ H s->t σ H Q->wpAny (model X.prog X.w) X.A (spliced (backTo pos (starEach es X.env))) (AP X pins σ Q) X.xe s
def PS (X : Cx) (st : Stmt) (t : TS) : Prop:=
 ∀ (pins : List (Addr × Obj)) (s : Shared) (σ : St) (H : Hp) (D : Ends),Inv X pins σ H s->t D σ H->wpAny (model X.prog X.w) X.A (exec st X.env) (SP X pins D) X.xe s
def PSs (X : Cx) (st : List Stmt) (t : TS) : Prop:=
 ∀ (pins : List (Addr × Obj)) (s : Shared) (σ : St) (H : Hp) (D : Ends),Inv X pins σ H s->t D σ H->wpAny (model X.prog X.w) X.A (execs st X.env) (SP X pins D) X.xe s
theorem thn {α : Type} {t : Sem α} {Q Q' : α->Shared->Prop} {M : Model} {A : Around} {E : Value->Shared->Prop} {s : Shared} (h : wpAny M A t Q E s) (hQ : ∀ a s,Q a s->Q' a s) : wpAny M A t Q' E s:=wpAny_mono h hQ fun _ _ x => x
end L2
namespace L2
open PySem PySem.Spec PyProof.Rows
section
variable {X : Cx}
def tVar (i : Nat) : TE:=fun σ H Q => ∃ v,σ[i]? = some (some v)/\Q v H
def tC (v : V) : TE:=fun _ H Q => Q v H
theorem lQ {i : Nat} {x : Str} {pos : Pos} (hN : X.N[i]? = some x) (hv : Vis X.env.scope x) (hd : (x == ("__debug__" : Str)) = false:=by decide) (hcd : (x == ("__classdict__" : Str)) = false:=by decide) : PE X (.Name x pos) (tVar i):=by
 intro pins s σ H Q I h
 obtain ⟨v,e,h⟩:=h
 obtain ⟨m,hn,hl⟩:=I.loc
 obtain ⟨u,r,l⟩:=hl i x v hN e hv
 have fin : EP X pins σ Q u s:=⟨v,H,I,r,h⟩
 rcases l with ⟨hk,hm⟩ | ⟨hk,c,hc,hcell⟩
 ·exact wpAny_Name (wpAny_loadName_local I.ok.kind hk hn hm fin) hd
 ·rcases hk with hk | hk
  ·exact wpAny_Name (wpAny_loadName_cell I.ok.kind hk hc hcell fin) hd
  ·exact wpAny_Name (wpAny_loadName_free I.ok.kind hk hc hcell fin hcd) hd
theorem lR {i j pos} : PE X (.Constant (.int i) j pos) (tC (.int i)):=fun _ _ _ H _ I h => wpAny_Constant_int ⟨.int i,H,I.tok _,⟨_,rfl⟩,h⟩
theorem o9 {b j pos} : PE X (.Constant (.bool b) j pos) (tC (.bl b)):=fun _ _ _ H _ I h => Constant_bool ⟨.bl b,H,I,rfl,h⟩
theorem lU {x j pos} : PE X (.Constant (.str x) j pos) (tC (.str x)):=fun _ _ _ H _ I h => Calls.Constant_str ⟨.str x,H,I.tok _,⟨_,rfl⟩,h⟩
def Gl (X : Cx) (x : Str) : Prop:=X.env.kindOf x = some .globalImplicit
theorem Ro {E : Value->Shared->Prop} {pins : List (Addr × Obj)} {s : Shared} {σ : St} {H : Hp} {x : Str} {u : Value} {pos : Pos} {Q : Value->Shared->Prop} (I : Inv X pins σ H s) (hg : Gl X x) (hm : X.mg x = some u) (h : Q u s)
  (hd : (x == ("__debug__" : Str)) = false:=by decide) : wpAny (model X.prog X.w) X.A (eval (.Name x pos) X.env) Q E s:=
 Calls.Name_function_global I.ok.kind hg (Calls.loadGlobal_global (by rw [I.ok.glob]; exact I.mod.glob.keeps I.bk) hm h) hd
theorem Rp {E : Value->Shared->Prop} {pins : List (Addr × Obj)} {s : Shared} {σ : St} {H : Hp} {x : Str} {u : Value} {pos : Pos} {Q : Value->Shared->Prop} (I : Inv X pins σ H s) (hg : Gl X x) (hm : X.mg x = none) (hv : bootBuiltins x = some u) (h : Q u s)
  (hn : x ≠ "__name__":=by decide) (hd : (x == ("__debug__" : Str)) = false:=by decide) : wpAny (model X.prog X.w) X.A (eval (.Name x pos) X.env) Q E s:=by
 obtain ⟨mb,h1,h2⟩:=I.mod.blt
 exact Calls.Name_function_global I.ok.kind hg (Calls.loadGlobal_builtin (by rw [I.ok.glob]; exact I.mod.glob.keeps I.bk) hm (by rw [I.ok.blt]; exact h1.keeps I.bk) ((h2 x hn).trans hv) h) hd
theorem Eo {x : Str} {v : V} {u : Value} {pos : Pos} (hg : Gl X x) (hm : X.mg x = some u) (r : RelV v u) (hd : (x == ("__debug__" : Str)) = false:=by decide) : PE X (.Name x pos) (tC v):=
 fun _ _ _ H _ I h => Ro I hg hm ⟨v,H,I,r,h⟩ hd
theorem fL {x : Str} {v : V} {u : Value} {pos : Pos} (hg : Gl X x) (hm : X.mg x = none) (hv : bootBuiltins x = some u) (r : RelV v u) (hn : x ≠ "__name__":=by decide) (hd : (x == ("__debug__" : Str)) = false:=by decide) : PE X (.Name x pos) (tC v):=
 fun _ _ _ H _ I h => Rp I hg hm hv ⟨v,H,I,r,h⟩ hn hd
def t2I (ta tb : TE) (k : Int->Int->Hp->Prop) : St->Hp->Prop:=fun σ H => ta σ H fun x H1 => tb σ H1 fun y H2 => ∃ i j,x = .int i/\y = .int j/\k i j H2
variable {a b : Expr} {ta tb : TE} {pos : Pos}
def PC (X : Cx) (op : CmpOp) (a b : Expr) (t : TE) : Prop:=
 ∀ (pins : List (Addr × Obj)) (s : Shared) (σ : St) (H : Hp) (Q : VK),Inv X pins σ H s->t σ H Q ->
  wpAny (model X.prog X.w) X.A (eval a X.env) (fun v s₁ => wpAny (model X.prog X.w) X.A (eval b X.env) (fun u s₂ => wpAny (model X.prog X.w) X.A (compareOp op v u) (EP X pins σ Q) X.xe s₂) X.xe s₁) X.xe s
theorem ZZ (b : Expr) {op : CmpOp} (h : op ≠ .In) (h2 : op ≠ .NotIn) : behindInMarks op b = false:=by
 have e1 : (op == CmpOp.In) = false:=by cases op <;> first | rfl | exact absurd rfl h
 have e2 : (op == CmpOp.NotIn) = false:=by cases op <;> first | rfl | exact absurd rfl h2
 cases b <;> simp [behindInMarks,e1,e2]
def tCmp (p : Int->Int->Bool) (ta tb : TE) : TE:=fun σ H Q => t2I ta tb (fun i j H2 => Q (.bl (p i j)) H2) σ H
abbrev tLt : TE->TE->TE:=tCmp fun i j => decide (i < j)
abbrev tGt : TE->TE->TE:=tCmp fun i j => decide (j < i)
abbrev tGe : TE->TE->TE:=tCmp fun i j => decide (j<=i)
def tIsN (ta : TE) : TE:=fun σ H Q => ta σ H fun x H1 => Q (.bl (decide (x = .non))) H1
theorem RelV.none_iff {x : V} {v : Value} (r : RelV x v) : (v == Value.none) = decide (x = .non):=by
 cases x with
 | non => cases r; rfl
 | bl _ => cases r; rfl
 | int _ => obtain ⟨t,rfl⟩:=r; rfl
 | str _ => obtain ⟨t,rfl⟩:=r; rfl
 | byt _ => obtain ⟨t,rfl⟩:=r; rfl
 | flt _ => obtain ⟨t,rfl⟩:=r; rfl
 | ref _ => cases r; rfl
 | ty _ => cases r; rfl
theorem lV {j pos'} (ha : PE X a ta) : PC X .Is a (.Constant .none j pos') (tIsN ta):=by
 intro pins s σ H Q I h
 refine thn (ha pins s σ H _ I h) fun v s1 ⟨x,H1,I1,r1,q1⟩ => ?_
 exact Constant_none (is_none_gen ⟨.bl _,H1,I1,by rw [r1.none_iff]; rfl,q1⟩)
def tB (t : TE) : TT:=fun σ H Q => t σ H fun x H1 => ∃ c,x = .bl c/\Q c H1
theorem lW {op : CmpOp} {t : TE} (h : PC X op a b t) (h1 : behindInMarks op b = false:=by first | exact ZZ _ (by decide) (by decide) | rfl) : PT X (.Compare a [op] [b] pos) (tB t):=by
 intro pins s σ H Q I hw
 refine wpAny_isTrue_Compare1 (thn (h pins s σ H _ I hw) fun v s1 h1 => thn h1 fun u s2 h2 => thn h2 fun c s3 ⟨x,H1,I1,r1,q1⟩ => ?_) h1
 obtain ⟨d,rfl,q⟩:=q1
 cases r1
 exact wpAny_truthy_bool ⟨H1,I1,q⟩
variable {tA tB' : TT} {rest : List Expr}
def tAnd (t u : TT) : TT:=fun σ H Q => t σ H fun c H1 => if c = true then u σ H1 Q else Q false H1
def tOr (t u : TT) : TT:=fun σ H Q => t σ H fun c H1 => if c = true then Q true H1 else u σ H1 Q
def tNot (t : TT) : TT:=fun σ H Q => t σ H fun c H1 => Q (!c) H1
theorem fO (ha : PT X a tA) : PW X (.BoolOp .And [a] pos) tA:=by
 intro wh pins s σ H Q I h
 refine isTrue_and (thn (ha pins s σ H Q I h) fun c s1 e => ?_)
 cases c with
 | true => exact isTrue_and_nil e
 | false => exact e
theorem Za (ha : PT X a tA) : PW X (.BoolOp .Or [a] pos) tA:=by
 intro wh pins s σ H Q I h
 refine isTrue_or (thn (ha pins s σ H Q I h) fun c s1 e => ?_)
 cases c with
 | false => exact isTrue_or_nil e
 | true => exact e
theorem lX (ha : PT X a tA) (hb : PW X (.BoolOp .And (b :: rest) pos) tB') : PW X (.BoolOp .And (a :: b :: rest) pos) (tAnd tA tB'):=by
 intro wh pins s σ H Q I h
 refine isTrue_and (thn (ha pins s σ H _ I h) fun c s1 ⟨H1,I1,q1⟩ => ?_)
 cases c with
 | true => exact hb wh pins s1 σ H1 Q I1 q1
 | false => exact ⟨H1,I1,q1⟩
theorem jZ (ha : PT X a tA) (hb : PW X (.BoolOp .Or (b :: rest) pos) tB') : PW X (.BoolOp .Or (a :: b :: rest) pos) (tOr tA tB'):=by
 intro wh pins s σ H Q I h
 refine isTrue_or (thn (ha pins s σ H _ I h) fun c s1 ⟨H1,I1,q1⟩ => ?_)
 cases c with
 | true => exact ⟨H1,I1,q1⟩
 | false => exact hb wh pins s1 σ H1 Q I1 q1
theorem lY (ha : PT X a tA) : PT X (.UnaryOp .Not a pos) (tNot tA):=by
 intro pins s σ H Q I h
 exact isTrue_not (ha pins s σ H (fun c H1 => Q (!c) H1) I h)
def o_ (ta tb : TE) : TE:=fun σ H Q => ta σ H fun x H1 => ∃ c,x = .bl c/\if c = true then tb σ H1 Q else Q (.bl false) H1
def pA (ta : TE) : TE:=fun σ H Q => ta σ H fun x H1 => ∃ c,x = .bl c/\Q (.bl (!c)) H1
theorem lZ {op} {t : TE} (h : PE X a t) : PE X (.BoolOp op [a] pos) t:=fun pins s σ H Q I hw => BoolOp_one (h pins s σ H Q I hw)
theorem lu (ha : PE X a ta) (hb : PE X (.BoolOp .And (b :: rest) pos) tb) : PE X (.BoolOp .And (a :: b :: rest) pos) (o_ ta tb):=by
 intro pins s σ H Q I h
 refine BoolOp_and (thn (ha pins s σ H _ I h) fun v s1 ⟨x,H1,I1,r1,q1⟩ => ?_)
 obtain ⟨c,rfl,q1⟩:=q1
 cases r1
 refine wpAny_truthy_bool ?_
 cases c with
 | true => exact hb pins s1 σ H1 Q I1 q1
 | false => exact ⟨.bl false,H1,I1,rfl,q1⟩
theorem lz (ha : PE X a ta) : PE X (.UnaryOp .Not a pos) (pA ta):=by
 intro pins s σ H Q I h
 refine UnaryOp_ (thn (ha pins s σ H _ I h) fun v s1 ⟨x,H1,I1,r1,q1⟩ => ?_)
 obtain ⟨c,rfl,q1⟩:=q1
 cases r1
 exact not_of (wpAny_truthy_bool ⟨.bl (!c),H1,I1,rfl,q1⟩)
def tIf (t : TT) (ta tb : TE) : TE:=fun σ H Q => t σ H fun c H1 => if c = true then ta σ H1 Q else tb σ H1 Q
theorem Zb {c : Expr} (hc : PT X c tA) (ha : PE X a ta) (hb : PE X b tb) : PE X (.IfExp c a b pos) (tIf tA ta tb):=by
 intro pins s σ H Q I h
 refine wpAny_IfExp (thn (hc pins s σ H _ I h) fun d s1 ⟨H1,I1,q1⟩ => ?_)
 cases d with
 | true => exact ha pins s1 σ H1 Q I1 q1
 | false => exact hb pins s1 σ H1 Q I1 q1
end
end L2
namespace L2
open PySem PySem.Spec PyProof.Rows
def SqL (K : PySem.W.Frag) (H : Hp) (a : Addr) (xs : List V) : Prop:=
 Rd H a (.lst xs) ∨
  ∃ (o : Obj) (its : Array Value) (n : Nat),K.lookup a = some o/\o.cls = .type "list"/\o.dict = none/\o.data = .seq its n/\its.size<=sizeLine/\Vals xs its.toList
def SqT (K : PySem.W.Frag) (H : Hp) (a : Addr) (xs : List V) : Prop:=
 Rd H a (.tup xs) ∨
  ∃ (o : Obj) (its : Array Value) (n : Nat),K.lookup a = some o/\o.cls = .type "tuple"/\o.data = .seq its n/\its.size<=sizeLine/\Vals xs its.toList
def absV : Value->Option V
 | .none => some .non
 | .bool b => some (.bl b)
 | .int i _ => some (.int i)
 | .str x _ => some (.str x)
 | .bytes b _ => some (.byt b)
 | .float b _ => some (.flt b)
 | .ref a => some (.ref a)
 | .type n => some (.ty n)
 | _ => none
theorem RelV.abs {x : V} {u : Value} (r : RelV x u) : absV u = some x:=by
 cases x with
 | non => cases r; rfl
 | bl _ => cases r; rfl
 | int _ => obtain ⟨t,rfl⟩:=r; rfl
 | str _ => obtain ⟨t,rfl⟩:=r; rfl
 | byt _ => obtain ⟨t,rfl⟩:=r; rfl
 | flt _ => obtain ⟨t,rfl⟩:=r; rfl
 | ref _ => cases r; rfl
 | ty _ => cases r; rfl
theorem RelV.inj {x y : V} {u : Value} (r : RelV x u) (q : RelV y u) : x = y:=Option.some.inj (r.abs.symm.trans q.abs)
theorem Vals.inj : ∀ {xs ys : List V} {us : List Value},Vals xs us->Vals ys us->xs = ys
 | _,_,_,.nil,.nil => rfl
 | _,_,_,.cons r t,.cons r' t' => by rw [r.inj r',Vals.inj t t']
section
variable {X : Cx} {pins : List (Addr × Obj)} {σ : St} {H : Hp} {s : Shared} {a : Addr} {xs ys : List V}
theorem SqL.of {K : PySem.W.Frag} (h : H a = some (.lst xs)) : SqL K H a xs:=.inl (.inl h)
theorem SqT.of {K : PySem.W.Frag} (h : H a = some (.tup xs)) : SqT K H a xs:=.inl (.inl h)
theorem Inv.list (I : Inv X pins σ H s) (h : SqL X.K H a xs) : ∃ its : List Value,Vals xs its/\PlainL s.heap a its.toArray/\xs.length<=sizeLine:=by
 rcases h with h | ⟨o,its,n,hk,hc,hd,hs,hz,r⟩
 ·obtain ⟨z,its,n,r,e⟩:=h.ok I.hok
  exact ⟨its,r,⟨_,n,e,rfl,rfl,rfl⟩,z⟩
 ·refine ⟨its.toList,r,⟨o,n,I.kIn a o hk,hc,hd,by simpa using hs⟩,?_⟩
  have e:=r.length
  simp only [Array.length_toList] at e
  omega
theorem Inv.tuple (I : Inv X pins σ H s) (h : SqT X.K H a xs) : ∃ its : List Value,Vals xs its/\IsTup s.heap a its.toArray/\xs.length<=sizeLine:=by
 rcases h with h | ⟨o,its,n,hk,hc,hs,hz,r⟩
 ·obtain ⟨z,its,r,p⟩:=h.ok I.hok
  exact ⟨its,r,p,z⟩
 ·refine ⟨its.toList,r,⟨o,I.kIn a o hk,hc,n,by simpa using hs⟩,?_⟩
  have e:=r.length
  simp only [Array.length_toList] at e
  omega
theorem Inv.list_inj (I : Inv X pins σ H s) (h : SqL X.K H a xs) (h' : SqL X.K H a ys) : xs = ys:=by
 obtain ⟨its,r,⟨o,n,e,_,_,d⟩,_⟩:=I.list h
 obtain ⟨its',r',⟨o',n',e',_,_,d'⟩,_⟩:=I.list h'
 rw [e] at e'; cases e'
 rw [d] at d'
 injection d' with d1 _
 have : its = its':=by simpa using congrArg Array.toList d1
 subst this
 exact r.inj r'
theorem Inv.tuple_inj (I : Inv X pins σ H s) (h : SqT X.K H a xs) (h' : SqT X.K H a ys) : xs = ys:=by
 obtain ⟨its,r,⟨o,e,_,n,d⟩,_⟩:=I.tuple h
 obtain ⟨its',r',⟨o',e',_,n',d'⟩,_⟩:=I.tuple h'
 rw [e] at e'; cases e'
 rw [d] at d'
 injection d' with d1 _
 have : its = its':=by simpa using congrArg Array.toList d1
 subst this
 exact r.inj r'
end
abbrev Cx.wish (X : Cx) (E : Value->Shared->Prop) : Cx:={ X with xe:=E }
abbrev Cx.nox (X : Cx) : Cx:=X.wish fun _ _ => False
theorem Cx.Ok.wish {X : Cx} (ok : X.Ok) (E : Value->Shared->Prop) : (X.wish E).Ok:=
 ⟨ok.mod,ok.kind,ok.glob,ok.blt,ok.above,ok.inj,ok.has,ok.cab,ok.hd,ok.frames,ok.stk,ok.exf,ok.bs,ok.bsz,ok.noex,ok.exfs,ok.funs,ok.frf⟩
theorem Cx.Ok.unwish {X : Cx} {E : Value->Shared->Prop} (ok : (X.wish E).Ok) : X.Ok:=
 ⟨ok.mod,ok.kind,ok.glob,ok.blt,ok.above,ok.inj,ok.has,ok.cab,ok.hd,ok.frames,ok.stk,ok.exf,ok.bs,ok.bsz,ok.noex,ok.exfs,ok.funs,ok.frf⟩
section
variable {X : Cx} {pins : List (Addr × Obj)} {σ : St} {H : Hp} {s : Shared} {E : Value->Shared->Prop}
theorem Inv.wish (I : Inv X pins σ H s) (E : Value->Shared->Prop) : Inv (X.wish E) pins σ H s:=⟨I.ok.wish E,I.os,I.bare,I.base,I.loc,I.cell,I.free,I.freeC,I.pin,I.hok,I.len⟩
theorem Inv.unwish (I : Inv (X.wish E) pins σ H s) : Inv X pins σ H s:=⟨I.ok.unwish,I.os,I.bare,I.base,I.loc,I.cell,I.free,I.freeC,I.pin,I.hok,I.len⟩
theorem SP.unwish {D : Ends} {f : Flow} {s' : Shared} (h : SP (X.wish E) pins D f s') : SP X pins D f s':=by
 cases f with
 | next => obtain ⟨σ',H',I,q⟩:=h; exact ⟨σ',H',I.unwish,q⟩
 | brk => obtain ⟨σ',H',I,q⟩:=h; exact ⟨σ',H',I.unwish,q⟩
 | cont => obtain ⟨σ',H',I,q⟩:=h; exact ⟨σ',H',I.unwish,q⟩
 | ret u => obtain ⟨v,σ',H',I,r,q⟩:=h; exact ⟨v,σ',H',I.unwish,r,q⟩
theorem PE.nox {e : Expr} {t : TE} (h : PE X.nox e t) : PE X e t:=fun pins s σ H Q I hw =>
 wpAny_mono (h pins s σ H Q (I.wish _) hw) (fun _ _ ⟨v,H',I',r,q⟩ => ⟨v,H',I'.unwish,r,q⟩) fun _ _ z => False.elim z
theorem PT.nox {e : Expr} {t : TT} (h : PT X.nox e t) : PT X e t:=fun pins s σ H Q I hw =>
 wpAny_mono (h pins s σ H Q (I.wish _) hw) (fun _ _ ⟨H',I',q⟩ => ⟨H',I'.unwish,q⟩) fun _ _ z => False.elim z
theorem PSs.nox {st : List Stmt} {t : TS} (h : PSs X.nox st t) : PSs X st t:=fun pins s σ H D I hw =>
 wpAny_mono (h pins s σ H D (I.wish _) hw) (fun _ _ q => q.unwish) fun _ _ z => False.elim z
end
section
variable {X : Cx} {st : Stmt} {rest : List Stmt} {t u : TS} {e : Expr} {te : TE} {pos : Pos}
def pB : TS:=fun D σ H => D.nx σ H
def tSeq (t u : TS) : TS:=fun D σ H => t { D with nx:=u D } σ H
theorem Rq : PSs X [] pB:=fun _ _ σ H _ I h => wpAny_execs_nil ⟨σ,H,I,h⟩
theorem PX (h1 : PS X st t) (h2 : PSs X rest u) : PSs X (st :: rest) (tSeq t u):=by
 intro pins s σ H D I h
 refine wpAny_execs_cons (thn (h1 pins s σ H { D with nx:=u D } I h) fun f s1 q => ?_)
 cases f with
 | next =>
  obtain ⟨σ',H',I',q⟩:=q
  exact h2 pins s1 σ' H' D I' q
 | ret v => exact q
 | brk => exact q
 | cont => exact q
theorem WN (h1 : PS X st t) : PSs X [st] t:=by
 intro pins s σ H D I h
 refine wpAny_execs_cons (thn (h1 pins s σ H D I h) fun f s1 q => ?_)
 cases f with
 | next => exact wpAny_execs_nil q
 | ret v => exact q
 | brk => exact q
 | cont => exact q
theorem Inv.quiet {pins : List (Addr × Obj)} {σ : St} {H : Hp} {s : Shared} (I : Inv X pins σ H s) : interactive X.env = false:=by simp [interactive,I.ok.kind]
def pC (te : TE) : TS:=fun D σ H => te σ H fun _ H1 => D.nx σ H1
theorem Lz (he : PE X e te) (hs : swapsWith e none pos.line X.env = pure false:=by rfl) : PS X (.Expr e pos) (pC te):=by
 intro pins s σ H D I h
 exact wpAny_Expr_any (thn (he pins s σ H _ I h) fun v s1 ⟨x,H1,I1,r1,q1⟩ => ⟨σ,H1,I1,q1⟩) I.quiet hs
def tRet (te : TE) : TS:=fun D σ H => te σ H D.rt
theorem l_ (he : PE X e te) : PS X (.Return (some e) pos) (tRet te):=by
 intro pins s σ H D I h
 exact wpAny_Return_some (thn (he pins s σ H _ I h) fun v s1 ⟨x,H1,I1,r1,q1⟩ => ⟨x,σ,H1,I1,r1,q1⟩)
def tIfS (c : TT) (t u : TS) : TS:=fun D σ H => c σ H fun b H1 => if b = true then t D σ H1 else u D σ H1
theorem jb {c : Expr} {a b : List Stmt} {tc : TT} (hc : PT X c tc) (ha : PSs X a t) (hb : PSs X b u) : PS X (.If c a b pos) (tIfS tc t u):=by
 intro pins s σ H D I h
 refine wpAny_If (thn (hc pins s σ H _ I h) fun d s1 ⟨H1,I1,q1⟩ => ?_)
 cases d with
 | true => exact ha pins s1 σ H1 D I1 q1
 | false => exact hb pins s1 σ H1 D I1 q1
end
abbrev TG:=V->St->Hp->(St->Hp->Prop)->Prop
abbrev TGs:=List V->St->Hp->(St->Hp->Prop)->Prop
def PG (X : Cx) (target : Expr) (t : TG) : Prop:=
 ∀ (pins : List (Addr × Obj)) (s : Shared) (σ : St) (H : Hp) (v : V) (u : Value) (Q : St->Hp->Prop),Inv X pins σ H s->RelV v u->t v σ H Q ->
  wpAny (model X.prog X.w) X.A (assign target X.env u) (fun _ s' => ∃ σ' H',Inv X pins σ' H' s'/\Q σ' H') X.xe s
def PGs (X : Cx) (ts : List Expr) (t : TGs) : Prop:=
 ∀ (pins : List (Addr × Obj)) (s : Shared) (σ : St) (H : Hp) (vs : List V) (us : List Value) (Q : St->Hp->Prop),Inv X pins σ H s->Vals vs us->t vs σ H Q ->
  wpAny (model X.prog X.w) X.A (assignInOrder ((assignEach ts X.env).map (·.2)) us) (fun _ s' => ∃ σ' H',Inv X pins σ' H' s'/\Q σ' H') X.xe s
abbrev TSet:=V->V->V->Hp->(Hp->Prop)->Prop
def PSet (X : Cx) (t : TSet) : Prop:=
 ∀ (pins : List (Addr × Obj)) (s : Shared) (σ : St) (H : Hp) (o i v : V) (ov iv u : Value) (Q : Hp->Prop),Inv X pins σ H s->RelV o ov->RelV i iv->RelV v u->t o i v H Q ->
  wpAny (model X.prog X.w) X.A (setItem ov iv u) (fun _ s' => ∃ H',Inv X pins σ H' s'/\Q H') X.xe s
section
variable {X : Cx} {pos : Pos}
def Jv (i : Nat) : TG:=fun v σ H Q => Q (σ.set i (some v)) H
theorem fP {i : Nat} {x : Str} (hN : X.N.Nodup) (hi : X.N[i]? = some x) (hx : Loc X.env.scope x) (hf : X.fn x = true ∨ X.env.scope.names.lookup x = some .local:=by first | exact .inl rfl | exact .inr rfl | assumption) : PG X (.Name x pos) (Jv i):=by
 intro pins s σ H v u Q I r h
 exact wpAny_assign_Name (PQ I hN hi hx r (fun s' I' => ⟨_,H,I',h⟩) hf)
def gNil : TGs:=fun vs σ H Q => vs = []/\Q σ H
def pD (t : TG) (u : TGs) : TGs:=fun vs σ H Q => ∃ v r,vs = v :: r/\t v σ H fun σ' H' => u r σ' H' Q
theorem fQ : PGs X [] gNil:=by
 intro pins s σ H vs us Q I r h
 obtain ⟨e,h⟩:=h
 subst e
 cases r
 exact assignInOrder_nil ⟨σ,H,I,h⟩
theorem Zc {e : Expr} {es : List Expr} {t : TG} {u : TGs} (h1 : PG X e t) (h2 : PGs X es u)
  (hs : (assignEach (e :: es) X.env).map (·.2) = assign e X.env :: (assignEach es X.env).map (·.2):=by rfl) : PGs X (e :: es) (pD t u):=by
 intro pins s σ H vs us Q I r h
 obtain ⟨v,vr,e1,h⟩:=h
 subst e1
 cases r with
 | cons r rr =>
  rw [hs]
  refine assignInOrder_cons (thn (h1 pins s σ H _ _ _ I r h) fun _ s1 ⟨σ1,H1,I1,q1⟩ => ?_)
  exact h2 pins s1 σ1 H1 _ _ Q I1 rr q1
def gTup (K : PySem.W.Frag) (n : Nat) (t : TGs) : TG:=fun v σ H Q => ∃ a xs,v = .ref a/\SqT K H a xs/\xs.length = n/\t xs σ H Q
theorem mC {es : List Expr} {k : Nat} {t : TGs} {n : Nat} (hc : X.calm = true) (h : PGs X es t)
  (hn : (assignEach es X.env).length = n:=by rfl) (hst : (assignEach es X.env).findIdx? (·.1) = none:=by rfl) : PG X (.Tuple es k pos) (gTup X.K n t):=by
 intro pins s σ H v u Q I r hw
 obtain ⟨a,xs,e1,hq,hl,hw⟩:=hw
 subst e1
 cases r
 obtain ⟨its,rv,ht,hz⟩:=I.tuple hq
 refine assign_Tuple_tuple (I.ok.hd hc) ht (by simp [hn,<-hl,rv.length]) hst fun h' hx => ?_
 have I1 : Inv X pins σ H { s with heap:=h' }:=I.kept (t':=s.toks) fun b o e => hx b o (Nat.ne_of_lt (Heap.lt_size e)) e
 exact h pins _ σ H xs _ Q I1 (by simpa using rv) hw
def gSub (to ti : TE) (t : TSet) : TG:=fun v σ H Q => to σ H fun o H1 => ti σ H1 fun i H2 => t o i v H2 fun H3 => Q σ H3
theorem mD {o i : Expr} {to ti : TE} {t : TSet} (ho : PE X o to) (hi : PE X i ti) (hs : PSet X t)
  (ha : ∀ v,assign (.Subscript o i pos) X.env v = (do
   let ov <-holding [v] (eval o X.env)
   let iv <-holding [v,ov] (eval i X.env)
   standAt pos
   holding [v,ov,iv] (setItem ov iv v)
   release [v,ov,iv] []):=by intro _; rfl) : PG X (.Subscript o i pos) (gSub to ti t):=by
 intro pins s σ H v u Q I r h
 rw [ha]
 refine wpAny_bind (wpAny_holding (thn (ho pins s σ H _ I h) fun ov s1 ⟨x,H1,I1,r1,q1⟩ => ?_))
 refine wpAny_bind (wpAny_holding (thn (hi pins s1 σ H1 _ I1 q1) fun iv s2 ⟨y,H2,I2,r2,q2⟩ => ?_))
 refine wpAny_bind (wpAny_standAt (wpAny_bind (wpAny_holding (thn (hs pins s2 σ H2 x y v ov iv u _ I2 r1 r2 r q2) fun _ s3 ⟨H3,I3,q3⟩ => ?_))))
 exact wpAny_release ⟨σ,H3,I3,q3⟩
def tAsg (te : TE) (g : TG) : TS:=fun D σ H => te σ H fun x H1 => g x σ H1 D.nx
theorem Zd {tg e : Expr} {te : TE} {g : TG} (he : PE X e te) (hg : PG X tg g) (hs : swapsWithSole [tg] e pos.line X.env = pure false:=by rfl) (hw : swappedStores [tg] e X.env = pure none:=by rfl)
  (h1 : (assignEach [tg] X.env).map (·.2) = [assign tg X.env]:=by rfl) : PS X (.Assign [tg] e pos) (tAsg te g):=by
 intro pins s σ H D I h
 refine wpAny_Assign_stores (thn (he pins s σ H _ I h) fun v s1 ⟨x,H1,I1,r1,q1⟩ => ?_) hs hw
 rw [h1]
 exact thn (hg pins s1 σ H1 x v _ I1 r1 q1) fun _ s2 q => q
theorem U_ {i : Nat} {x : Str} {e : Expr} {te : TE} {pos' : Pos} (hN : X.N.Nodup) (hi : X.N[i]? = some x) (hx : Loc X.env.scope x) (he : PE X e te) (hs : swapsWith e (some (.Name x pos')) pos.line X.env = pure false:=by rfl) (hf : X.fn x = true ∨ X.env.scope.names.lookup x = some .local:=by first | exact .inl rfl | exact .inr rfl | assumption) :
  PS X (.Assign [.Name x pos'] e pos) (tAsg te (Jv i)):=by
 intro pins s σ H D I h
 refine wpAny_Assign_Name (thn (he pins s σ H _ I h) fun v s1 ⟨y,H1,I1,r1,q1⟩ => ?_) hs
 exact PQ I1 hN hi hx r1 (fun s2 I2 => ⟨_,H1,I2,q1⟩) hf
end
section
variable {X : Cx} {pos : Pos}
def mF (c : TT) (tb : TS) : TS:=fun D σ H => ∃ W : Nat->St->Hp->Prop,(∃ m,W m σ H)/\∀ m σ H,W m σ H ->
 c σ H fun b H1 => if b = true then ∃ N : St->Hp->Prop,(∀ σ' H',N σ' H'->∃ m',m' < m/\W m' σ' H')/\tb { D with nx:=N,ct:=N,bk:=D.nx } σ H1 else D.nx σ H1
theorem Ze {c : Expr} {body : List Stmt} {tc : TT} {tb : TS} (hp : PassesOwn (model X.prog X.w) X.A X.env X.xe) (hc : PT X c tc) (hb : PSs X body tb) : PS X (.While c body [] pos) (mF tc tb):=by
 intro pins s σ H D I h
 obtain ⟨W,⟨m0,w0⟩,turn⟩:=h
 refine wpAny_While (codeAny_whileLoop (fun n s' => ∃ σ' H',Inv X pins σ' H' s'/\W n σ' H') ?_ m0 ⟨σ,H,I,w0⟩)
 rintro n s1 ⟨σ1,H1,I1,w1⟩
 refine wpAny_passesOwn hp (thn (hc pins s1 σ1 H1 _ I1 (turn n σ1 H1 w1)) fun b s2 ⟨H2,I2,q2⟩ => ?_)
 cases b with
 | true =>
  obtain ⟨N,hN,q2⟩:=q2
  rw [if_pos rfl]
  refine wpAny_passesOwn hp (thn (hb pins s2 σ1 H2 _ I2 q2) fun f s3 q3 => ?_)
  cases f with
  | next =>
   obtain ⟨σ3,H3,I3,n3⟩:=q3
   obtain ⟨m',hm,w3⟩:=hN σ3 H3 n3
   exact ⟨m',hm,σ3,H3,I3,w3⟩
  | cont =>
   obtain ⟨σ3,H3,I3,n3⟩:=q3
   obtain ⟨m',hm,w3⟩:=hN σ3 H3 n3
   exact ⟨m',hm,σ3,H3,I3,w3⟩
  | brk => exact q3
  | ret v => exact q3
 | false =>
  rw [if_neg Bool.false_ne_true]
  exact wpAny_execs_nil ⟨σ1,H2,I2,q2⟩
end
structure It where
 go : Nat->Hp->Prop
 yld : Nat->Hp->V->Hp->Prop
 stop : Nat->Hp->Prop
def FpOk (X : Cx) (pins : List (Addr × Obj)) (H : Hp) (b : Addr) : Prop:=
 H b = none/\b ≠ X.env.locals/\b ∉ X.fs/\(b ∈ X.ex ∨ X.s₀.heap.objs.size<=b)/\(∀ x c,X.env.cells.lookup x = some c->c ≠ b)/\∀ p ∈ X.pn ++ pins,p.1 ≠ b
theorem Inv.fpOk {X : Cx} {pins : List (Addr × Obj)} {σ : St} {H H' : Hp} {s : Shared} {b : Addr} (I : Inv X pins σ H s) (hb : s.heap.objs.size<=b) (hn : H' b = none) : FpOk X pins H' b:=by
 refine ⟨hn,Nat.ne_of_gt (Nat.lt_of_lt_of_le I.lt hb),I.nofs hb,.inr (Nat.le_trans I.sz hb),fun x c e z => ?_,fun p hp z => ?_⟩
 ·obtain ⟨v,q⟩:=I.cell x c e
  exact absurd (Nat.lt_of_lt_of_le q.lt (by rw [z]; exact hb)) (Nat.lt_irrefl _)
 ·exact absurd (Nat.lt_of_lt_of_le (Heap.lt_size (I.pin p hp).1) (by rw [z]; exact hb)) (Nat.lt_irrefl _)
structure Turn (P : Program) (w : World) (K : PySem.W.Frag) (tg : Expr) (J : It) (fp : List Addr) (it : Addr) (tn : Nat->Heap->Prop) : Prop where
 mem : it ∈ fp
 obj : ∀ i h,tn i h->∀ b ∈ fp,∃ o,h.get? b = some o/\∀ v,o.data ≠ .cell v
 keep : ∀ i h h',tn i h->(∀ b ∈ fp,∀ o,h.get? b = some o->h'.get? b = some o)->tn i h'
 item : ∀ (X : Cx),X.prog = P->X.w = w->X.K = K->X.calm = true->∀ (i : Nat) (pins : List (Addr × Obj)) (s : Shared) (σ : St) (H : Hp) (E : Value->Shared->Prop),Inv X pins σ H s->(∀ b ∈ fp,FpOk X pins H b)->tn i s.heap->J.go i H ->
  wpAny (model P w) X.A (pyNext (.ref it)) (fun r s1 => ∃ u,r = some u ∧
   wpAny (model P w) X.A (letOwnedTupleGo tg (.ref it) u) (fun _ s2 => ∃ x H',Inv X pins σ H' s2/\RelV x u/\J.yld i H x H'/\tn (i + 1) s2.heap/\∀ b ∈ fp,H' b = none) E s1) E s
 done : ∀ (X : Cx),X.prog = P->X.w = w->X.K = K->X.calm = true->∀ (i : Nat) (pins : List (Addr × Obj)) (s : Shared) (σ : St) (H : Hp) (E : Value->Shared->Prop),Inv X pins σ H s->(∀ b ∈ fp,FpOk X pins H b)->tn i s.heap->J.stop i H ->
  wpAny (model P w) X.A (pyNext (.ref it)) (fun r s1 => r = none/\Inv X pins σ H s1) E s
 self : ∀ (A : Around) (i : Nat) (s : Shared) (Q : Value->Shared->Prop) (E : Value->Shared->Prop),tn i s.heap->Q (.ref it) s->wpAny (model P w) A (pyIter (.ref it)) Q E s
abbrev TI:=St->Hp->(It->Hp->Prop)->Prop
def PIE (X : Cx) (pins : List (Addr × Obj)) (σ : St) (tg : Expr) (R : It->Hp->Prop) (itv : Value) (s2 : Shared) : Prop:=
 ∃ (it : Addr) (fp : List Addr) (tn : Nat->Heap->Prop) (J : It) (H' : Hp),itv = .ref it/\Inv X pins σ H' s2/\Turn X.prog X.w X.K tg J fp it tn/\tn 0 s2.heap/\(∀ b ∈ fp,FpOk X pins H' b)/\R J H'
def PI (X : Cx) (tg iter : Expr) (wi : TI) : Prop:=
 ∀ (pins : List (Addr × Obj)) (s : Shared) (σ : St) (H : Hp) (R : It->Hp->Prop),Inv X pins σ H s->wi σ H R ->
  wpAny (model X.prog X.w) X.A (eval iter X.env) (fun v s1 => wpAny (model X.prog X.w) X.A (pyIter v) (PIE X pins σ tg R) X.xe s1) X.xe s
theorem Ti {M : Model} {A : Around} {E : Value->Shared->Prop} {s : Shared} {tg : Expr} {it : Addr} {u : Value} {o : Obj} {n : String} {vs : Array Value} {Q : Unit->Shared->Prop} (ho : s.heap.get? it = some o) (hc : o.cls = .type n) (hd : o.data = .fields vs)
    (hn : ["enumerate", "zip", "dict_itemiterator", "dict_reverseitemiterator", "odict_iterator", "itertools.zip_longest", "itertools.pairwise"].contains n = false) (hQ : Q () s) : wpAny M A (letOwnedTupleGo tg (.ref it) u) Q E s:=by
  unfold letOwnedTupleGo
  cases tg <;> first
    | exact wpAny_pure hQ
    | (cases u <;> first
        | exact wpAny_pure hQ
        | (refine wpAny_bind (wpAny_load ho ?_)
           rw [hc,hd]
           show wpAny M A (if (["enumerate", "zip", "dict_itemiterator", "dict_reverseitemiterator", "odict_iterator", "itertools.zip_longest", "itertools.pairwise"].contains n && vs[0]? == some (rawInt _)) = true then _ else _) Q E s
           rw [if_neg (by intro h; rw [hn,Bool.false_and] at h; cases h)]
           exact wpAny_pure hQ))
def Itl (K : PySem.W.Frag) (a : Addr) : It:=
 ⟨fun i H => ∃ xs x,SqL K H a xs/\xs[i]? = some x,fun i H x H' => H' = H/\∀ xs,SqL K H a xs->xs[i]? = some x,fun i H => ∃ xs,SqL K H a xs/\xs.length<=i⟩
def Itt (K : PySem.W.Frag) (a : Addr) : It:=
 ⟨fun i H => ∃ xs x,SqT K H a xs/\xs[i]? = some x,fun i H x H' => H' = H/\∀ xs,SqT K H a xs->xs[i]? = some x,fun i H => ∃ xs,SqT K H a xs/\xs.length<=i⟩
def Itr (lo : Int) (n : Nat) : It:=⟨fun i _ => i < n,fun i H x H' => H' = H/\x = .int (lo + i),fun i _ => n<=i⟩
theorem Yc {P : Program} {w : World} {K : PySem.W.Frag} {tg : Expr} (a it : Addr) : Turn P w K tg (Itl K a) [it] it (fun i h => h.IsListIter it a i) where
 mem:=by simp
 obj:=fun i h st b hb => by
  have e : b = it:=by simpa using hb
  subst e
  obtain ⟨o,e,c,d⟩:=st
  exact ⟨o,e,fun v z => by rw [d] at z; cases z⟩
 keep:=fun i h h' st k => st.at fun o e => k it (by simp) o e
 item:=by
  intro X hP hw hK hc i pins s σ H E I hf st hg
  subst hP hw hK
  obtain ⟨xs,x,hq,hx⟩:=hg
  obtain ⟨its,rv,p,hz⟩:=I.list hq
  obtain ⟨u,hu,ru⟩:=rv.get hx
  obtain ⟨f0,f1,f2,f3,f4,f5⟩:=hf it (by simp)
  refine wpAny_pyNext_list_item st p.isList (x:=u) (by simpa using hu) fun h' st' sb => ?_
  have I1 : Inv X pins σ H { s with heap:=h' }:=I.turned (t':=s.toks) (fun b o hb e => (sb.2 b hb).trans e) f0 f1 f3 f4 f5
  obtain ⟨o,e,c,d⟩:=id st'
  exact ⟨u,rfl,Ti (s:={ s with heap:=h' }) e c d (by decide) ⟨x,H,I1,ru,⟨rfl,fun ys hy => by rw [I.list_inj hy hq]; exact hx⟩,st',fun b hb => (hf b hb).1⟩⟩
 done:=by
  intro X hP hw hK hc i pins s σ H E I hf st hg
  subst hP hw hK
  obtain ⟨xs,hq,hx⟩:=hg
  obtain ⟨its,rv,p,hz⟩:=I.list hq
  obtain ⟨f0,f1,f2,f3,f4,f5⟩:=hf it (by simp)
  have hl:=rv.length
  exact wpAny_pyNext_list_end (I.ok.hd hc) st p.isList (by simp; omega) fun h' eb => ⟨rfl,I.turned (t':=s.toks) (fun b o hb e => eb b o hb e) f0 f1 f3 f4 f5⟩
 self:=fun _ _ _ _ _ st h => wpAny_pyIter_listiter st h
theorem VB {P : Program} {w : World} {K : PySem.W.Frag} {tg : Expr} (a it : Addr) : Turn P w K tg (Itt K a) [it] it (fun i h => h.IsTupleIter it a i) where
 mem:=by simp
 obj:=fun i h st b hb => by
  have e : b = it:=by simpa using hb
  subst e
  obtain ⟨o,e,c,d⟩:=st
  exact ⟨o,e,fun v z => by rw [d] at z; cases z⟩
 keep:=fun i h h' st k => st.at fun o e => k it (by simp) o e
 item:=by
  intro X hP hw hK hc i pins s σ H E I hf st hg
  subst hP hw hK
  obtain ⟨xs,x,hq,hx⟩:=hg
  obtain ⟨its,rv,p,hz⟩:=I.tuple hq
  obtain ⟨u,hu,ru⟩:=rv.get hx
  obtain ⟨f0,f1,f2,f3,f4,f5⟩:=hf it (by simp)
  refine wpAny_pyNext_tuple_item st (show s.heap.IsTuple a its.toArray from p) (x:=u) (by simpa using hu) fun h' st' sb => ?_
  have I1 : Inv X pins σ H { s with heap:=h' }:=I.turned (t':=s.toks) (fun b o hb e => (sb.2 b hb).trans e) f0 f1 f3 f4 f5
  obtain ⟨o,e,c,d⟩:=id st'
  exact ⟨u,rfl,Ti (s:={ s with heap:=h' }) e c d (by decide) ⟨x,H,I1,ru,⟨rfl,fun ys hy => by rw [I.tuple_inj hy hq]; exact hx⟩,st',fun b hb => (hf b hb).1⟩⟩
 done:=by
  intro X hP hw hK hc i pins s σ H E I hf st hg
  subst hP hw hK
  obtain ⟨xs,hq,hx⟩:=hg
  obtain ⟨its,rv,p,hz⟩:=I.tuple hq
  obtain ⟨f0,f1,f2,f3,f4,f5⟩:=hf it (by simp)
  have hl:=rv.length
  exact wpAny_pyNext_tuple_end (I.ok.hd hc) st (show s.heap.IsTuple a its.toArray from p) (by simp; omega) fun h' eb => ⟨rfl,I.turned (t':=s.toks) (fun b o hb e => eb b o hb e) f0 f1 f3 f4 f5⟩
 self:=fun _ _ _ _ _ st h => wpAny_pyIter_tupleiter st h
theorem VD {P : Program} {w : World} {K : PySem.W.Frag} {tg : Expr} (it : Addr) (lo : Int) (n : Nat) : Turn P w K tg (Itr lo n) [it] it (fun i h => IsRangeIter h it (lo + (i : Nat) * 1) ((n : Int) - (i : Nat)) 1) where
 mem:=by simp
 obj:=fun i h st b hb => by
  have e : b = it:=by simpa using hb
  subst e
  exact ⟨_,st,fun v z => by
   have z' : Data.fields _ = Data.cell v:=z
   cases z'⟩
 keep:=fun i h h' st k => k it (by simp) _ st
 item:=by
  intro X hP hw hK hc i pins s σ H E I hf st hg
  subst hP hw hK
  obtain ⟨f0,f1,f2,f3,f4,f5⟩:=hf it (by simp)
  have W:=Walks.range (prog:=X.prog) (w:=X.w) (I.ok.hd hc) it lo 1 n
  refine W.item i s _ _ hg st fun v h' tk hv st' kk => ?_
  obtain ⟨t,rfl⟩:=hv
  have I1 : Inv X pins σ H { s with heap:=h',toks:=tk }:=I.turned (fun b o hb e => kk b o (by simpa using hb) e) f0 f1 f3 f4 f5
  refine ⟨_,rfl,Ti (s:={ s with heap:=h',toks:=tk }) (n := "range_iterator") st' rfl rfl (by decide) ⟨.int (lo + i),H,I1,⟨t,?_⟩,⟨rfl,rfl⟩,st',fun b hb => (hf b hb).1⟩⟩
  rw [Int.mul_one]
 done:=by
  intro X hP hw hK hc i pins s σ H E I hf st hg
  subst hP hw hK
  obtain ⟨f0,f1,f2,f3,f4,f5⟩:=hf it (by simp)
  exact wpAny_pyNext_range_end (I.ok.hd hc) st (by have : n<=i:=hg; omega) fun h' eb => ⟨rfl,I.turned (t':=s.toks) (fun b o hb e => eb b o hb e) f0 f1 f3 f4 f5⟩
 self:=fun _ _ _ _ _ st h => wpAny_pyIter_rangeiter st h
end L2
namespace L2
open PySem PySem.Spec PyProof.Rows
section
variable {X : Cx} {tg : Expr}
def pF (K : PySem.W.Frag) (tl : TE) : TI:=fun σ H R => tl σ H fun x H1 => ∃ a,x = .ref a/\(∃ xs,SqL K H1 a xs)/\R (Itl K a) H1
def iTup (K : PySem.W.Frag) (tl : TE) : TI:=fun σ H R => tl σ H fun x H1 => ∃ a,x = .ref a/\(∃ xs,SqT K H1 a xs)/\R (Itt K a) H1
theorem WP {l : Expr} {tl : TE} (hl : PE X l tl) : PI X tg l (pF X.K tl):=by
 intro pins s σ H R I h
 refine thn (hl pins s σ H _ I h) fun v s1 ⟨x,H1,I1,r1,q1⟩ => ?_
 obtain ⟨a,e,⟨xs,hq⟩,q⟩:=q1
 subst e
 cases r1
 obtain ⟨its,rv,p,hz⟩:=I1.list hq
 refine wpAny_pyIter_list p.isList ?_
 refine ⟨s1.heap.objs.size,[s1.heap.objs.size],_,_,H1,rfl,I1.kept (t':=s1.toks) fun b o e => Heap.get?_push_of_some _ e,Yc a _,⟨_,Heap.get?_push_size _ rfl,rfl,rfl⟩,fun b hb => ?_,q⟩
 have e : b = s1.heap.objs.size:=by simpa using hb
 subst e
 exact I1.fpOk (Nat.le_refl _) (I1.hok.fresh (Nat.le_refl _))
theorem Zf {l : Expr} {tl : TE} (hl : PE X l tl) : PI X tg l (iTup X.K tl):=by
 intro pins s σ H R I h
 refine thn (hl pins s σ H _ I h) fun v s1 ⟨x,H1,I1,r1,q1⟩ => ?_
 obtain ⟨a,e,⟨xs,hq⟩,q⟩:=q1
 subst e
 cases r1
 obtain ⟨its,rv,p,hz⟩:=I1.tuple hq
 refine wpAny_pyIter_tuple (show s1.heap.IsTuple a its.toArray from p) ?_
 refine ⟨s1.heap.objs.size,[s1.heap.objs.size],_,_,H1,rfl,I1.kept (t':=s1.toks) fun b o e => Heap.get?_push_of_some _ e,VB a _,⟨_,Heap.get?_push_size _ rfl,rfl,rfl⟩,fun b hb => ?_,q⟩
 have e : b = s1.heap.objs.size:=by simpa using hb
 subst e
 exact I1.fpOk (Nat.le_refl _) (I1.hok.fresh (Nat.le_refl _))
theorem Zg {pins : List (Addr × Obj)} {σ : St} {H : Hp} {s : Shared} {R : It->Hp->Prop} {E : Value->Shared->Prop} {lo hi : Int} {t u v : Tok} {tk : Nat} (I : Inv X pins σ H s) (h1 : -(2 ^ 62)<=lo) (h2 : lo < 2 ^ 62) (h3 : -(2 ^ 62)<=hi) (h4 : hi < 2 ^ 62)
  (q : R (Itr lo (hi - lo).toNat) H) : wpAny (model X.prog X.w) X.A (pyIter (.ref s.heap.objs.size)) (PIE X pins σ tg R) E { s with heap:=s.heap.push { cls:=.type "range",data:=.fields #[.int lo t,.int hi u,.int 1 v] },toks:=tk }:=by
 refine wpAny_pyIter_range (IsRange.new ..) (small_one h1 h2 h3 h4) ?_
 have I1 : Inv X pins σ H { s with heap:=s.heap.push { cls:=.type "range",data:=.fields #[.int lo t,.int hi u,.int 1 v] },toks:=tk }:=I.kept fun b o e => Heap.get?_push_of_some _ e
 refine ⟨(s.heap.push { cls:=.type "range",data:=.fields #[.int lo t,.int hi u,.int 1 v] }).objs.size,[(s.heap.push { cls:=.type "range",data:=.fields #[.int lo t,.int hi u,.int 1 v] }).objs.size],_,_,H,rfl,
  I1.kept (t':=tk) fun b o e => Heap.get?_push_of_some _ e,VD _ lo (hi - lo).toNat,?_,fun b hb => ?_,q⟩
 ·have e1 : lo + ((0 : Nat) : Int) * 1 = lo:=by simp
  have e2 : (((hi - lo).toNat : Nat) : Int) - ((0 : Nat) : Int) = Builtin.Range.rangeSize lo hi 1:=by rw [rangeSize_one]; split <;> omega
  show IsRangeIter _ _ (lo + ((0 : Nat) : Int) * 1) ((((hi - lo).toNat : Nat) : Int) - ((0 : Nat) : Int)) 1
  rw [e1,e2]
  exact Heap.get?_push_size _ rfl
 ·have e : b = (s.heap.push { cls:=.type "range",data:=.fields #[.int lo t,.int hi u,.int 1 v] }).objs.size:=by simpa using hb
  subst e
  exact I1.fpOk (Nat.le_refl _) (I1.hok.fresh (Nat.le_refl _))
def pG (ta : TA) : TI:=fun σ H R => ta σ H fun vs H1 => ∃ j : Int,vs = [.int j]/\-(2 ^ 62)<=j/\j < 2 ^ 62/\R (Itr 0 j.toNat) H1
theorem Yd {a : Expr} {ta : TA} {p pos : Pos} (hg : Gl X "range") (hm : X.mg "range" = none) (ha : PA X [a] ta) (hs : starEach [a] X.env = [(false,eval a X.env)]:=by rfl) : PI X tg (.Call (.Name "range" p) [a] [] pos) (pG ta):=by
 intro pins s σ H R I h
 refine Call_ (Rp I hg hm boot_range (PyProof.Rows.callWith_type1 (thn (ha pos pins s σ H _ I h) fun us s1 ⟨vs,H1,I1,r1,q1⟩ => ?_) hs rfl))
 obtain ⟨j,e,q1,q2,q⟩:=q1
 subst e
 cases r1 with
 | cons r rr =>
  cases rr
  obtain ⟨t,rfl⟩:=r
  exact call_range_1 (Zg I1 (by omega) (by omega) q1 q2 (by simpa using q))
def tFor (wi : TI) (g : TG) (tb : TS) : TS:=fun D σ H => wi σ H fun J H1 => ∃ W : Nat->Nat->St->Hp->Prop,(∃ m,W 0 m σ H1)/\∀ i m σ H,W i m σ H ->
 (J.stop i H/\D.nx σ H) ∨ (J.go i H/\∃ N : St->Hp->Prop,(∀ σ' H',N σ' H'->∃ m',m' < m/\W (i + 1) m' σ' H')/\∀ x H',J.yld i H x H'->g x σ H' fun σ2 H2 => tb { D with nx:=N,ct:=N,bk:=D.nx } σ2 H2)
def Pa (fp : List Addr) (h : Heap) : List (Addr × Obj):=fp.filterMap fun b => (h.get? b).map fun o => (b,o)
theorem JV {fp : List Addr} {h : Heap} {b : Addr} {o : Obj} (hb : b ∈ fp) (e : h.get? b = some o) : (b,o) ∈ Pa fp h:=List.mem_filterMap.mpr ⟨b,hb,by rw [e]; rfl⟩
theorem Ye {fp : List Addr} {h : Heap} {p : Addr × Obj} (hp : p ∈ Pa fp h) : p.1 ∈ fp/\h.get? p.1 = some p.2:=by
 obtain ⟨b,hb,e⟩:=List.mem_filterMap.mp hp
 cases q : h.get? b with
 | none => rw [q] at e; cases e
 | some o =>
  rw [q] at e
  have e' : (b,o) = p:=Option.some.inj e
  subst e'
  exact ⟨hb,q⟩
theorem Inv.pinned {pins : List (Addr × Obj)} {σ : St} {H : Hp} {s : Shared} {fp : List Addr} (I : Inv X pins σ H s) (hf : ∀ b ∈ fp,FpOk X pins H b) (ho : ∀ b ∈ fp,∃ o,s.heap.get? b = some o/\∀ v,o.data ≠ .cell v) : Inv X (pins ++ Pa fp s.heap) σ H s:=
 I.pins_of fun p hp => (List.mem_append.mp hp).elim (fun z => I.pin p (List.mem_append_right _ z)) fun z => by
  obtain ⟨hb,e⟩:=Ye z
  obtain ⟨f0,f1,f2,_⟩:=hf p.1 hb
  obtain ⟨o,e',d⟩:=ho p.1 hb
  rw [e] at e'; cases e'
  exact ⟨e,f0,f1,f2,d⟩
theorem Inv.unpinned {pins pl : List (Addr × Obj)} {σ : St} {H : Hp} {s : Shared} (I : Inv X (pins ++ pl) σ H s) : Inv X pins σ H s:=I.pins_of fun p hp => I.pin p (List.mem_append_right _ (List.mem_append_left _ hp))
theorem Zh {iter : Expr} {body : List Stmt} {wi : TI} {g : TG} {tb : TS} {pos : Pos} (hp : PassesOwn (model X.prog X.w) X.A X.env X.xe) (hc : X.calm = true) (hi : PI X tg iter wi) (hg : PG X tg g) (hb : PSs X body tb)
  (hs : ∀ x,foldedSetIterable iter X.env x = pure x:=by intro _; rfl) : PS X (.For tg iter body [] pos) (tFor wi g tb):=by
 intro pins s σ H D I h
 refine wpAny_For (thn (hi pins s σ H _ I h) fun v s1 h1 => thn h1 fun itv s2 h2 => ?_) hs
 obtain ⟨it,fp,tn,J,H2,e,I2,T,st2,f2,W,⟨m0,w0⟩,turn⟩:=h2
 subst e
 have stat : ∀ {H' : Hp},(∀ b ∈ fp,H' b = none)->∀ b ∈ fp,FpOk X pins H' b:=fun hn b hb => ⟨hn b hb,(f2 b hb).2⟩
 refine codeAny_forLoop_any (fun n s' => ∃ i σ' H',Inv X pins σ' H' s'/\tn i s'.heap/\(∀ b ∈ fp,H' b = none)/\W i n σ' H') ?_ m0 ⟨0,σ,H2,I2,st2,fun b hb => (f2 b hb).1,w0⟩
 rintro n s3 ⟨i,σ3,H3,I3,st3,fr3,w3⟩
 rcases turn i n σ3 H3 w3 with ⟨stop,qn⟩ | ⟨go,N,hN,step⟩
 ·refine wpAny_passesOwn hp (thn (T.done X rfl rfl rfl hc i pins s3 σ3 H3 X.xe I3 (stat fr3) st3 stop) fun r s4 ⟨hr,I4⟩ => ?_)
  subst hr
  exact wpAny_execs_nil ⟨σ3,H3,I4,qn⟩
 ·refine wpAny_passesOwn hp (thn (T.item X rfl rfl rfl hc i pins s3 σ3 H3 X.xe I3 (stat fr3) st3 go) fun r s4 ⟨u,hr,h4⟩ => ?_)
  subst hr
  refine wpAny_passesOwn hp (thn h4 fun _ s5 ⟨x,H5,I5,r5,y5,st5,fr5⟩ => ?_)
  have I5':=I5.pinned (stat fr5) (T.obj _ _ st5)
  refine wpAny_passesOwn hp (thn (hg _ s5 σ3 H5 x u _ I5' r5 (step x H5 y5)) fun _ s6 ⟨σ6,H6,I6,q6⟩ => ?_)
  refine wpAny_passesOwn hp (thn (hb _ s6 σ6 H6 _ I6 q6) fun f s7 q7 => ?_)
  have again : ∀ {σ7 : St} {H7 : Hp},Inv X (pins ++ Pa fp s5.heap) σ7 H7 s7->N σ7 H7->∃ m,m < n/\∃ i σ' H',Inv X pins σ' H' s7/\tn i s7.heap/\(∀ b ∈ fp,H' b = none)/\W i m σ' H':=fun {σ7 H7} I7 n7 => by
   obtain ⟨m',hm,w7⟩:=hN σ7 H7 n7
   refine ⟨m',hm,i + 1,σ7,H7,I7.unpinned,T.keep _ _ _ st5 fun b hb o e => (I7.pin (b,o) (List.mem_append_right _ (List.mem_append_right _ (JV hb e)))).1,fun b hb => ?_,w7⟩
   obtain ⟨o,e,d⟩:=T.obj _ _ st5 b hb
   exact (I7.pin (b,o) (List.mem_append_right _ (List.mem_append_right _ (JV hb e)))).2.1
  cases f with
  | next => obtain ⟨σ7,H7,I7,n7⟩:=q7; exact again I7 n7
  | cont => obtain ⟨σ7,H7,I7,n7⟩:=q7; exact again I7 n7
  | brk => obtain ⟨σ7,H7,I7,q7⟩:=q7; exact ⟨σ7,H7,I7.unpinned,q7⟩
  | ret v => obtain ⟨x7,σ7,H7,I7,r7,q7⟩:=q7; exact ⟨x7,σ7,H7,I7.unpinned,r7,q7⟩
end
end L2
namespace L2
open PySem PySem.Spec PyProof.Rows
abbrev R2:=V->V->Hp->VK->Prop
def OpR (X : Cx) (f : Value->Value->Sem Value) (r : R2) : Prop:=
 ∀ (pins : List (Addr × Obj)) (s : Shared) (σ : St) (H : Hp) (x y : V) (v u : Value) (Q : VK),Inv X pins σ H s->RelV x v->RelV y u->r x y H Q ->
  wpAny (model X.prog X.w) X.A (f v u) (EP X pins σ Q) X.xe s
def UnR (X : Cx) (f : Value->Sem Value) (r : V->Hp->VK->Prop) : Prop:=
 ∀ (pins : List (Addr × Obj)) (s : Shared) (σ : St) (H : Hp) (x : V) (v : Value) (Q : VK),Inv X pins σ H s->RelV x v->r x H Q ->
  wpAny (model X.prog X.w) X.A (f v) (EP X pins σ Q) X.xe s
def Dh (X : Cx) (f : Value) (r : List V->Hp->VK->Prop) : Prop:=
 ∀ (pins : List (Addr × Obj)) (s : Shared) (σ : St) (H : Hp) (xs : List V) (us : List Value) (Q : VK),Inv X pins σ H s->Vals xs us->r xs H Q ->
  wpAny (model X.prog X.w) X.A (call f us) (EP X pins σ Q) X.xe s
def TruR (X : Cx) (r : V->Hp->(Bool->Hp->Prop)->Prop) : Prop:=
 ∀ (pins : List (Addr × Obj)) (s : Shared) (σ : St) (H : Hp) (x : V) (v : Value) (Q : Bool->Hp->Prop),Inv X pins σ H s->RelV x v->r x H Q ->
  wpAny (model X.prog X.w) X.A (truthy v) (TP X pins σ Q) X.xe s
def tOp (r : R2) (ta tb : TE) : TE:=fun σ H Q => ta σ H fun x H1 => tb σ H1 fun y H2 => r x y H2 Q
def tUn (r : V->Hp->VK->Prop) (ta : TE) : TE:=fun σ H Q => ta σ H fun x H1 => r x H1 Q
def rI (C : Int->Int->Prop) (g : Int->Int->V) : R2:=fun x y H Q => ∃ i j,x = .int i/\y = .int j/\C i j/\Q (g i j) H
def rI0 (g : Int->Int->V) : R2:=fun x y H Q => ∃ i j,x = .int i/\y = .int j/\Q (g i j) H
def rU (g : Int->V) : V->Hp->VK->Prop:=fun x H Q => ∃ i,x = .int i/\Q (g i) H
section
variable {X : Cx} {a b c : Expr} {ta tb tc : TE} {pos : Pos}
theorem binT (ha : PE X a ta) (hb : PE X b tb) {pins : List (Addr × Obj)} {s : Shared} {σ : St} {H : Hp} {R : V->V->Hp->Prop} (I : Inv X pins σ H s)
  (h : ta σ H fun x H1 => tb σ H1 fun y H2 => R x y H2) {Q : Value->Shared->Prop} {f : Value->Value->Sem Value}
  (hf : ∀ v u s2 x y H2,Inv X pins σ H2 s2->RelV x v->RelV y u->R x y H2->wpAny (model X.prog X.w) X.A (f v u) Q X.xe s2) :
  wpAny (model X.prog X.w) X.A (eval a X.env) (fun v s₁ => wpAny (model X.prog X.w) X.A (eval b X.env) (fun u s₂ => wpAny (model X.prog X.w) X.A (f v u) Q X.xe s₂) X.xe s₁) X.xe s:=by
 refine thn (ha pins s σ H _ I h) fun v s1 ⟨x,H1,I1,r1,q1⟩ => ?_
 refine thn (hb pins s1 σ H1 _ I1 q1) fun u s2 ⟨y,H2,I2,r2,q2⟩ => ?_
 exact hf v u s2 x y H2 I2 r1 r2 q2
theorem pH {op : Operator} {r : R2} (ho : OpR X (binaryOp op) r) (ha : PE X a ta) (hb : PE X b tb) : PE X (.BinOp a op b pos) (tOp r ta tb):=by
 intro pins s σ H Q I h
 exact wpAny_BinOp (binT ha hb I h fun v u s2 x y H2 I2 rx ry q => ho pins s2 σ H2 x y v u Q I2 rx ry q)
theorem pI {op : UnaryOp} {r : V->Hp->VK->Prop} (ho : UnR X (unaryOp op) r) (ha : PE X a ta) : PE X (.UnaryOp op a pos) (tUn r ta):=by
 intro pins s σ H Q I h
 exact UnaryOp_ (thn (ha pins s σ H _ I h) fun v s1 ⟨x,H1,I1,r1,q1⟩ => ho pins s1 σ H1 x v Q I1 r1 q1)
theorem opI {f : Value->Value->Sem Value} {C : Int->Int->Prop} {g : Int->Int->Int}
  (rule : ∀ (i j : Int) (t u : Tok) (s : Shared) (Q : Value->Shared->Prop) (E : Value->Shared->Prop),C i j->Q (.int (g i j) s.toks) { s with toks:=s.toks + 1 }->wpAny (model X.prog X.w) X.A (f (.int i t) (.int j u)) Q E s) :
  OpR X f (rI C fun i j => .int (g i j)):=by
 intro pins s σ H x y v u Q I rx ry h
 obtain ⟨i,j,rfl,rfl,hc,q⟩:=h
 obtain ⟨t,rfl⟩:=rx
 obtain ⟨t',rfl⟩:=ry
 exact rule i j t t' s _ _ hc ⟨.int (g i j),H,I.tok _,⟨_,rfl⟩,q⟩
theorem opI0 {f : Value->Value->Sem Value} {g : Int->Int->Int}
  (rule : ∀ (i j : Int) (t u : Tok) (s : Shared) (Q : Value->Shared->Prop) (E : Value->Shared->Prop),Q (.int (g i j) s.toks) { s with toks:=s.toks + 1 }->wpAny (model X.prog X.w) X.A (f (.int i t) (.int j u)) Q E s) :
  OpR X f (rI0 fun i j => .int (g i j)):=by
 intro pins s σ H x y v u Q I rx ry h
 obtain ⟨i,j,rfl,rfl,q⟩:=h
 obtain ⟨t,rfl⟩:=rx
 obtain ⟨t',rfl⟩:=ry
 exact rule i j t t' s _ _ ⟨.int (g i j),H,I.tok _,⟨_,rfl⟩,q⟩
theorem opB0 {f : Value->Value->Sem Value} {g : Int->Int->Bool}
  (rule : ∀ (i j : Int) (t u : Tok) (s : Shared) (Q : Value->Shared->Prop) (E : Value->Shared->Prop),Q (.bool (g i j)) s->wpAny (model X.prog X.w) X.A (f (.int i t) (.int j u)) Q E s) :
  OpR X f (rI0 fun i j => .bl (g i j)):=by
 intro pins s σ H x y v u Q I rx ry h
 obtain ⟨i,j,rfl,rfl,q⟩:=h
 obtain ⟨t,rfl⟩:=rx
 obtain ⟨t',rfl⟩:=ry
 exact rule i j t t' s _ _ ⟨.bl (g i j),H,I,rfl,q⟩
def CDiv (i j : Int) : Prop:=0 < j/\j < 1073741824
def CPow (i j : Int) : Prop:=0<=j/\j<=1000000/\i.natAbs < 2 ^ 64
def CMul (i j : Int) : Prop:=(-(2 ^ 64) < i/\i < 2 ^ 64) ∨ (-(2 ^ 64) < j/\j < 2 ^ 64)
theorem CMul.ok {i j : Int} (h : CMul i j) : IntMulOk i j:=by
 rcases h with ⟨h1,h2⟩ | ⟨h1,h2⟩
 ·exact .of_left (intBits_le_64 h1 h2)
 ·exact .of_right (intBits_le_64 h1 h2)
theorem VF (k : Nat) : (0 : Int)<=2 ^ k:=by
 rw [two_pow_cast]
 exact Int.natCast_nonneg _
theorem mG : OpR X (binaryOp .Add) (rI0 fun i j => .int (i + j)):=opI0 fun _ _ _ _ _ _ _ q => add_int q
theorem mH : OpR X (binaryOp .Sub) (rI0 fun i j => .int (i - j)):=opI0 fun _ _ _ _ _ _ _ q => sub_int q
theorem fU : OpR X (binaryOp .FloorDiv) (rI CDiv fun i j => .int (i / j)):=opI fun i j _ _ _ _ _ hc q => by
 have h1 : (0 : Int) < j:=hc.1
 have h2 : j < 1073741824:=hc.2
 exact floordiv_int (by omega) (by rw [Int.fdiv_eq_ediv_of_nonneg i (by omega)]; exact q) (.inl (PyProof.noPylong_small (by omega)))
theorem mJ : OpR X (binaryOp .Mod) (rI (fun _ j => 0 < j) fun i j => .int (i % j)):=opI fun i j _ _ _ _ _ hc q => by
 have h1 : (0 : Int) < j:=hc
 exact mod_int' (by omega) (by rw [Int.fmod_eq_emod_of_nonneg i (by omega)]; exact q)
theorem mK : OpR X (binaryOp .Pow) (rI CPow fun i j => .int (i ^ j.toNat)):=opI fun _ _ _ _ _ _ _ hc q => pow_int_small hc.1 hc.2.1 hc.2.2 q
theorem VG : OpR X (binaryOp .RShift) (rI (fun _ j => 0<=j) fun i j => .int (i / 2 ^ j.toNat)):=opI fun i j _ _ _ _ _ hc q =>
 rshift_int hc (by rw [Int.fdiv_eq_ediv_of_nonneg i (VF _)]; exact q)
theorem Nf : OpR X (binaryOp .BitAnd) (rI0 fun i j => .int (Builtin.bitAnd i j)):=opI0 fun _ _ _ _ _ _ _ q => and_int q
theorem WQ : OpR X (binaryOp .BitOr) (rI0 fun i j => .int (Builtin.bitOr i j)):=opI0 fun _ _ _ _ _ _ _ q => or_int q
theorem mL : OpR X (binaryOp .BitXor) (rI0 fun i j => .int (Builtin.bitXor i j)):=opI0 fun _ _ _ _ _ _ _ q => xor_int q
theorem unI {f : Value->Sem Value} {g : Int->Int}
  (rule : ∀ (i : Int) (t : Tok) (s : Shared) (Q : Value->Shared->Prop) (E : Value->Shared->Prop),Q (.int (g i) s.toks) { s with toks:=s.toks + 1 }->wpAny (model X.prog X.w) X.A (f (.int i t)) Q E s) :
  UnR X f (rU fun i => .int (g i)):=by
 intro pins s σ H x v Q I rx h
 obtain ⟨i,rfl,q⟩:=h
 obtain ⟨t,rfl⟩:=rx
 exact rule i t s _ _ ⟨.int (g i),H,I.tok _,⟨_,rfl⟩,q⟩
theorem mO : UnR X (unaryOp .USub) (rU fun i => .int (-i)):=unI fun _ _ _ _ _ q => neg_int q
end
def scal : V->V->Bool
 | .non,.non => true | .non,.int _ => true | .int _,.non => true | .non,.bl _ => true | .bl _,.non => true | .non,.str _ => true | .str _,.non => true
 | .int _,.int _ => true | .bl _,.bl _ => true | .str _,.str _ => true | .byt _,.byt _ => true
 | .int _,.str _ => true | .str _,.int _ => true | .bl _,.str _ => true | .str _,.bl _ => true
 | _,_ => false
def rEq : R2:=fun x y H Q => scal x y = true/\Q (.bl (decide (x = y))) H
def rNe : R2:=fun x y H Q => scal x y = true/\Q (.bl (!decide (x = y))) H
theorem WR {i j : Int} : decide (V.int i = V.int j) = (i == j):=by
 rw [Bool.eq_iff_iff]
 simp
theorem Zi {i j : Bool} : decide (V.bl i = V.bl j) = (i == j):=by
 rw [Bool.eq_iff_iff]
 simp
theorem WT {i j : Str} : decide (V.str i = V.str j) = (i == j):=by
 rw [Bool.eq_iff_iff]
 simp
theorem WW {i j : Array UInt8} : decide (V.byt i = V.byt j) = (i.toList == j.toList):=by
 rw [Bool.eq_iff_iff]
 cases i
 cases j
 simp
section
variable {X : Cx} {a b c : Expr} {ta tb tc : TE} {pos : Pos}
theorem BR {pins : List (Addr × Obj)} {σ : St} {H : Hp} {s : Shared} {Q : VK} {k k' : Bool} (I : Inv X pins σ H s) (q : Q (.bl k) H) (e : k = k') : EP X pins σ Q (.bool k') s:=by
 subst e
 exact ⟨.bl k,H,I,rfl,q⟩
theorem pJ : OpR X (compareOp .Eq) rEq:=by
 intro pins s σ H x y v u Q I rx ry h
 obtain ⟨hs,q⟩:=h
 cases x with
 | non =>
  cases rx
  cases y with
  | non => cases ry; exact PySem.EqNone.eq_none_none (BR I q (by simp))
  | bl j => cases ry; exact PySem.EqNone.eq_none_bool (BR I q (by simp))
  | int j => obtain ⟨t',rfl⟩:=ry; exact PySem.EqNone.eq_none_int (BR I q (by simp))
  | str j => obtain ⟨t',rfl⟩:=ry; exact PySem.EqNone.eq_none_str (BR I q (by simp))
  | _ => exact absurd (show false = true from hs) Bool.false_ne_true
 | bl i =>
  cases rx
  cases y with
  | non => cases ry; exact PySem.EqNone.eq_bool_none (BR I q (by simp))
  | bl j => cases ry; exact eq_bool (BR I q Zi)
  | str j => obtain ⟨t',rfl⟩:=ry; exact PySem.EqMixed.eq_bool_str (BR I q (by simp))
  | _ => exact absurd (show false = true from hs) Bool.false_ne_true
 | int i =>
  obtain ⟨t,rfl⟩:=rx
  cases y with
  | non => cases ry; exact PySem.EqNone.eq_int_none (BR I q (by simp))
  | int j => obtain ⟨t',rfl⟩:=ry; exact eq_int (BR I q WR)
  | str j => obtain ⟨t',rfl⟩:=ry; exact PySem.EqMixed.eq_int_str (BR I q (by simp))
  | _ => exact absurd (show false = true from hs) Bool.false_ne_true
 | str i =>
  obtain ⟨t,rfl⟩:=rx
  cases y with
  | non => cases ry; exact PySem.EqNone.eq_str_none (BR I q (by simp))
  | bl j => cases ry; exact PySem.EqMixed.eq_str_bool (BR I q (by simp))
  | int j => obtain ⟨t',rfl⟩:=ry; exact PySem.EqMixed.eq_str_int (BR I q (by simp))
  | str j => obtain ⟨t',rfl⟩:=ry; exact eq_str (BR I q WT)
  | _ => exact absurd (show false = true from hs) Bool.false_ne_true
 | byt i =>
  obtain ⟨t,rfl⟩:=rx
  cases y with
  | byt j => obtain ⟨t',rfl⟩:=ry; exact PySem.W.eq_bytes (BR I q WW)
  | _ => exact absurd (show false = true from hs) Bool.false_ne_true
 | _ => cases y <;> exact absurd (show false = true from hs) Bool.false_ne_true
theorem pK : OpR X (compareOp .NotEq) rNe:=by
 intro pins s σ H x y v u Q I rx ry h
 obtain ⟨hs,q⟩:=h
 cases x with
 | non =>
  cases rx
  cases y with
  | non => cases ry; exact PySem.EqNone.ne_none_none (BR I q (by simp))
  | bl j => cases ry; exact PySem.EqNone.ne_none_bool (BR I q (by simp))
  | int j => obtain ⟨t',rfl⟩:=ry; exact PySem.EqNone.ne_none_int (BR I q (by simp))
  | str j => obtain ⟨t',rfl⟩:=ry; exact PySem.EqNone.ne_none_str (BR I q (by simp))
  | _ => exact absurd (show false = true from hs) Bool.false_ne_true
 | bl i =>
  cases rx
  cases y with
  | non => cases ry; exact PySem.EqNone.ne_bool_none (BR I q (by simp))
  | bl j => cases ry; exact ne_bool (BR I q (congrArg not Zi))
  | str j => obtain ⟨t',rfl⟩:=ry; exact PySem.EqMixed.ne_bool_str (BR I q (by simp))
  | _ => exact absurd (show false = true from hs) Bool.false_ne_true
 | int i =>
  obtain ⟨t,rfl⟩:=rx
  cases y with
  | non => cases ry; exact PySem.EqNone.ne_int_none (BR I q (by simp))
  | int j => obtain ⟨t',rfl⟩:=ry; exact ne_int (BR I q (congrArg not WR))
  | str j => obtain ⟨t',rfl⟩:=ry; exact PySem.EqMixed.ne_int_str (BR I q (by simp))
  | _ => exact absurd (show false = true from hs) Bool.false_ne_true
 | str i =>
  obtain ⟨t,rfl⟩:=rx
  cases y with
  | non => cases ry; exact PySem.EqNone.ne_str_none (BR I q (by simp))
  | bl j => cases ry; exact PySem.EqMixed.ne_str_bool (BR I q (by simp))
  | int j => obtain ⟨t',rfl⟩:=ry; exact PySem.EqMixed.ne_str_int (BR I q (by simp))
  | str j => obtain ⟨t',rfl⟩:=ry; exact ne_str (BR I q (congrArg not WT))
  | _ => exact absurd (show false = true from hs) Bool.false_ne_true
 | byt i =>
  obtain ⟨t,rfl⟩:=rx
  cases y with
  | byt j => obtain ⟨t',rfl⟩:=ry; exact PySem.W.ne_bytes (BR I q (congrArg not WW))
  | _ => exact absurd (show false = true from hs) Bool.false_ne_true
 | _ => cases y <;> exact absurd (show false = true from hs) Bool.false_ne_true
theorem pL : OpR X (compareOp .Lt) (rI0 fun i j => .bl (decide (i < j))):=opB0 fun _ _ _ _ _ _ _ q => lt_int q
theorem pM : OpR X (compareOp .Gt) (rI0 fun i j => .bl (decide (j < i))):=opB0 fun _ _ _ _ _ _ _ q => gt_int q
theorem pO : OpR X (compareOp .GtE) (rI0 fun i j => .bl (decide (j<=i))):=opB0 fun _ _ _ _ _ _ _ q => ge_int q
theorem Yg : OpR X (compareOp .In) (fun x y H Q => ∃ i j,x = .str i/\y = .str j/\Q (.bl (!(Builtin.Str.occurrences j i 0 j.length 1).isEmpty)) H):=by
 intro pins s σ H x y v u Q I rx ry h
 obtain ⟨i,j,rfl,rfl,q⟩:=h
 obtain ⟨t,rfl⟩:=rx
 obtain ⟨t',rfl⟩:=ry
 exact in_str (BR I q rfl)
theorem Rr : OpR X (compareOp .NotIn) (fun x y H Q => ∃ i j,x = .str i/\y = .str j/\Q (.bl (!(!(Builtin.Str.occurrences j i 0 j.length 1).isEmpty))) H):=by
 intro pins s σ H x y v u Q I rx ry h
 obtain ⟨i,j,rfl,rfl,q⟩:=h
 obtain ⟨t,rfl⟩:=rx
 obtain ⟨t',rfl⟩:=ry
 exact notIn_str (BR I q rfl)
theorem OpR.or {f : Value->Value->Sem Value} {r r' : R2} (h : OpR X f r) (h' : OpR X f r') : OpR X f (fun x y H Q => r x y H Q ∨ r' x y H Q):=by
 intro pins s σ H x y v u Q I rx ry q
 rcases q with q | q
 ·exact h pins s σ H x y v u Q I rx ry q
 ·exact h' pins s σ H x y v u Q I rx ry q
theorem Jy (b : Expr) {op : CmpOp} (h : op ≠ .In:=by decide) (h2 : op ≠ .NotIn:=by decide) : behindInMarks op b = false:=by
 have e1 : (op == CmpOp.In) = false:=by cases op <;> first | rfl | exact absurd rfl h
 have e2 : (op == CmpOp.NotIn) = false:=by cases op <;> first | rfl | exact absurd rfl h2
 cases b <;> simp [behindInMarks,e1,e2]
theorem fV {op : CmpOp} {r : R2} (ho : OpR X (compareOp op) r) (ha : PE X a ta) (hb : PE X b tb) (hm : behindInMarks op b = false) : PE X (.Compare a [op] [b] pos) (tOp r ta tb):=by
 intro pins s σ H Q I h
 exact wpAny_Compare1 (binT ha hb I h fun v u s2 x y H2 I2 rx ry q => ho pins s2 σ H2 x y v u Q I2 rx ry q) hm
def pP (t : TE) : TT:=fun σ H Q => t σ H fun x H' => ∃ k,x = .bl k/\Q k H'
theorem WX {op : CmpOp} {r : R2} (ho : OpR X (compareOp op) r) (ha : PE X a ta) (hb : PE X b tb) (hm : behindInMarks op b = false) : PT X (.Compare a [op] [b] pos) (pP (tOp r ta tb)):=by
 intro pins s σ H Q I h
 refine wpAny_isTrue_Compare1 (thn (ha pins s σ H _ I h) fun v s1 ⟨x,H1,I1,r1,q1⟩ => thn (hb pins s1 σ H1 _ I1 q1) fun u s2 ⟨y,H2,I2,r2,q2⟩ =>
  thn (ho pins s2 σ H2 x y v u _ I2 r1 r2 q2) fun c s3 ⟨z,H3,I3,r3,k,e,q3⟩ => ?_) hm
 subst e
 cases r3
 exact wpAny_truthy_bool ⟨H3,I3,q3⟩
def TruV (K : PySem.W.Frag) (x : V) (H : Hp) (k : Bool) : Prop:=
 match x with
 | .non => k = false
 | .bl b => k = b
 | .int i => k = (i != 0)
 | .str y => y.length<=sizeLine/\k = ((y.length : Int) != 0)
 | .byt y => y.size<=sizeLine/\k = ((y.size : Int) != 0)
 | .ref p => (∃ xs,SqL K H p xs/\k = !xs.isEmpty) ∨ (∃ xs,SqT K H p xs/\k = !xs.isEmpty) ∨ ∃ kvs,H p = some (.dK kvs)/\k = !kvs.isEmpty
 | _ => False
theorem VH {κ : Type} {kvs : List (κ × V)} {vs : List (κ × Value)} (r : KV kvs vs) : (!vs.isEmpty) = !kvs.isEmpty:=by
 cases r <;> rfl
theorem Pb {xs : List V} {its : List Value} (r : Vals xs its) : (!its.toArray.isEmpty) = !xs.isEmpty:=by
 cases r <;> simp
theorem Ng : (sizeLine : Nat) < 2 ^ 63:=by rw [sizeLine_eq]; decide
theorem mQ : TruR X (fun x H Q => ∃ k,TruV X.K x H k/\Q k H):=by
 intro pins s σ H x v Q I rx h
 obtain ⟨k,e,q⟩:=h
 have hl:=Ng
 have hs : sizeLine = 16777216:=sizeLine_eq
 cases x with
 | non =>
  cases rx
  have e' : k = false:=e
  subst e'
  exact truthy_none ⟨H,I,q⟩
 | bl b =>
  cases rx
  have e' : k = b:=e
  subst e'
  exact wpAny_truthy_bool ⟨H,I,q⟩
 | int i =>
  obtain ⟨t,rfl⟩:=rx
  have e' : k = (i != 0):=e
  subst e'
  exact PySem.P.truthy_int ⟨H,I,q⟩
 | str y =>
  obtain ⟨t,rfl⟩:=rx
  obtain ⟨hy,e'⟩ : y.length<=sizeLine/\k = ((y.length : Int) != 0):=e
  subst e'
  exact PySem.P.truthy_str (by omega) ⟨H,I.tok _,q⟩
 | byt y =>
  obtain ⟨t,rfl⟩:=rx
  obtain ⟨hy,e'⟩ : y.size<=sizeLine/\k = ((y.size : Int) != 0):=e
  subst e'
  exact PySem.W.truthy_bytes (by omega) ⟨H,I.tok _,q⟩
 | ref p =>
  cases rx
  have e' : (∃ xs,SqL X.K H p xs/\k = !xs.isEmpty) ∨ (∃ xs,SqT X.K H p xs/\k = !xs.isEmpty) ∨ ∃ kvs,H p = some (.dK kvs)/\k = !kvs.isEmpty:=e
  rcases e' with ⟨xs,hx,e'⟩ | ⟨xs,hx,e'⟩ | ⟨kvs,hx,e'⟩
  ·subst e'
   obtain ⟨its,r,pl,hz⟩:=I.list hx
   have hlen:=r.length
   exact wpAny_truthy_list pl.isList (by simp only [List.size_toArray]; omega) ⟨H,I.tok _,by rw [Pb r]; exact q⟩
  ·subst e'
   obtain ⟨its,r,pl,hz⟩:=I.tuple hx
   have hlen:=r.length
   exact truthy_tuple pl (by simp only [List.size_toArray]; omega) ⟨H,I.tok _,by rw [Pb r]; exact q⟩
  ·subst e'
   obtain ⟨hz,hS,vs,r,m⟩ : kvs.length<=sizeLine/\(p == sysModules) = false/\∃ vs,KV kvs vs/\s.heap.DictOf (Ax X.prog X.w) p vs:=I.hok p _ hx
   have hlen : kvs.length = vs.length:=Paired.length r
   exact wpAny_truthy_dict hS m (by omega) ⟨H,I.tok _,by rw [VH r]; exact q⟩
 | _ => exact (show False from e).elim
theorem Zj (ha : PE X a ta) (he : ∀ whole,isTrue a X.env whole = (do let v <-whole; standAt a.pos; holding [v] (truthy v))) :
  PT X a (fun σ H Q => ta σ H fun x H' => ∃ k,TruV X.K x H' k/\Q k H'):=by
 intro pins s σ H Q I h
 exact isTrue_plain (thn (ha pins s σ H _ I h) fun v s1 ⟨x,H1,I1,r1,q1⟩ => mQ pins s1 σ H1 x v Q I1 r1 q1) (he _)
theorem VJ : OpR X (binaryOp .Add) (fun x y H Q => ∃ i j,x = .str i/\y = .str j/\i.length + j.length<=sizeLine/\Q (.str (i ++ j)) H):=by
 intro pins s σ H x y v u Q I rx ry h
 obtain ⟨i,j,rfl,rfl,hz,q⟩:=h
 obtain ⟨t,rfl⟩:=rx
 obtain ⟨t',rfl⟩:=ry
 exact add_str (fun t' tk => ⟨.str (i ++ j),H,I.tok _,⟨_,rfl⟩,q⟩) hz
theorem vals1 {x : V} {us : List Value} (r : Vals [x] us) : ∃ u,us = [u]/\RelV x u:=by
 cases r with
 | cons r1 r2 => cases r2; exact ⟨_,rfl,r1⟩
theorem vals2 {x y : V} {us : List Value} (r : Vals [x,y] us) : ∃ u w',us = [u,w']/\RelV x u/\RelV y w':=by
 cases r with
 | cons r1 r2 =>
  cases r2 with
  | cons r3 r4 => cases r4; exact ⟨_,_,rfl,r1,r3⟩
theorem Nh (hc : X.calm = true) : Dh X (.builtin "max") (fun xs H Q => ∃ i j,xs = [.int i,.int j]/\Q (.int (if j > i then j else i)) H):=by
 intro pins s σ H xs us Q I r h
 obtain ⟨i,j,rfl,q⟩:=h
 obtain ⟨u,w',rfl,⟨t,rfl⟩,⟨t',rfl⟩⟩:=vals2 r
 refine max_two_ints (I.ok.hd hc) fun h' tk k => ⟨_,H,I.kept k,?_,q⟩
 by_cases hj : j > i
 ·rw [if_pos hj,if_pos hj]; exact ⟨_,rfl⟩
 ·rw [if_neg hj,if_neg hj]; exact ⟨_,rfl⟩
theorem Yh (hc : X.calm = true) : Dh X (.builtin "min") (fun xs H Q => ∃ i j,xs = [.int i,.int j]/\Q (.int (if j < i then j else i)) H):=by
 intro pins s σ H xs us Q I r h
 obtain ⟨i,j,rfl,q⟩:=h
 obtain ⟨u,w',rfl,⟨t,rfl⟩,⟨t',rfl⟩⟩:=vals2 r
 refine min_two_ints (I.ok.hd hc) fun h' tk k => ⟨_,H,I.kept k,?_,q⟩
 by_cases hj : j < i
 ·rw [if_pos hj,if_pos hj]; exact ⟨_,rfl⟩
 ·rw [if_neg hj,if_neg hj]; exact ⟨_,rfl⟩
theorem Q0 : Dh X (.type "int") (fun xs H Q => (∃ i,xs = [.int i]/\Q (.int i) H) ∨ ∃ k,xs = [.bl k]/\Q (.int (if k then 1 else 0)) H):=by
 intro pins s σ H xs us Q I r h
 rcases h with ⟨i,rfl,q⟩ | ⟨k,rfl,q⟩
 ·obtain ⟨u,rfl,t,rfl⟩:=vals1 r
  exact call_int_int ⟨.int i,H,I,⟨_,rfl⟩,q⟩
 ·obtain ⟨u,rfl,r1⟩:=vals1 r
  cases r1
  exact call_int_bool ⟨.int (if k then 1 else 0),H,I.tok _,⟨_,rfl⟩,q⟩
def LenV (K : PySem.W.Frag) (x : V) (H : Hp) (n : Nat) : Prop:=
 match x with
 | .str y => y.length<=sizeLine/\n = y.length
 | .byt y => y.size<=sizeLine/\n = y.size
 | .ref p => (∃ xs,SqL K H p xs/\n = xs.length) ∨ ∃ xs,SqT K H p xs/\n = xs.length
 | _ => False
theorem Zk : Dh X (.builtin "len") (fun xs H Q => ∃ x n,xs = [x]/\LenV X.K x H n/\Q (.int n) H):=by
 intro pins s σ H xs us Q I r h
 obtain ⟨x,n,rfl,e,q⟩:=h
 obtain ⟨u,rfl,rx⟩:=vals1 r
 have hl:=Ng
 have hs : sizeLine = 16777216:=sizeLine_eq
 cases x with
 | str y =>
  obtain ⟨t,rfl⟩:=rx
  obtain ⟨hy,e'⟩ : y.length<=sizeLine/\n = y.length:=e
  subst e'
  exact len_str (by omega) ⟨.int _,H,I.tok _,⟨_,rfl⟩,q⟩
 | byt y =>
  obtain ⟨t,rfl⟩:=rx
  obtain ⟨hy,e'⟩ : y.size<=sizeLine/\n = y.size:=e
  subst e'
  exact PySem.W.len_bytes (by omega) ⟨.int _,H,I.tok _,⟨_,rfl⟩,q⟩
 | ref p =>
  cases rx
  have e' : (∃ xs,SqL X.K H p xs/\n = xs.length) ∨ ∃ xs,SqT X.K H p xs/\n = xs.length:=e
  rcases e' with ⟨xs,hx,e'⟩ | ⟨xs,hx,e'⟩
  ·subst e'
   obtain ⟨its,r',pl,hz⟩:=I.list hx
   have hlen:=r'.length
   exact Calls.call_len_list pl.isList (by simp only [List.size_toArray]; omega) ⟨.int xs.length,H,I.tok _,⟨_,by simp only [List.size_toArray]; rw [hlen]⟩,q⟩
  ·subst e'
   obtain ⟨its,r',pl,hz⟩:=I.tuple hx
   have hlen:=r'.length
   exact len_tuple pl (by simp only [List.size_toArray]; omega) ⟨.int xs.length,H,I.tok _,⟨_,by simp only [List.size_toArray]; rw [hlen]⟩,q⟩
 | _ => exact (show False from e).elim
end
end L2
namespace L2
open PySem PySem.Spec PyProof.Rows
structure ObjM (h : Heap) (x dx C : Addr) (mA : Str->Option Value) : Prop where
 obj : h.get? x = some (PySem.W.instObj C dx)
 ns : h.Ns1 dx mA
 ne : dx ≠ x
theorem Yi {h : Heap} {dx : Addr} {mA : Str->Option Value} (n : h.Ns1 dx mA) : ∃ od,h.get? dx = some od/\∀ name,PySem.W.lookIn name od = some (mA name):=by
 obtain ⟨o,es,ep,ho,hd,hk,_,hm⟩:=n
 refine ⟨o,ho,fun name => ?_⟩
 have e:=hm name
 unfold nsFind findBy at e
 rw [<-Array.find?_toList] at e
 unfold PySem.W.lookIn
 rw [hd]
 dsimp only
 split
 ·rename_i y q
  rw [q] at e
  exact congrArg some e
 ·rename_i q
  rw [q] at e
  have a : es.toList.any (·.refKey) = false:=by
   rw [List.any_eq_false]
   intro y hy
   obtain ⟨z,t,hkey⟩:=hk y (Array.mem_toList_iff.mp hy)
   simp [DictEntry.refKey,hkey]
  have a' : ¬ es.toList.any (·.refKey) = true:=by rw [a]; exact Bool.false_ne_true
  rw [if_neg a']
  exact congrArg some e
theorem ObjM.look {h : Heap} {x dx C : Addr} {mA : Str->Option Value} (I : ObjM h x dx C mA) : ∃ od,PySem.W.InstAt h x (PySem.W.instObj C dx) C (some od)/\∀ name,PySem.W.lookIn name od = some (mA name):=
 let ⟨od,ho,hl⟩:=Yi I.ns
 ⟨od,⟨I.obj,rfl,rfl,ho⟩,hl⟩
section
variable {prog : Program} {w : World} {A : Around} {E : Value->Shared->Prop} {s : Shared} {K : PySem.W.Frag} {x dx C f : Addr} {mA : Str->Option Value} {name : Str} {v : Value}
theorem fW {expr : Bool} {Q : Value->Shared->Prop} (X : K.In s.heap) (I : ObjM s.heap x dx C mA) (hg : PySem.W.plainGet K C name = true) (hh : PySem.W.hasDictIn K C = true)
  (ha : PySem.W.findIn K (.ref C) name = some none) (hv : mA name = some v) (hv' : PySem.W.handedIn v = true) (h : Q v { s with toks:=s.toks + 1 }) :
  wpAny (model prog w) A (getAttr (.ref x) name expr) Q E s:=by
 obtain ⟨od,J,hl⟩:=I.look
 exact PySem.W.get_value X J (PySem.W.plainGet_of hg).1 (PySem.W.findObj_own hh ha rfl (by rw [hl,hv])) hv' h
theorem fY {ns : List Str} {Q : Unit->Shared->Prop} (X : K.In s.heap) (I : ObjM s.heap x dx C mA)
  (hs : PySem.W.findIn K (.ref C) "__setattr__" = some (some (.builtin "object.__setattr__"))) (hp : PySem.W.plainOver K C = true) (ht : PySem.W.takerIn K C name = some none) (hh : PySem.W.hasDictIn K C = true)
  (hw : PySem.Within mA ns) (hsz : ns.length<=sizeLine)
  (h : ∀ h',ObjM h' x dx C (fun y => if y = name then some v else mA y)->Heap.SameBut dx s.heap h'->Q () { s with heap:=h',toks:=s.toks + 2 }) :
  wpAny (model prog w) A (setAttr (.ref x) name v) Q E s:=by
 obtain ⟨od,J,hl⟩:=I.look
 refine PySem.W.set_plain X J hs (PySem.W.osa_open (s:={ s with toks:=s.toks + 1 }) (r:=none) X J hp ht fun b => ?_)
 obtain ⟨cd,hc,hd'⟩:=PySem.W.any_some hh
 have hx : s.heap.get? x = some ⟨.ref C,some dx,.plain,#[]⟩:=I.obj
 refine wpAny_bind (wpAny_pure (wpAny_bind (wpAny_bind (wpAny_loadPart hx (wpAny_bind (PySem.W.Looks.here (s:={ s with toks:=s.toks + 1 }) (PySem.W.looks_clsIn X hc) ?_))))))
 rw [hd']
 refine wpAny_pure (a:=some dx) (wpAny_bind (wpAny_pure (wpAny_bind ?_)))
 refine wpAny_nsSet1 (s:={ s with toks:=s.toks + 1 }) I.ns fun h' hn2 hs2 => ?_
 obtain ⟨oD,esD,epD,hoD,hdD,hcD⟩:=hn2.count (PySem.Within.cons name v hw)
 refine wpAny_bind (wpAny_lookBehind hoD (by rw [hdD]; exact pastItsLine_dict (Nat.le_trans hcD (by rw [List.length_cons]; omega))) ?_)
 exact wpAny_pure (h _ ⟨(hs2.2 _ (Ne.symm I.ne)).trans I.obj,hn2,I.ne⟩ hs2)
theorem Zm {R : Result->Shared->Prop} {vs : List Value} {kw : List (Str × Value)} (X : K.In s.heap) (hm : PySem.W.makesIn K C = true)
  (hi : PySem.W.findIn K (.ref C) "__init__" = some (some (.ref f))) (hf : PySem.W.typeIn K (.ref f) = some (.type "function"))
  (h : codeAny (model prog w) (A.under (.builtin "type.__call__" ⟨.ref C :: vs,kw⟩)) (.call (.ref f) ⟨.ref (s.heap.objs.size + 1) :: vs,kw⟩) (PySem.W.InitBack (s.heap.objs.size + 1) R)
   { s with heap:=(s.heap.push PySem.W.emptyDict).push (PySem.W.instObj C s.heap.objs.size) }) :
  codeAny (model prog w) A (.call (.ref C) ⟨vs,kw⟩) R s:=by
 obtain ⟨hh,g,d,t,os⟩:=s
 exact PySem.W.make_core (PySem.W.makes_of X hm) (PySem.W.looks_findIn X hi) (fun self => PySem.W.bind_fn X self hf) (.inl rfl) h
end
def putF (f : Str) (v : V) : List (Str × V)->List (Str × V)
 | [] => [(f,v)]
 | (g,x) :: r => if g = f then (g,v) :: r else (g,x) :: putF f v r
theorem Og (f g : Str) (v : V) : ∀ fs : List (Str × V),(putF f v fs).lookup g = if g = f then some v else fs.lookup g
 | [] => by
  show List.lookup g [(f,v)] = _
  by_cases h : g = f
  ·have hb : (g == f) = true:=beq_iff_eq.mpr h
   simp only [List.lookup,hb,if_pos h]
  ·have hb : (g == f) = false:=beq_eq_false_iff_ne.mpr h
   simp only [List.lookup,hb,if_neg h]
 | (k,x) :: r => by
  have ih:=Og f g v r
  rw [show putF f v ((k,x) :: r) = (if k = f then (k,v) :: r else (k,x) :: putF f v r) from rfl]
  by_cases hk : k = f
  ·rw [if_pos hk]
   by_cases h : g = k
   ·have hb : (g == k) = true:=beq_iff_eq.mpr h
    simp only [List.lookup,hb,if_pos (h.trans hk)]
   ·have hb : (g == k) = false:=beq_eq_false_iff_ne.mpr h
    simp only [List.lookup,hb,if_neg (fun e : g = f => h (e.trans hk.symm))]
  ·rw [if_neg hk]
   by_cases h : g = k
   ·have hb : (g == k) = true:=beq_iff_eq.mpr h
    simp only [List.lookup,hb,if_neg (fun e : g = f => hk (h.symm.trans e))]
   ·have hb : (g == k) = false:=beq_eq_false_iff_ne.mpr h
    simp only [List.lookup,hb]
    exact ih
theorem Ni (f : Str) (v : V) : ∀ fs : List (Str × V),f ∈ (putF f v fs).map (·.1)/\∀ g,g ∈ fs.map (·.1)->g ∈ (putF f v fs).map (·.1)
 | [] => ⟨by simp [putF],fun g h => by simp at h⟩
 | (k,x) :: r => by
  obtain ⟨i1,i2⟩:=Ni f v r
  rw [show putF f v ((k,x) :: r) = (if k = f then (k,v) :: r else (k,x) :: putF f v r) from rfl]
  by_cases hk : k = f
  ·rw [if_pos hk]
   subst hk
   exact ⟨by simp,fun g h => by simpa using h⟩
  ·rw [if_neg hk]
   refine ⟨?_,fun g h => ?_⟩
   ·rw [List.map_cons]
    exact List.mem_cons_of_mem _ i1
   ·rw [List.map_cons] at h ⊢
    rcases List.mem_cons.mp h with e | e
    ·exact List.mem_cons.mpr (.inl e)
    ·exact List.mem_cons_of_mem _ (i2 g e)
theorem Oh (f : Str) (v : V) : ∀ fs : List (Str × V),(putF f v fs).length<=fs.length + 1
 | [] => by simp [putF]
 | (k,x) :: r => by
  have ih:=Oh f v r
  rw [show putF f v ((k,x) :: r) = (if k = f then (k,v) :: r else (k,x) :: putF f v r) from rfl]
  by_cases hk : k = f
  ·rw [if_pos hk,List.length_cons,List.length_cons]; omega
  ·rw [if_neg hk,List.length_cons,List.length_cons]; omega
theorem RelO.some_of {v : V} {o : Option Value} (r : RelO (some v) o) : ∃ u,o = some u/\RelV v u:=by
 cases o with
 | none => exact (show False from r).elim
 | some u => exact ⟨u,rfl,r⟩
theorem Yj {v : V} {u : Value} (r : RelV v u) : PySem.W.handedIn u = true:=by
 cases v with
 | non => cases (show u = Value.none from r); rfl
 | bl b => cases (show u = Value.bool b from r); rfl
 | int i => obtain ⟨t,e⟩:=(show ∃ t,u = Value.int i t from r); cases e; rfl
 | str x => obtain ⟨t,e⟩:=(show ∃ t,u = Value.str x t from r); cases e; rfl
 | byt b => obtain ⟨t,e⟩:=(show ∃ t,u = Value.bytes b t from r); cases e; rfl
 | flt b => obtain ⟨t,e⟩:=(show ∃ t,u = Value.float b t from r); cases e; rfl
 | ref a => cases (show u = Value.ref a from r); rfl
 | ty n => cases (show u = Value.type n from r); rfl
section
variable {P : Program} {w : World} {H H' : Hp} {h h' : Heap} {a C dx : Addr} {fs fs' : List (Str × V)}
theorem Rt (hok : HOk P w H h) (e : H a = some (.ins C dx fs)) : ∃ mA,ObjM h a dx C mA/\(∀ f,RelO (fs.lookup f) (mA f))/\PySem.Within mA (fs.map (·.1))/\fs.length<=1000/\H dx = some (.own a):=by
 obtain ⟨d,z,ne,ob,mA,n,r,q⟩:=(show Bj P w H h a (.ins C dx fs) from hok a _ e)
 exact ⟨mA,⟨ob,n,ne⟩,r,q,z,d⟩
end
structure Cls (K : PySem.W.Frag) (C : Addr) : Prop where
 pg : PySem.W.plainGet K C Str.empty = true
 hd : PySem.W.hasDictIn K C = true
 po : PySem.W.plainOver K C = true
 sa : PySem.W.findIn K (.ref C) "__setattr__" = some (some (.builtin "object.__setattr__"))
theorem Cls.get {K : PySem.W.Frag} {C : Addr} (c : Cls K C) (f : Str) : PySem.W.plainGet K C f = true:=c.pg
def Ew (K : PySem.W.Frag) (C : Addr) (f : Str) : Prop:=PySem.W.findIn K (.ref C) f = some none
theorem Ew.taker {K : PySem.W.Frag} {C : Addr} {f : Str} (n : Ew K C f) : PySem.W.takerIn K C f = some none:=by
 unfold PySem.W.takerIn
 rw [show PySem.W.findIn K (.ref C) f = some none from n]
 rfl
section
variable {X : Cx} {pins : List (Addr × Obj)} {σ : St} {H : Hp} {s : Shared} {a C dx : Addr} {fs : List (Str × V)} {f : Str} {v : V} {A : Around} {E : Value->Shared->Prop}
theorem VL {b : Bool} {Q : Value->Shared->Prop} (I : Inv X pins σ H s) (e : H a = some (.ins C dx fs)) (c : Cls X.K C) (n : Ew X.K C f) (l : fs.lookup f = some v)
  (h : ∀ u s',Inv X pins σ H s'->RelV v u->Q u s') : wpAny (model X.prog X.w) A (getAttr (.ref a) f b) Q E s:=by
 obtain ⟨mA,O,r,_,_,_⟩:=Rt I.hok e
 obtain ⟨u,hu,ru⟩:=RelO.some_of (v:=v) (o:=mA f) (by rw [<-l]; exact r f)
 exact fW I.kIn O (c.get f) c.hd n hu (Yj ru) (h u _ (I.tok _) ru)
theorem VM {y : V} {u : Value} {Q : Unit->Shared->Prop} (I : Inv X pins σ H s) (e : H a = some (.ins C dx fs)) (c : Cls X.K C) (n : Ew X.K C f) (hl : fs.length < 1000) (ry : RelV y u)
  (h : ∀ s',Inv X pins σ (upd H a (.ins C dx (putF f y fs))) s'->Q () s') : wpAny (model X.prog X.w) A (setAttr (.ref a) f u) Q E s:=by
 obtain ⟨mA,O,r,wi,_,ho⟩:=Rt I.hok e
 have hz : (fs.map (·.1)).length<=sizeLine:=by rw [List.length_map,sizeLine_eq]; omega
 refine fY I.kIn O c.sa c.po n.taker c.hd wi hz fun h' O' sb => h _ ?_
 have hd : ∃ o,h'.get? dx = some o:=let ⟨o,_,_,e',_⟩:=O'.ns; ⟨o,e'⟩
 refine I.write (x:=a) (e:=dx) (by rw [e]; exact True.intro) (.inr ho) (fun b q hb z => (sb.2 b hb).trans z) hd ?_
 refine ⟨by rw [Al O.ne]; exact ho,?_,O.ne,O'.obj,_,O'.ns,fun g => ?_,fun g hg => ?_⟩
 ·have:=Oh f y fs; omega
 ·show RelO ((putF f y fs).lookup g) (if g = f then some u else mA g)
  rw [Og]
  by_cases q : g = f
  ·rw [if_pos q,if_pos q]; exact ry
  ·rw [if_neg q,if_neg q]; exact r g
 ·by_cases q : g = f
  ·rw [q]; exact (Ni f y fs).1
  ·refine (Ni f y fs).2 g (wi g fun z => hg ?_)
   show (if g = f then some u else mA g) = none
   rw [if_neg q]; exact z
theorem Inv.made (I : Inv X pins σ H s) : Inv X pins σ (upd (upd H s.heap.objs.size (.own (s.heap.objs.size + 1))) (s.heap.objs.size + 1) (.ins C s.heap.objs.size []))
  { s with heap:=(s.heap.push PySem.W.emptyDict).push (PySem.W.instObj C s.heap.objs.size) }:=by
 have e1 : (s.heap.push PySem.W.emptyDict).get? s.heap.objs.size = some PySem.W.emptyDict:=Heap.get?_push_size s.heap rfl
 have e2 : ((s.heap.push PySem.W.emptyDict).push (PySem.W.instObj C s.heap.objs.size)).get? (s.heap.objs.size + 1) = some (PySem.W.instObj C s.heap.objs.size):=by
  have:=Heap.get?_push_size (s.heap.push PySem.W.emptyDict) (o:=PySem.W.instObj C s.heap.objs.size) rfl
  rwa [Heap.size_push] at this
 have e3 : (s.heap.push PySem.W.emptyDict).Ns s.heap.objs.size (fun _ => none):=⟨PySem.W.emptyDict,#[],_,e1,rfl,(fun e he => absurd he (by simp)),fun _ => rfl⟩
 have I1:=I.laid (a:=s.heap.objs.size) (o:=.own (s.heap.objs.size + 1)) (h':=s.heap.push PySem.W.emptyDict) (t':=s.toks) (fun b u q => Heap.get?_push_of_some _ q) (Nat.le_refl _) ⟨_,e1⟩
 refine I1.laid (a:=s.heap.objs.size + 1) (o:=.ins C s.heap.objs.size []) (t':=s.toks) (fun b u q => Heap.get?_push_of_some _ q) (Nat.le_of_eq (Heap.size_push _ _)) ?_
 have ne : s.heap.objs.size ≠ s.heap.objs.size + 1:=Nat.ne_of_lt (Nat.lt_succ_self _)
 refine ⟨by rw [Al ne,Aj],Nat.zero_le _,ne,e2,fun _ => none,(Heap.Ns1.of_empty e3).at fun o q => Heap.get?_push_of_some _ q,fun _ => True.intro,fun y hy => absurd rfl hy⟩
theorem fZ {prog : Program} {w : World} {env : Env} {e : Expr} {f : Str} {pos : Pos} {s : Shared} {Q : Value->Shared->Prop} (hb : attributeBase e f env (eval e env) = eval e env)
  (h : wpAny (model prog w) A (eval e env) (fun o s₁ => wpAny (model prog w) A (getAttr o f true) Q E s₁) E s) : wpAny (model prog w) A (eval (.Attribute e f pos) env) Q E s:=
 Attribute_any_ h (by rw [arm_eval_Attribute,hb])
end
def tFld (K : PySem.W.Frag) (ta : TE) (f : Str) : TE:=fun σ H Q => ta σ H fun x H1 => ∃ a C dx fs v,x = .ref a/\H1 a = some (.ins C dx fs)/\Cls K C/\Ew K C f/\fs.lookup f = some v/\Q v H1
def sFld (K : PySem.W.Frag) (ta tv : TE) (f : Str) : TS:=fun D σ H => tv σ H fun y H1 => ta σ H1 fun x H2 => ∃ a C dx fs,x = .ref a/\H2 a = some (.ins C dx fs)/\Cls K C/\Ew K C f/\fs.length < 1000 ∧
 D.nx σ (upd H2 a (.ins C dx (putF f y fs)))
section
variable {X : Cx} {o e value : Expr} {f : Str} {pos pos' tpos : Pos} {ta tv : TE}
theorem VN (he : PE X e ta) (hb : attributeBase e f X.env (eval e X.env) = eval e X.env) : PE X (.Attribute e f pos) (tFld X.K ta f):=by
 intro pins s σ H Q I h
 refine fZ hb (thn (he pins s σ H _ I h) fun u s1 ⟨x,H1,I1,rx,a,C,dx,fs,v,ex,ea,c,n,l,q⟩ => ?_)
 subst ex
 obtain rfl : u = Value.ref a:=rx
 exact VL I1 ea c n l fun u' s2 I2 ru => ⟨v,H1,I2,ru,q⟩
theorem Zn (ha : PE X o ta) (hv : PE X value tv) (hs : swapsWith value (some (.Attribute o f pos')) pos.line X.env = pure false) : PS X (.Assign [.Attribute o f pos'] value pos) (sFld X.K ta tv f):=by
 intro pins s σ H D I h
 refine plainObj_wpAny_Assign_Attribute (thn (hv pins s σ H _ I h) fun u s1 ⟨y,H1,I1,ry,q⟩ => thn (ha pins s1 σ H1 _ I1 q) fun ov s2 ⟨x,H2,I2,rx,a,C,dx,fs,ex,ea,c,n,l,q2⟩ => ?_) hs
 subst ex
 obtain rfl : ov = Value.ref a:=rx
 exact VM I2 ea c n l ry fun s3 I3 => ⟨σ,_,I3,q2⟩
def rAdd : V->V->Hp->VK->Prop:=fun x y H Q => ∃ i j,x = .int i/\y = .int j/\Q (.int (i + j)) H
end
section
variable {X : Cx} {pins : List (Addr × Obj)} {σ : St} {H : Hp} {s : Shared} {A : Around} {E : Value->Shared->Prop} {Q : Value->Shared->Prop} {c : Value} {b : Bool}
inductive TyOf (K : PySem.W.Frag) (H : Hp) : V->Value->Prop where
  | non : TyOf K H .non (.type "NoneType")
  | bl (x : Bool) : TyOf K H (.bl x) (.type "bool")
  | int (i : Int) : TyOf K H (.int i) (.type "int")
  | str (x : Str) : TyOf K H (.str x) (.type "str")
  | flt (x : UInt64) : TyOf K H (.flt x) (.type "float")
  | lst {a : Addr} {xs : List V} (e : H a = some (.lst xs)) : TyOf K H (.ref a) (.type "list")
  | frz {a : Addr} {o : Obj} {xs : List V} (e : H a = some (.frz o (.lst xs))) : TyOf K H (.ref a) (.type "list")
  | tup {a : Addr} {xs : List V} (e : H a = some (.tup xs)) : TyOf K H (.ref a) (.type "tuple")
  | dK {a : Addr} {kvs : List (Key × V)} (e : H a = some (.dK kvs)) : TyOf K H (.ref a) (.type "dict")
  | dT {a : Addr} {kvs : List (List Key × V)} (e : H a = some (.dT kvs)) : TyOf K H (.ref a) (.type "dict")
  | ins {a C dx : Addr} {fs : List (Str × V)} (e : H a = some (.ins C dx fs)) (cl : Cls K C) (ha : PySem.W.findIn K (.ref C) "__class__" = some (some (.builtin "object.__class__")))
      (hn : PySem.W.specialIn K (.builtin "object.__class__") "__get__" = some (some (.builtin "getset_descriptor.__get__"))) (htk : PySem.W.takesIn K (.builtin "object.__class__") = some true)
      (hm : PySem.W.mroIn K C (.type "object") = some true) : TyOf K H (.ref a) (.ref C)
theorem Yk {x : V} {u t : Value} (I : Inv X pins σ H s) (rx : RelV x u) (ty : TyOf X.K H x t) (e : PySem.W.kitOne X.K t c = some b) (h : ∀ tk,Q (.bool b) { s with toks:=tk }) :
  wpAny (model X.prog X.w) A (call (.builtin "isinstance") [u,c]) Q E s:=by
 cases ty with
 | non => cases (show u = Value.none from rx); exact PySem.W.kia_one PySem.W.kitx_none I.kIn True.intro e (fun z => nomatch z) h
 | bl y => cases (show u = Value.bool y from rx); exact PySem.W.kia_one PySem.W.kitx_bool I.kIn True.intro e (fun z => nomatch z) h
 | int i => obtain ⟨t,q⟩:=(show ∃ t,u = Value.int i t from rx); cases q; exact PySem.W.kia_one PySem.W.kitx_int I.kIn True.intro e (fun z => nomatch z) h
 | str y => obtain ⟨t,q⟩:=(show ∃ t,u = Value.str y t from rx); cases q; exact PySem.W.kia_one PySem.W.kitx_str I.kIn True.intro e (fun z => nomatch z) h
 | flt y => obtain ⟨t,q⟩:=(show ∃ t,u = Value.float y t from rx); cases q; exact PySem.W.kia_one PySem.W.kitx_float I.kIn True.intro e (fun z => nomatch z) h
 | @lst a xs ea =>
  cases (show u = Value.ref a from rx)
  obtain ⟨_,_,n,_,h1⟩:=(show Bj X.prog X.w H s.heap a (.lst xs) from I.hok a _ ea)
  exact PySem.W.kia_one PySem.W.kitx_list I.kIn ⟨_,h1,rfl⟩ e (fun z => nomatch z) h
 | @frz a ob xs ea =>
  cases (show u = Value.ref a from rx)
  obtain ⟨_,_,_,n,_,h1⟩:=(show Bj X.prog X.w H s.heap a (.frz ob (.lst xs)) from I.hok a _ ea)
  exact PySem.W.kia_one PySem.W.kitx_list I.kIn ⟨_,h1,rfl⟩ e (fun z => nomatch z) h
 | @tup a xs ea =>
  cases (show u = Value.ref a from rx)
  obtain ⟨_,_,_,p⟩:=(show Bj X.prog X.w H s.heap a (.tup xs) from I.hok a _ ea)
  obtain ⟨o,h1,h2,_⟩:=p
  exact PySem.W.kia_one PySem.W.kitx_tuple I.kIn ⟨o,h1,h2⟩ e (fun z => nomatch z) h
 | @dK a kvs ea =>
  cases (show u = Value.ref a from rx)
  obtain ⟨_,_,vs,_,p⟩:=(show Bj X.prog X.w H s.heap a (.dK kvs) from I.hok a _ ea)
  obtain ⟨o,es,ep,h1,h2,_⟩:=p
  exact PySem.W.kia_one PySem.W.kitx_dict I.kIn ⟨o,h1,h2.1⟩ e (fun z => nomatch z) h
 | @dT a kvs ea =>
  cases (show u = Value.ref a from rx)
  obtain ⟨_,_,xs,_,o,es,ep,h1,h2,_⟩:=(show Bj X.prog X.w H s.heap a (.dT kvs) from I.hok a _ ea)
  exact PySem.W.kia_one PySem.W.kitx_dict I.kIn ⟨o,h1,h2.1⟩ e (fun z => nomatch z) h
 | @ins a C dx fs ea cl ha hn htk hm =>
  cases (show u = Value.ref a from rx)
  obtain ⟨mA,O,_⟩:=Rt I.hok ea
  obtain ⟨od,J,_⟩:=O.look
  exact PySem.W.kia_one (PySem.W.kitx_own (cl.get _) cl.hd ha hn htk hm) I.kIn J e (fun z => nomatch z) h
end
end L2
namespace L2
open PySem PySem.Spec PyProof.Rows
structure Room (k : Nat) (A : Around) : Prop where
 hd : A.handled = none
 dp : A.depth + 3 * k + 5 < recursionLimit
 un : A.units + 16 * k + 200 < cLine
theorem Room.mono {j k : Nat} {A : Around} (r : Room k A) (h : j<=k) : Room j A:=⟨r.hd,by have:=r.dp; omega,by have:=r.un; omega⟩
theorem Room.deeper {k : Nat} {A : Around} (r : Room (k + 1) A) (env : Env) : Room k (A.deeper env):=
 ⟨r.hd,by have:=r.dp; show A.depth + 1 + 3 * k + 5 < _; omega,by have:=r.un; show A.units + 3 + 16 * k + 200 < _; omega⟩
theorem Room.in1 {k : Nat} {A : Around} (r : Room (k + 1) A) : Room k A.in1:=
 ⟨r.hd,by have:=r.dp; show A.depth + 3 * k + 5 < _; omega,by have:=r.un; show A.units + 1 + 16 * k + 200 < _; omega⟩
theorem VP {A : Around} {C : Addr} {us : List Value} {kw : List (Str × Value)} : (A.under (.builtin "type.__call__" ⟨.ref C :: us,kw⟩)).depth = A.depth + 1:=by
 first | rfl | simp [Around.under,Code.weight,Code.isCreation,Code.isGuard,Code.isCaller,Code.frames,Code.isFrame,guardIds]
theorem VR {A : Around} {C : Addr} {us : List Value} {kw : List (Str × Value)} : (A.under (.builtin "type.__call__" ⟨.ref C :: us,kw⟩)).units = A.units + 1:=by
 first | rfl | simp [Around.under,Code.cUnits,Code.frames,Code.isFrame]
theorem Room.make {k : Nat} {A : Around} (r : Room (k + 1) A) (C : Addr) (us : List Value) (kw : List (Str × Value)) : Room k (A.under (.builtin "type.__call__" ⟨.ref C :: us,kw⟩)):=
 ⟨r.hd,by have:=r.dp; rw [VP]; omega,by have:=r.un; rw [VR]; omega⟩
theorem Room.depth {k : Nat} {A : Around} (r : Room k A) : A.depth < recursionLimit:=by have:=r.dp; omega
theorem Room.units {k : Nat} {A : Around} (r : Room k A) : A.units + 64 < cLine:=by have:=r.un; omega
def tNil : TA:=fun _ H Q => Q [] H
def WY (ta : TE) (tr : TA) : TA:=fun σ H Q => ta σ H fun x H1 => tr σ H1 fun xs H2 => Q (x :: xs) H2
section
variable {X : Cx} {e : Expr} {es : List Expr} {te : TE} {t : TA} {pos : Pos}
theorem Ga : PA X [] tNil:=fun _ _ _ _ H Q I h => Calls.spliced_nil ⟨[],H,I,.nil,h⟩
theorem DK (ha : PE X e te) (hr : PA X es t) (hs : starEach (e :: es) X.env = (false,eval e X.env) :: starEach es X.env:=by rfl) : PA X (e :: es) (WY te t):=by
 intro pos pins s σ H Q I h
 rw [hs]
 show wpAny _ _ (spliced ((false,eval e X.env) :: backTo pos (starEach es X.env))) _ _ s
 refine Calls.spliced_cons (thn (ha pins s σ H _ I h) fun u s1 ⟨x,H1,I1,r1,q1⟩ => ?_)
 exact thn (hr pos pins s1 σ H1 _ I1 q1) fun us s2 ⟨xs,H2,I2,r2,q2⟩ => ⟨x :: xs,H2,I2,.cons r1 r2,q2⟩
def tTup (t : TA) : TE:=fun σ H Q => t σ H fun xs H1 => xs.length<=sizeLine/\∀ p,H1 p = none->Q (.ref p) (upd H1 p (.tup xs))
def tLst (t : TA) : TE:=fun σ H Q => t σ H fun xs H1 => xs.length<=sizeLine/\∀ p,H1 p = none->Q (.ref p) (upd H1 p (.lst xs))
theorem Zo {x1} (h : PA X es t) : PE X (.Tuple es x1 pos) (tTup t):=by
 intro pins s σ H Q I hq
 refine wpAny_Tuple_spliced (thn (h pos pins s σ H _ I hq) fun us s1 ⟨xs,H1,I1,r,z,q⟩ => ⟨by rw [<-r.length]; exact z,?_⟩)
 have hf : H1 s1.heap.objs.size = none:=I1.hok.fresh (Nat.le_refl _)
 refine ⟨.ref s1.heap.objs.size,upd H1 s1.heap.objs.size (.tup xs),I1.laid (t':=s1.toks) (fun b u e => Heap.get?_push_of_some _ e) (Nat.le_refl _) ?_,rfl,q _ hf⟩
 exact ⟨z,us,r,⟨_,Heap.get?_push_size _ rfl,rfl,_,rfl⟩⟩
theorem Zq (h : PA X es t) : PE X (.List es pos) (tLst t):=by
 intro pins s σ H Q I hq
 refine wpAny_List_spliced (thn (h pos pins s σ H _ I hq) fun us s1 ⟨xs,H1,I1,r,z,q⟩ => ⟨by rw [<-r.length]; exact z,?_⟩)
 have hf : H1 s1.heap.objs.size = none:=I1.hok.fresh (Nat.le_refl _)
 refine ⟨.ref s1.heap.objs.size,upd H1 s1.heap.objs.size (.lst xs),I1.laid (t':=s1.toks) (fun b u e => Heap.get?_push_of_some _ e) (Nat.le_refl _) ?_,rfl,q _ hf⟩
 exact ⟨z,us,0,r,Heap.get?_push_size _ rfl⟩
end
abbrev Sp:=List V->Hp->VK->XK->Prop
abbrev CXT:=List Env->Hp->Shared->XK->Value->Shared->Prop
structure Env0 (P : Program) (w : World) (K : PySem.W.Frag) (mg : Str->Option Value) (base : Heap) (A : Around) (outer : List Env) (s : Shared) (H : Hp) : Prop where
 frames : A.frames = some outer
 mod : Mod K mg base
 bs : ∀ b o,base.get? b = some o->s.heap.get? b = some o/\H b = none
 bsz : base.objs.size<=s.heap.objs.size
 funs : s.heap.FunFrames base outer
 frf : ∀ b ∈ frs outer,H b = none
 hok : HOk P w H s.heap
 bare : AllBare s.gens
def CE (outer : List Env) (P : Program) (w : World) (H : Hp) (s : Shared) (Q : VK) (u : Value) (s' : Shared) : Prop:=
 ∃ v H',s'.os = s.os/\AllBare s'.gens/\Un (frs outer) [] H H' s.heap s'.heap/\HOk P w H' s'.heap/\RelV v u/\Q v H'
def CR (CX : CXT) (outer : List Env) (P : Program) (w : World) (H : Hp) (s : Shared) (Q : VK) (E : XK) (r : Result) (s' : Shared) : Prop:=
 match r with
 | .ok (.ret u) => CE outer P w H s Q u s'
 | .ok _ => False
 | .error e => CX outer H s E e s'
structure FnOk (P : Program) (w : World) (K : PySem.W.Frag) (mg : Str->Option Value) (base : Heap) (CX : CXT) (k : Nat) (f : Addr) (fd : FuncData) (ps : List Str) (sp : Sp) : Prop where
 len : ∀ vs H Q E,sp vs H Q E->vs.length = ps.length
 run : ∀ (A : Around) (outer : List Env) (s : Shared) (H : Hp) (args : Args) (us : List Value) (vs : List V) (Q : VK) (E : XK),Room k A->Env0 P w K mg base A outer s H->BindsTo s fd args (ps.zip us)->Vals vs us->sp vs H Q E ->
  codeAny (model P w) A (.call (.ref f) args) (CR CX outer P w H s Q E) s
theorem FnOk.mono {P : Program} {w : World} {K : PySem.W.Frag} {mg : Str->Option Value} {base : Heap} {CX : CXT} {j k : Nat} {f : Addr} {fd : FuncData} {ps : List Str} {sp : Sp} (F : FnOk P w K mg base CX j f fd ps sp) (h : j<=k) :
  FnOk P w K mg base CX k f fd ps sp:=⟨F.len,fun A outer s H args us vs Q E hr => F.run A outer s H args us vs Q E (hr.mono h)⟩
theorem FnOk.imp {P : Program} {w : World} {K : PySem.W.Frag} {mg : Str->Option Value} {base : Heap} {CX : CXT} {k : Nat} {f : Addr} {fd : FuncData} {ps : List Str} {sp sp' : Sp} (F : FnOk P w K mg base CX k f fd ps sp)
  (h : ∀ vs H Q E,sp' vs H Q E->sp vs H Q E) : FnOk P w K mg base CX k f fd ps sp':=
 ⟨fun vs H Q E q => F.len vs H Q E (h _ _ _ _ q),fun A outer s H args us vs Q E hr he hb hv hs => F.run A outer s H args us vs Q E hr he hb hv (h _ _ _ _ hs)⟩
theorem Env0.make {P : Program} {w : World} {K : PySem.W.Frag} {mg : Str->Option Value} {base : Heap} {A : Around} {outer : List Env} {s : Shared} {H : Hp} (e : Env0 P w K mg base A outer s H) (C : Addr) (us : List Value) (kw : List (Str × Value)) :
  Env0 P w K mg base (A.under (.builtin "type.__call__" ⟨.ref C :: us,kw⟩)) outer s H:=⟨by first | exact e.frames | (simpa [Around.under,Code.envs,Code.isFrame,pushEnvs] using e.frames),e.mod,e.bs,e.bsz,e.funs,e.frf,e.hok,e.bare⟩
theorem Env0.in1 {P : Program} {w : World} {K : PySem.W.Frag} {mg : Str->Option Value} {base : Heap} {A : Around} {outer : List Env} {s : Shared} {H : Hp} (e : Env0 P w K mg base A outer s H) :
  Env0 P w K mg base A.in1 outer s H:=⟨e.frames,e.mod,e.bs,e.bsz,e.funs,e.frf,e.hok,e.bare⟩
section
variable {X : Cx} {pins : List (Addr × Obj)} {σ : St} {H : Hp} {s s' : Shared}
theorem Inv.env0 (I : Inv X pins σ H s) : Env0 X.prog X.w X.K X.mg X.base X.A X.stack s H:=
 ⟨I.ok.frames,I.ok.mod,I.bs,Nat.le_trans I.ok.bsz I.sz,I.stack,I.stkFree,I.hok,I.bare⟩
theorem Inv.after {Q : VK} {u : Value} (I : Inv X pins σ H s) (h : CE X.stack X.prog X.w H s Q u s') : EP X pins σ Q u s':=by
 obtain ⟨v,H',os,bare,un,hok,r,q⟩:=h
 obtain ⟨hh,g,d,t,os'⟩:=s'
 obtain rfl : os' = s.os:=os
 exact ⟨v,H',I.call (h':=hh) (g':=g) (d':=d) (t':=t) (ch:=[]) un hok bare (fun b z => absurd z (by simp)),r,q⟩
end
def pQ (sp : Sp) (dvs : List V) (E : XK) (t : TA) : TE:=fun σ H Q => t σ H fun vs H1 => sp (vs ++ dvs) H1 Q E
def pR (C : Addr) (sp : Sp) (dvs : List V) (E : XK) (t : TA) : TE:=fun σ H Q => t σ H fun vs H1 => ∀ x dx,H1 x = none->H1 dx = none->dx ≠ x ->
 sp (.ref x :: (vs ++ dvs)) (upd (upd H1 dx (.own x)) x (.ins C dx [])) (fun v H2 => v = .non/\Q (.ref x) H2) E
def Binds (K : PySem.W.Frag) (fd : FuncData) (ps : List Str) (ds : List Value) : Prop:=
 ∀ (s : Shared) (us : List Value),K.In s.heap->(us ++ ds).length = ps.length->BindsTo s fd ⟨us,[]⟩ (ps.zip (us ++ ds))
theorem Binds.all {K : PySem.W.Frag} {fd : FuncData} {ps : List Str} (h : ∀ us : List Value,us.length = ps.length->bindArgs fd ⟨us,[]⟩ = pure (ps.zip us)) : Binds K fd ps []:=fun s us _ hl => by
 rw [List.append_nil] at hl ⊢
 exact .of_eq (h us hl)
def Pg (CX : CXT) (X : Cx) (E : XK) : Prop:=∀ (pins : List (Addr × Obj)) (σ : St) (H : Hp) (s : Shared) (e : Value) (s' : Shared),Inv X pins σ H s->CX X.stack H s E e s'->X.xe e s'
section
variable {X : Cx} {CX : CXT} {k : Nat} {f C : Addr} {fd : FuncData} {ps : List Str} {sp : Sp} {dvs : List V} {ds : List Value} {E : XK} {x m : Str} {p pos apos : Pos} {e o : Expr} {es : List Expr} {ta : TE} {t : TA}
theorem mR {pins : List (Addr × Obj)} {σ : St} {H : Hp} {s : Shared} {Q : VK} {us : List Value} {vs : List V} (F : FnOk X.prog X.w X.K X.mg X.base CX k f fd ps sp) (hr : Room k X.A) (hb : Binds X.K fd ps ds) (hd : Vals dvs ds) (hx : Pg CX X E)
  (I : Inv X pins σ H s) (r : Vals vs us) (h : sp (vs ++ dvs) H Q E) : wpAny (model X.prog X.w) X.A (call (.ref f) us) (EP X pins σ Q) X.xe s:=by
 have r2 : Vals (vs ++ dvs) (us ++ ds):=r.append hd
 have hl : (us ++ ds).length = ps.length:=by rw [<-r2.length]; exact F.len _ _ _ _ h
 refine wpAny_call (codeAny_mono (F.run X.A X.stack s H ⟨us,[]⟩ (us ++ ds) (vs ++ dvs) Q E hr I.env0 (hb s us I.kIn hl) r2 h) fun r s' hq => ?_)
 cases r with
 | error e => exact hx pins σ H s e s' I hq
 | ok fl =>
  cases fl with
  | ret u => exact I.after hq
  | next => exact False.elim hq
  | brk => exact False.elim hq
  | cont => exact False.elim hq
theorem fj (F : FnOk X.prog X.w X.K X.mg X.base CX k f fd ps sp) (hr : Room k X.A) (hg : Gl X x) (hm : X.mg x = some (.ref f)) (hk : PySem.W.keepIn X.K (.ref f) = true) (hb : Binds X.K fd ps ds) (hd : Vals dvs ds) (hx : Pg CX X E)
  (ha : PA X (e :: es) t) (hdb : (x == ("__debug__" : Str)) = false:=by decide) (he : starEach (e :: es) X.env = (false,eval e X.env) :: starEach es X.env:=by rfl) (hpl : (backTo pos (starEach es X.env)).any (·.1) = false:=by rfl) :
  PE X (.Call (.Name x p) (e :: es) [] pos) (pQ sp dvs E t):=by
 intro pins s σ H Q I h
 refine wpAny_Call_Name_kw (Ro I hg hm ?_ hdb)
 refine PySem.W.callWith_K (h₀:=X.base) I.ok.mod.kin hk (thn (ha pos pins s σ H _ I h) fun us s1 ⟨vs,H1,I1,r,q⟩ => ⟨I1.kIn,?_⟩) he hpl
 exact mR F hr hb hd hx I1 r q
structure Mk (K : PySem.W.Frag) (C f : Addr) : Prop where
 makes : PySem.W.makesIn K C = true
 init : PySem.W.findIn K (.ref C) "__init__" = some (some (.ref f))
 fn : PySem.W.isFn K (.ref f) = true
 kp : PySem.W.keepIn K (.ref C) = true
theorem Zr {pins : List (Addr × Obj)} {σ : St} {H : Hp} {s : Shared} {Q : VK} {us : List Value} {vs : List V} (M : Mk X.K C f) (F : FnOk X.prog X.w X.K X.mg X.base CX k f fd ps sp) (hr : Room (k + 1) X.A) (hb : Binds X.K fd ps ds) (hd : Vals dvs ds)
  (hx : Pg CX X E) (I : Inv X pins σ H s) (r : Vals vs us)
  (h : ∀ x dx,H x = none->H dx = none->dx ≠ x->sp (.ref x :: (vs ++ dvs)) (upd (upd H dx (.own x)) x (.ins C dx [])) (fun v H2 => v = .non/\Q (.ref x) H2) E) :
  wpAny (model X.prog X.w) X.A (call (.ref C) us) (EP X pins σ Q) X.xe s:=by
 have hq:=h (s.heap.objs.size + 1) s.heap.objs.size (I.hok.fresh (Nat.le_succ _)) (I.hok.fresh (Nat.le_refl _)) (Nat.ne_of_lt (Nat.lt_succ_self _))
 have I2:=Inv.made (C:=C) I
 have r2 : Vals (V.ref (s.heap.objs.size + 1) :: (vs ++ dvs)) (Value.ref (s.heap.objs.size + 1) :: (us ++ ds)):=.cons rfl (r.append hd)
 have hl : (Value.ref (s.heap.objs.size + 1) :: us ++ ds).length = ps.length:=by
  have e:=r2.length
  rw [F.len _ _ _ _ hq] at e
  exact e.symm
 refine wpAny_call (Zm (f:=f) I.kIn M.makes M.init (beq_iff_eq.mp M.fn) (codeAny_mono (F.run _ X.stack _ _ ⟨Value.ref (s.heap.objs.size + 1) :: us,[]⟩ (Value.ref (s.heap.objs.size + 1) :: (us ++ ds)) _ _ E (hr.make C us [])
  (I2.env0.make C us []) (hb _ (Value.ref (s.heap.objs.size + 1) :: us) I2.kIn hl) r2 hq) fun r s' hq' => ?_))
 cases r with
 | error e => exact hx pins σ _ _ e s' I2 hq'
 | ok fl =>
  cases fl with
  | ret u =>
   obtain ⟨v,H',I3,rv,ev,q3⟩:=I2.after hq'
   subst ev
   exact ⟨rv,⟨V.ref (s.heap.objs.size + 1),H',I3,rfl,q3⟩⟩
  | next => exact False.elim hq'
  | brk => exact False.elim hq'
  | cont => exact False.elim hq'
theorem fu (M : Mk X.K C f) (F : FnOk X.prog X.w X.K X.mg X.base CX k f fd ps sp) (hr : Room (k + 1) X.A) (hg : Gl X x) (hm : X.mg x = some (.ref C)) (hb : Binds X.K fd ps ds) (hd : Vals dvs ds) (hx : Pg CX X E)
  (ha : PA X (e :: es) t) (hdb : (x == ("__debug__" : Str)) = false:=by decide) (he : starEach (e :: es) X.env = (false,eval e X.env) :: starEach es X.env:=by rfl) (hpl : (backTo pos (starEach es X.env)).any (·.1) = false:=by rfl) :
  PE X (.Call (.Name x p) (e :: es) [] pos) (pR C sp dvs E t):=by
 intro pins s σ H Q I h
 refine wpAny_Call_Name_kw (Ro I hg hm ?_ hdb)
 refine PySem.W.callWith_K (h₀:=X.base) I.ok.mod.kin M.kp (thn (ha pos pins s σ H _ I h) fun us s1 ⟨vs,H1,I1,r,q⟩ => ⟨I1.kIn,?_⟩) he hpl
 exact Zr M F hr hb hd hx I1 r q
end
section
variable {X : Cx} {CX : CXT} {k : Nat} {f C : Addr} {fd : FuncData} {ps ks : List Str} {sp : Sp} {E : XK} {x m : Str} {p pos apos kpos : Pos} {e o : Expr} {es : List Expr} {kws : List Keyword} {te ta : TE} {t tk : TA} {nm : Option Str}
variable {g : List Value->List Value->List Value} {gV : List V->List V->List V}
end
structure FnScope (N P : List Str) (sc : Scope) : Prop where
 kind : sc.kind = .function
 co : sc.isCoroutine = false
 gen : sc.isGenerator = false
 nd : N.Nodup
 pre : N.take P.length = P
 par : ∀ x ∈ P,sc.names.lookup x = some .local ∨ sc.names.lookup x = some .cell
 nofree : ∀ y ∈ sc.names,y.2 ≠ .free
theorem Q3 {kindOf : Str->Option NameKind} {x : Str} : ∀ {binds : List (Str × Value)} {m : Str->Option Value},(∀ v,(x,v) ∉ binds)->bindL kindOf binds m x = m x
 | [],_,_ => rfl
 | (n,v) :: r,m,h => by
  unfold bindL
  rw [Q3 fun w hw => h w (List.mem_cons_of_mem _ hw)]
  split
  ·have : x ≠ n:=by rintro rfl; exact h v List.mem_cons_self
   simp [this]
  ·rfl
theorem Q4 {kindOf : Str->Option NameKind} {x : Str} : ∀ {binds : List (Str × Value)} {m : Str->Option Value},(∀ v,(x,v) ∉ binds)->bindC kindOf binds m x = m x
 | [],_,_ => rfl
 | (n,v) :: r,m,h => by
  unfold bindC
  rw [Q4 fun w hw => h w (List.mem_cons_of_mem _ hw)]
  split
  ·rfl
  ·have : x ≠ n:=by rintro rfl; exact h v List.mem_cons_self
   simp [this]
theorem Q5 {kindOf : Str->Option NameKind} {x : Str} {v : Value} : ∀ {P : List Str} {vs : List Value} {i : Nat} {m : Str->Option Value},P.Nodup->P[i]? = some x->vs[i]? = some v->kindOf x = some .local ->
  bindL kindOf (P.zip vs) m x = some v
 | [],_,_,_,_,h,_,_ => by simp at h
 | _ :: _,[],_,_,_,_,h,_ => by simp at h
 | p :: P,w :: vs,0,m,nd,h1,h2,hk => by
  simp at h1 h2; subst h1; subst h2
  show bindL kindOf ((p,w) :: P.zip vs) m p = _
  unfold bindL
  rw [Q3 fun v hv => (List.nodup_cons.mp nd).1 (List.of_mem_zip hv).1,if_pos hk]
  simp
 | p :: P,w :: vs,i + 1,m,nd,h1,h2,hk => by
  show bindL kindOf ((p,w) :: P.zip vs) m x = _
  unfold bindL
  exact Q5 (i:=i) (List.nodup_cons.mp nd).2 (by simpa using h1) (by simpa using h2) hk
theorem Q6 {kindOf : Str->Option NameKind} {x : Str} {v : Value} : ∀ {P : List Str} {vs : List Value} {i : Nat} {m : Str->Option Value},P.Nodup->P[i]? = some x->vs[i]? = some v->kindOf x ≠ some .local ->
  bindC kindOf (P.zip vs) m x = some v
 | [],_,_,_,_,h,_,_ => by simp at h
 | _ :: _,[],_,_,_,_,h,_ => by simp at h
 | p :: P,w :: vs,0,m,nd,h1,h2,hk => by
  simp at h1 h2; subst h1; subst h2
  show bindC kindOf ((p,w) :: P.zip vs) m p = _
  unfold bindC
  rw [Q4 fun v hv => (List.nodup_cons.mp nd).1 (List.of_mem_zip hv).1,if_neg hk]
  simp
 | p :: P,w :: vs,i + 1,m,nd,h1,h2,hk => by
  show bindC kindOf ((p,w) :: P.zip vs) m x = _
  unfold bindC
  exact Q6 (i:=i) (List.nodup_cons.mp nd).2 (by simpa using h1) (by simpa using h2) hk
def start (N : List Str) (vs : List V) : St:=vs.map some ++ List.replicate (N.length - vs.length) none
def cxOf (CX : CXT) (P : Program) (w : World) (K : PySem.W.Frag) (mg : Str->Option Value) (base : Heap) (N : List Str) (qual : Str) (scope : Scope) (f : Addr) (cd : Value) (A : Around) (outer : List Env) (s : Shared) (H : Hp) (E : XK) : Cx where
 prog:=P
 w:=w
 K:=K
 mg:=mg
 base:=base
 A:=A.deeper (envOfC qual scope s.heap.objs.size f cd)
 N:=N
 s₀:=s
 H₀:=H
 env:=envOfC qual scope s.heap.objs.size f cd
 outer:=outer
 stack:=envOfC qual scope s.heap.objs.size f cd :: outer
 ex:=[]
 calm:=true
 fn:=fun _ => true
 pn:=[]
 xe:=fun e s' => wpAny (model P w) (A.deeper (envOfC qual scope s.heap.objs.size f cd)) (leaving (envOfC qual scope s.heap.objs.size f cd) e) (fun _ s'' => CX outer H s E e s'') (fun e' s'' => CX outer H s E e' s'') s'
theorem Tj {sc : Scope} {n : Nat} {x : Str} (h : sc.names.lookup x = some .cell) : ∃ c,(cellsFrom n sc.names []).lookup x = some c:=by
 have q:=PySem.W.cellsFrom_some sc.names n [] (.inl h)
 exact Option.isSome_iff_exists.mp q
theorem Yl {CX : CXT} {P : Program} {w : World} {K : PySem.W.Frag} {mg : Str->Option Value} {base : Heap} {N ps : List Str} {qual : Str} {scope : Scope} {f : Addr} {cd : Value} {A : Around} {outer : List Env} {s s1 : Shared} {H : Hp} {E : XK} {us : List Value} {vs : List V}
  (S : FnScope N ps scope) (hd : A.handled = none) (e0 : Env0 P w K mg base A outer s H) (hl : vs.length = ps.length) (r : Vals vs us)
  (x : InCallC s s.heap.objs.size (bindL (envOfC qual scope s.heap.objs.size f cd).kindOf (ps.zip us) fun _ => none) (cellsFrom (s.heap.objs.size + 1) scope.names []) (bindC (envOfC qual scope s.heap.objs.size f cd).kindOf (ps.zip us) fun _ => none) s1) :
  Inv (cxOf CX P w K mg base N qual scope f cd A outer s H E) [] (start N vs) H s1:=by
 have hpl : ps.length<=N.length:=by have:=congrArg List.length S.pre; rw [List.length_take] at this; omega
 obtain ⟨h1,tk,rfl,hk⟩:=x.done
 have noA : ∀ b : Addr,b ∉ (cxOf CX P w K mg base N qual scope f cd A outer s H E).ex:=fun b z => absurd (show b ∈ ([] : List Addr) from z) (by simp)
 refine ⟨⟨e0.mod,S.kind,rfl,rfl,Nat.le_refl _,fun y z c h1 h2 => ?_,fun y hy => ?_,fun y c _ h => ?_,fun _ => hd,Around.frames_deeper e0.frames,.inr ⟨rfl,rfl⟩,fun b z => absurd z (noA b),e0.bs,e0.bsz,fun b _ _ => noA b,fun b z => absurd z (noA b),e0.funs,e0.frf⟩,
  rfl,e0.bare,Un.kept hk,⟨_,x.toInCall.ns,fun i y v h1 h2 h3 => ?_⟩,fun y c h => ⟨_,x.cell y c h⟩,e0.hok.fresh (Nat.le_refl _),fun y c h => ?_,fun p hp => absurd (show p ∈ ([] : List (Addr × Obj)) from hp) (by simp),e0.hok.kept hk,?_⟩
 ·exact name_of_addr x.apart (PySem.mem_of_lookup h1) (PySem.mem_of_lookup h2)
 ·have hy : scope.names.lookup y = some .cell ∨ scope.names.lookup y = some .free:=hy
  rcases hy with hy | hy
  ·exact Tj hy
  ·exact absurd rfl (S.nofree _ (PySem.mem_of_lookup hy))
 ·exact Nat.le_of_lt (x.above y c (PySem.mem_of_lookup h))
 ·have hi : i < vs.length:=by
   unfold start at h2
   by_cases hi : i < vs.length
   ·exact hi
   ·rw [List.getElem?_append_right (by simpa using hi)] at h2
    rw [List.getElem?_replicate] at h2
    split at h2 <;> cases h2
  have ha : vs[i]? = some v:=by
   unfold start at h2
   rw [List.getElem?_append_left (by simpa using hi),List.getElem?_map] at h2
   cases e : vs[i]? with
   | none => rw [e] at h2; cases h2
   | some a => rw [e] at h2; cases h2; rfl
  obtain ⟨u,hu,rv⟩:=r.get ha
  have hp : ps[i]? = some y:=by
   rw [<-S.pre,List.getElem?_take_of_lt (by omega)]; exact h1
  have ndP : ps.Nodup:=by rw [<-S.pre]; exact S.nd.sublist (List.take_sublist _ _)
  refine ⟨u,rv,?_⟩
  rcases S.par y (List.mem_of_getElem? hp) with k | k
  ·exact .inl ⟨k,Q5 ndP hp hu k⟩
  ·obtain ⟨c,e⟩:=Tj (n:=s.heap.objs.size + 1) k
   refine .inr ⟨.inl k,c,e,?_⟩
   have q:=x.cell y c e
   rw [Q6 ndP hp hu (by show scope.names.lookup y ≠ _; rw [k]; decide)] at q
   exact q
 ·exact e0.hok.fresh (Nat.le_of_lt (x.above y c (PySem.mem_of_lookup h)))
 ·unfold start
  show _ = N.length
  rw [List.length_append,List.length_map,List.length_replicate]
  omega
theorem jc {CX : CXT} {P : Program} {w : World} {K : PySem.W.Frag} {mg : Str->Option Value} {base : Heap} {k : Nat} {f : Addr} {name qual : Str} {params : Arguments} {body : List Stmt} {scope : Scope} {dV kV doc pm cdv ct oc : Value} {an od : Option Addr}
  {osl : Array (Option Value)} {N ps : List Str} {sp : Sp} (lk : K.lookup f = some ⟨oc,od,.func (PySem.W.fnOf name qual params body scope dV kV doc pm an cdv ct),osl⟩) (hcd : PySem.W.codeIn K cdv qual = true) (S : FnScope N ps scope)
  (len : ∀ vs H Q E,sp vs H Q E->vs.length = ps.length)
  (hbody : ∀ (A : Around) (outer : List Env) (s : Shared) (H : Hp) (vs : List V) (Q : VK) (E : XK),Room k (A.deeper (envOfC qual scope s.heap.objs.size f cdv))->sp vs H Q E ->
   ∃ t,PSs (cxOf CX P w K mg base N qual scope f cdv A outer s H E) body t/\t { nx:=fun _ H' => Q .non H',rt:=Q } (start N vs) H) :
  FnOk P w K mg base CX (k + 1) f (PySem.W.fnOf name qual params body scope dV kV doc pm an cdv ct) ps sp:=by
 refine ⟨len,fun A outer s H args us vs Q E hr e0 hb r hsp => ?_⟩
 have hl:=len _ _ _ _ hsp
 have KX : K.In s.heap:=e0.mod.kin.keeps fun b o e => (e0.bs b o e).1
 have lim : s.heap.NoLimit:=e0.mod.nolimit.keeps fun b o e => (e0.bs b o e).1
 have hkind : ∀ y ∈ ps.zip us,scope.names.lookup y.1 = some .local ∨ (scope.names.lookup y.1 = some .cell/\((cellsFrom (s.heap.objs.size + 1) scope.names []).lookup y.1).isSome = true):=fun ⟨n,v⟩ hy => by
  rcases S.par n (List.of_mem_zip hy).1 with q | q
  ·exact .inl q
  ·exact .inr ⟨q,PySem.W.cellsFrom_some _ _ _ (.inl q)⟩
 refine codeAny_call_function hr.depth (KX _ _ lk) rfl S.co S.gen rfl (PySem.W.codeRec_of KX hcd) (hb _ _ _ _ ?_)
 refine wpAny_newFunctionEnv_cells S.kind hkind fun env he s1 x => ?_
 subst he
 refine ⟨lim.keeps x.toInCall.keep,codeAny_func ?_⟩
 obtain ⟨t,ht,hq⟩:=hbody A outer s H vs Q E (hr.deeper _) hsp
 have I : Inv (cxOf CX P w K mg base N qual scope f cdv A outer s H E) [] (start N vs) H s1:=Yl S hr.hd e0 hl r x
 refine wpAny_mono (ht [] s1 (start N vs) H _ I hq) (fun fl s' hs => ?_) fun e s' hs => hs
 have fin : ∀ {σ' : St} {H' : Hp} {v : V} {u : Value},Inv (cxOf CX P w K mg base N qual scope f cdv A outer s H E) [] σ' H' s'->RelV v u->Q v H'->CE outer P w H s Q u s':=
  fun {σ' H' v u} J rv q => ⟨v,H',J.os,J.bare,J.base,J.hok,rv,q⟩
 cases fl with
 | ret u =>
  obtain ⟨v,σ',H',J,rv,q⟩:=hs
  exact fin J rv q
 | next =>
  obtain ⟨σ',H',J,q⟩:=hs
  exact fin (v:=V.non) (u:=Value.none) J rfl q
 | brk =>
  obtain ⟨_,_,_,q⟩:=hs
  exact False.elim q
 | cont =>
  obtain ⟨_,_,_,q⟩:=hs
  exact False.elim q
end L2
namespace L2
open PySem PySem.Spec PyProof.Rows
section
variable {X : Cx} {x : Str} {p pos : Pos} {e : Expr} {es : List Expr} {t : TA} {id T : String} {r : List V->Hp->VK->Prop}
def tCB (r : List V->Hp->VK->Prop) (t : TA) : TE:=fun σ H Q => t σ H fun vs H1 => r vs H1 Q
theorem L_ (hc : Dh X (.builtin id) r) (hg : Gl X x) (hm : X.mg x = none) (hv : bootBuiltins x = some (.builtin id)) (ha : PA X (e :: es) t) (hn : x ≠ "__name__":=by decide) (hdb : (x == ("__debug__" : Str)) = false:=by decide)
  (he : starEach (e :: es) X.env = (false,eval e X.env) :: starEach es X.env:=by rfl) (hpl : (backTo pos (starEach es X.env)).any (·.1) = false:=by rfl) : PE X (.Call (.Name x p) (e :: es) [] pos) (tCB r t):=by
 intro pins s σ H Q I h
 refine wpAny_Call_Name_kw (Rp I hg hm hv ?_ hn hdb)
 exact PyProof.Rows.callWith_builtin1 (thn (ha pos pins s σ H _ I h) fun us s1 ⟨vs,H1,I1,r1,q1⟩ => hc pins s1 σ H1 vs us Q I1 r1 q1) he hpl
theorem Nj (hc : Dh X (.type T) r) (hg : Gl X x) (hm : X.mg x = none) (hv : bootBuiltins x = some (.type T)) (ha : PA X (e :: es) t) (hn : x ≠ "__name__":=by decide) (hdb : (x == ("__debug__" : Str)) = false:=by decide)
  (he : starEach (e :: es) X.env = (false,eval e X.env) :: starEach es X.env:=by rfl) (hpl : (backTo pos (starEach es X.env)).any (·.1) = false:=by rfl) : PE X (.Call (.Name x p) (e :: es) [] pos) (tCB r t):=by
 intro pins s σ H Q I h
 refine wpAny_Call_Name_kw (Rp I hg hm hv ?_ hn hdb)
 exact PyProof.Rows.callWith_type1 (thn (ha pos pins s σ H _ I h) fun us s1 ⟨vs,H1,I1,r1,q1⟩ => hc pins s1 σ H1 vs us Q I1 r1 q1) he hpl
end
end L2
namespace HT
open PySem PyProof.Rows
section
open PySem.SeqAt
open PySem.AutoSeq1 (wpAny_loadPart')
open PySem.MeetsSeq PySem.MeetsSeq2 PySem.MeetsSeq3
end
section
variable {prog : Program} {w : World} {A : Around} {E : Value->Shared->Prop} {s : Shared}
def sIx (n d : Nat) : Option Int->Nat
 | none => d
 | some v => if v < 0 then (v + (n : Int)).toNat else min v.toNat n
theorem mU (n d : Nat) (hd : d<=n) (o : Option Int) : sIx n d o<=n:=by
 cases o with
 | none => exact hd
 | some v =>
  show (if v < 0 then (v + (n : Int)).toNat else min v.toNat n)<=n
  by_cases hv : v < 0
  ·rw [if_pos hv]; omega
  ·rw [if_neg hv]; exact Nat.min_le_right _ _
theorem Wa (v : Int) (n d : Nat) : (if v < 0 then max (v + (n : Int)) 0 else min v (n : Int)) = ((sIx n d (some v) : Nat) : Int):=by
 show (if v < 0 then max (v + (n : Int)) 0 else min v (n : Int)) = (((if v < 0 then (v + (n : Int)).toNat else min v.toNat n) : Nat) : Int)
 by_cases hv : v < 0
 ·simp only [if_pos hv]; omega
 ·simp only [if_neg hv]; omega
theorem VV (lo hi : Option Int) (n : Nat) : Builtin.Slice.sliceAdjust lo hi 1 (n : Int) = (((sIx n 0 lo : Nat) : Int),((sIx n n hi : Nat) : Int)):=by
 have h1 : ¬ ((1 : Int) < 0):=by omega
 unfold Builtin.Slice.sliceAdjust
 simp only [h1,if_false]
 refine Prod.ext ?_ ?_
 ·cases lo with
  | none => rfl
  | some v => exact Wa v n 0
 ·cases hi with
  | none => rfl
  | some v => exact Wa v n n
theorem Va (i j : Nat) : Builtin.Slice.slicePlaces (i : Int) (j : Int) 1 = j - i:=by
 unfold Builtin.Slice.slicePlaces
 have h1 : (1 : Int) > 0:=by omega
 simp only [h1,if_true,Int.ediv_one]
 split <;> omega
theorem Ph {v : Value} {o : Option Int} {Q : Option Int->Shared->Prop} (p : IsPart v o) (h : Q o s) : wpAny (model prog w) A (Builtin.Slice.slicePartIndex v) Q E s:=by
 cases p with
 | none => exact slicePart_none h
 | int i t => exact slicePart_int h
theorem Nk {sl : Addr} {vl vu : Value} {lo hi : Option Int} {n : Nat} {Q : Int × Int × Nat->Shared->Prop} (hs : s.heap.IsSliceOf sl vl vu .none) (pl : IsPart vl lo) (pu : IsPart vu hi)
  (h : Q (((sIx n 0 lo : Nat) : Int),1,sIx n n hi - sIx n 0 lo) s) : wpAny (model prog w) A (Builtin.Slice.sliceApplied (.ref sl) (pure (n : Int))) Q E s:=by
 obtain ⟨os,hos,hcs,hds⟩:=id hs
 unfold Builtin.Slice.sliceApplied Builtin.Slice.sliceFields
 refine wpAny_bind (wpAny_bind (wpAny_field hos hds (x:=vl) rfl (wpAny_bind (wpAny_field hos hds (x:=vu) rfl (wpAny_bind (wpAny_field hos hds (x:=.none) rfl (wpAny_pure ?_)))))))
 refine wpAny_bind (slicePart_none ?_)
 show wpAny _ _ (if ((1 : Int) == 0) = true then _ else _) _ _ s
 rw [if_neg (by decide)]
 refine wpAny_bind (Ph pl (wpAny_bind (Ph pu (wpAny_bind (wpAny_pure ?_)))))
 show wpAny _ _ (match Builtin.Slice.sliceAdjust lo hi 1 (n : Int) with | (lo,hi) => pure (lo,(1 : Int),Builtin.Slice.slicePlaces lo hi 1)) _ _ s
 rw [VV lo hi n]
 show wpAny _ _ (pure (((sIx n 0 lo : Nat) : Int),(1 : Int),Builtin.Slice.slicePlaces ((sIx n 0 lo : Nat) : Int) ((sIx n n hi : Nat) : Int) 1)) _ _ s
 rw [Va]
 exact wpAny_pure h
theorem Zt (xs : Array Value) (i k : Nat) : ((List.range k).filterMap fun (m : Nat) => xs[((i : Int) + (m : Int) * 1).toNat]?).toArray = ((xs.toList.drop i).take k).toArray:=by
 have e : (fun (m : Nat) => xs[((i : Int) + (m : Int) * 1).toNat]?) = fun m => xs[i + m]?:=by
  funext m
  have : ((i : Int) + (m : Int) * 1).toNat = i + m:=by omega
  rw [this]
 rw [e]
 have:=pick_run xs i k
 rw [List.filterMap_map] at this
 have e2 : ((fun x => xs[x]?) ∘ fun x => i + x) = fun m => xs[i + m]?:=rfl
 rw [e2] at this
 rw [this]
theorem MF {t sl : Addr} {items : Array Value} {vl vu : Value} {lo hi : Option Int} {Q : Value->Shared->Prop} (ht : IsTup s.heap t items) (hs : s.heap.IsSliceOf sl vl vu .none) (pl : IsPart vl lo) (pu : IsPart vu hi)
  (hw : ¬ (sIx items.size 0 lo = 0/\sIx items.size items.size hi = items.size))
  (h : Q (.ref s.heap.objs.size) { s with heap:=s.heap.push { cls:=.type "tuple",data:=.seq ((items.toList.drop (sIx items.size 0 lo)).take (sIx items.size items.size hi - sIx items.size 0 lo)).toArray } })
  (hsz : items.size<=sizeLine) : wpAny (model prog w) A (getItem (.ref t) (.ref sl)) Q E s:=by
 have htake : sizeOk (.seq ((items.toList.drop (sIx items.size 0 lo)).take (sIx items.size items.size hi - sIx items.size 0 lo)).toArray):=by
  show ((items.toList.drop (sIx items.size 0 lo)).take (sIx items.size items.size hi - sIx items.size 0 lo)).toArray.size<=sizeLine
  rw [List.size_toArray,List.length_take,List.length_drop,Array.length_toList]
  omega
 have hj : sIx items.size items.size hi<=items.size:=mU _ _ (Nat.le_refl _) hi
 obtain ⟨os,hos,hcs,hds⟩:=id hs
 have hTs : s.TypeIs (.ref sl) "slice":=⟨os,hos,hcs⟩
 unfold getItem
 try with_reducible refine wpAny_holding ?_
 first | refine wpAny_bind (wpAny_pure ?_) | skip
 refine wpAny_bind (wpAny_sequenceKey ht.typeIs (by decide) ?_)
 refine wpAny_bind (wpAny_callSpecial?_slot (name:=Str.ofString "__getitem__") ht.typeIs PyProof.Rows.slot_tuple_getitem
  (wpAny_call_entry PyProof.Rows.slot_tuple_getitem ht.typeIs entry_tuple_getitem ?_ (args_tuple_getitem _ _)))
 show wpAny _ _ (Builtin.Tuple.tupleItemsOf (.ref t) >>= _) _ _ s
 refine wpAny_bind (tupleItemsOf_ ht ?_)
 refine wpAny_bind (wpAny_typeOf hTs ?_)
 rw [if_pos (by decide)]
 refine wpAny_bind (Nk hs pl pu ?_)
 have hno : ¬ ((((sIx items.size 0 lo : Nat) : Int) == 0 && (1 : Int) == 1 && (sIx items.size items.size hi - sIx items.size 0 lo) == items.size) = true):=by
  intro q
  rw [Bool.and_eq_true,Bool.and_eq_true] at q
  have q1 : ((sIx items.size 0 lo : Nat) : Int) = 0:=eq_of_beq q.1.1
  have q2 : sIx items.size items.size hi - sIx items.size 0 lo = items.size:=eq_of_beq q.2
  exact hw ⟨by omega,by omega⟩
 show wpAny _ _ (if (((sIx items.size 0 lo : Nat) : Int) == 0 && (1 : Int) == 1 && (sIx items.size items.size hi - sIx items.size 0 lo) == items.size) = true then _ else _) _ _ s
 rw [if_neg hno,Zt]
 first
  | exact wpAny_bind (m:=Builtin.Tuple.tupleExact _) (wpAny_newObj_type (wpAny_pure ⟨_,rfl,wpAny_pure h⟩) htake)
  | exact wpAny_bind (m:=Builtin.Tuple.tupleExact _) (wpAny_newObj_type (wpAny_bind (wpAny_pure (wpAny_pure ⟨_,rfl,wpAny_pure h⟩))) htake)
  | exact wpAny_bind (wpAny_bind (m:=Builtin.Tuple.tupleExact _) (wpAny_newObj_type (wpAny_pure (wpAny_pure ⟨_,rfl,wpAny_pure h⟩)) htake))
  | exact wpAny_bind (wpAny_bind (m:=Builtin.Tuple.tupleExact _) (wpAny_newObj_type (wpAny_pure ⟨_,rfl,wpAny_pure h⟩) htake))
end
end HT
namespace L2
open PySem PySem.Spec PyProof.Rows
abbrev TO:=St->Hp->(Option Int->Hp->Prop)->Prop
def PO (X : Cx) (e : Option Expr) (t : TO) : Prop:=
 ∀ (pins : List (Addr × Obj)) (s : Shared) (σ : St) (H : Hp) (Q : Option Int->Hp->Prop),Inv X pins σ H s->t σ H Q ->
  wpAny (model X.prog X.w) X.A (evalPart e X.env) (fun u s' => ∃ o H',Inv X pins σ H' s'/\IsPart u o/\Q o H') X.xe s
def gA : TO:=fun _ H Q => Q none H
def pW (t : TE) : TO:=fun σ H Q => t σ H fun x H1 => ∃ i,x = .int i/\Q (some i) H1
section
variable {X : Cx} {e : Expr} {te : TE} {lo hi : Option Expr} {tl th : TO} {pos p2 : Pos}
theorem gB : PO X none gA:=by
 intro pins s σ H Q I h
 rw [evalPart_none]
 exact wpAny_pure ⟨none,H,I,.none,h⟩
theorem gC (h : PE X e te) : PO X (some e) (pW te):=by
 intro pins s σ H Q I hw
 rw [evalPart_some]
 refine thn (h pins s σ H _ I hw) fun u s1 ⟨x,H1,I1,r1,q1⟩ => ?_
 obtain ⟨i,rfl,q⟩:=q1
 obtain ⟨t,rfl⟩:=r1
 exact ⟨some i,H1,I1,.int i t,q⟩
def SlR (X : Cx) (r : V->Option Int->Option Int->Hp->VK->Prop) : Prop:=
 ∀ (pins : List (Addr × Obj)) (s : Shared) (σ : St) (H : Hp) (x : V) (v vl vu : Value) (lo hi : Option Int) (sl : Addr) (Q : VK),Inv X pins σ H s->RelV x v->s.heap.IsSliceOf sl vl vu .none->IsPart vl lo->IsPart vu hi->r x lo hi H Q ->
  ∃ T id,typeLookup (.type T) "__getitem__" = pure (some (.builtin id))/\s.TypeIs v T/\wpAny (model X.prog X.w) X.A (getItem v (.ref sl)) (EP X pins σ Q) X.xe s
theorem SlR.or {r r' : V->Option Int->Option Int->Hp->VK->Prop} (h : SlR X r) (h' : SlR X r') : SlR X (fun x lo hi H Q => r x lo hi H Q ∨ r' x lo hi H Q):=by
 intro pins s σ H x v vl vu lo hi sl Q I rx hs pl pu q
 rcases q with q | q
 ·exact h pins s σ H x v vl vu lo hi sl Q I rx hs pl pu q
 ·exact h' pins s σ H x v vl vu lo hi sl Q I rx hs pl pu q
def tSl (r : V->Option Int->Option Int->Hp->VK->Prop) (te : TE) (tl th : TO) : TE:=fun σ H Q => te σ H fun x H1 => tl σ H1 fun l H2 => th σ H2 fun u H3 => r x l u H3 Q
theorem Zu {r : V->Option Int->Option Int->Hp->VK->Prop} (hr : SlR X r) (he : PE X e te) (hl : PO X lo tl) (hu : PO X hi th) : PE X (.Subscript e (.Slice lo hi none p2) pos) (tSl r te tl th):=by
 intro pins s σ H Q I h
 refine Subscript_ (thn (he pins s σ H _ I h) fun v s1 ⟨x,H1,I1,r1,q1⟩ => ?_)
 refine wpAny_Slice (thn (hl pins s1 σ H1 _ I1 q1) fun vl s2 ⟨l,H2,I2,pl,q2⟩ => thn (hu pins s2 σ H2 _ I2 q2) fun vu s3 ⟨u,H3,I3,pu,q3⟩ => ?_)
 rw [evalPart_none]
 refine wpAny_pure ?_
 have I4 : Inv X pins σ H3 { s3 with heap:=s3.heap.push { cls:=.type "slice",data:=.fields #[vl,vu,.none] } }:=I3.kept (t':=s3.toks) fun b ob q => Heap.get?_push_of_some _ q
 obtain ⟨T,id,hT,ht,hg⟩:=hr pins { s3 with heap:=s3.heap.push { cls:=.type "slice",data:=.fields #[vl,vu,.none] } } σ H3 x v vl vu l u s3.heap.objs.size Q I4 r1 (Heap.IsSliceOf.new ..) pl pu q3
 show wpAny (model X.prog X.w) X.A (subscriptTail e (.Slice lo hi none p2) v (.ref s3.heap.objs.size)) (EP X pins σ Q) X.xe { s3 with heap:=s3.heap.push { cls:=.type "slice",data:=.fields #[vl,vu,.none] } }
 exact tail_any (ops:=[.ref s3.heap.objs.size,v]) ht hT hg (by with_unfolding_all rfl)
def cutV (xs : List V) (lo hi : Option Int) : List V:=(xs.drop (HT.sIx xs.length 0 lo)).take (HT.sIx xs.length xs.length hi - HT.sIx xs.length 0 lo)
theorem Oi (xs : List V) (lo hi : Option Int) : (cutV xs lo hi).length<=xs.length:=by
 unfold cutV
 rw [List.length_take,List.length_drop]
 omega
def rSlT (K : PySem.W.Frag) : V->Option Int->Option Int->Hp->VK->Prop:=fun x lo hi H Q => ∃ a xs,x = .ref a/\SqT K H a xs ∧
 ¬ (HT.sIx xs.length 0 lo = 0/\HT.sIx xs.length xs.length hi = xs.length)/\∀ p,H p = none->Q (.ref p) (upd H p (.tup (cutV xs lo hi)))
theorem mV : SlR X (rSlT X.K):=by
 intro pins s σ H x v vl vu lo hi sl Q I rx hs pl pu h
 obtain ⟨a,xs,rfl,hx,hw,q⟩:=h
 cases rx
 obtain ⟨its,r,ht,hz⟩:=I.tuple hx
 have hlen : its.toArray.size = xs.length:=by rw [List.size_toArray]; exact r.length.symm
 refine ⟨"tuple",_,PyProof.Rows.slot_tuple_getitem.lookup,ht.typeIs,?_⟩
 refine HT.MF ht hs pl pu (by rw [hlen]; exact hw) ?_ (by rw [hlen]; exact hz)
 rw [hlen]
 refine ⟨.ref s.heap.objs.size,_,I.laid (t':=s.toks) (o:=.tup (cutV xs lo hi)) (fun b ob q => Heap.get?_push_of_some _ q) (Nat.le_refl _) ?_,rfl,q _ (I.hok.fresh (Nat.le_refl _))⟩
 exact ⟨Nat.le_trans (Oi xs lo hi) hz,_,(r.drop (HT.sIx xs.length 0 lo)).take (HT.sIx xs.length xs.length hi - HT.sIx xs.length 0 lo),IsTup.new _ _⟩
end
end L2
namespace L2
open PySem PySem.Spec PyProof.Rows
def ixN (n : Nat) (i : Int) : Option Nat:=if 0<=i then (if i < n then some i.toNat else none) else if -(n : Int)<=i then some (i + n).toNat else none
def atI {α : Type} (xs : List α) (i : Int) : Option α:=(ixN xs.length i).bind fun j => xs[j]?
theorem Wb {n : Nat} {i : Int} {j : Nat} (h : ixN n i = some j) : seqIndex? i n = some j/\j < n/\-(n : Int)<=i/\i < n:=by
 unfold ixN at h
 by_cases h0 : 0<=i
 ·rw [if_pos h0] at h
  by_cases h1 : i < n
  ·rw [if_pos h1] at h
   have e : i.toNat = j:=Option.some.inj h
   exact ⟨by rw [seqIndex_of h0 h1,e],by omega,by omega,h1⟩
  ·rw [if_neg h1] at h; cases h
 ·rw [if_neg h0] at h
  by_cases h1 : -(n : Int)<=i
  ·rw [if_pos h1] at h
   have e : (i + n).toNat = j:=Option.some.inj h
   exact ⟨by rw [seqIndex_neg (by omega) h1,e],by omega,h1,by omega⟩
  ·rw [if_neg h1] at h; cases h
theorem Ru {α : Type} {xs : List α} {i : Int} {v : α} (h : atI xs i = some v) : ∃ j,seqIndex? i xs.length = some j/\xs[j]? = some v/\j < xs.length/\-(xs.length : Int)<=i/\i < xs.length:=by
 unfold atI at h
 cases e : ixN xs.length i with
 | none => rw [e] at h; cases h
 | some j =>
  rw [e] at h
  obtain ⟨h1,h2,h3,h4⟩:=Wb e
  exact ⟨j,h1,h,h2,h3,h4⟩
def MJ (b : Expr) : Prop:=∀ o i,subscripted b false o i = operate [o,i] (getItem o i)
def IxR (X : Cx) (r : R2) : Prop:=
 ∀ (value slice : Expr) (pins : List (Addr × Obj)) (s : Shared) (σ : St) (H : Hp) (x y : V) (v u : Value) (Q : VK),Inv X pins σ H s->RelV x v->RelV y u->r x y H Q ->
  subscripted slice false v u = operate [v,u] (getItem v u)->wpAny (model X.prog X.w) X.A (subscriptTail value slice v u) (EP X pins σ Q) X.xe s
def MtR (X : Cx) (id : String) (r : V->List V->Hp->VK->Prop) : Prop:=
 ∀ (pins : List (Addr × Obj)) (s : Shared) (σ : St) (H : Hp) (x : V) (xs : List V) (v : Value) (us : List Value) (Q : VK),Inv X pins σ H s->RelV x v->Vals xs us->r x xs H Q ->
  wpAny (model X.prog X.w) X.A (call (.builtin id) (v :: us)) (EP X pins σ Q) X.xe s
section
variable {X : Cx} {a b : Expr} {ta tb : TE} {pos : Pos}
theorem IxR.or {r r' : R2} (h : IxR X r) (h' : IxR X r') : IxR X (fun x y H Q => r x y H Q ∨ r' x y H Q):=by
 intro value slice pins s σ H x y v u Q I rx ry q hs
 rcases q with q | q
 ·exact h value slice pins s σ H x y v u Q I rx ry q hs
 ·exact h' value slice pins s σ H x y v u Q I rx ry q hs
theorem MtR.or {id : String} {r r' : V->List V->Hp->VK->Prop} (h : MtR X id r) (h' : MtR X id r') : MtR X id (fun x xs H Q => r x xs H Q ∨ r' x xs H Q):=by
 intro pins s σ H x xs v us Q I rx rs q
 rcases q with q | q
 ·exact h pins s σ H x xs v us Q I rx rs q
 ·exact h' pins s σ H x xs v us Q I rx rs q
theorem jd {r : R2} (hr : IxR X r) (ha : PE X a ta) (hb : PE X b tb) (hs : MJ b) : PE X (.Subscript a b pos) (tOp r ta tb):=by
 intro pins s σ H Q I h
 exact Subscript_ (binT ha hb I h fun v u s2 x y H2 I2 rx ry q => hr a b pins s2 σ H2 x y v u Q I2 rx ry q (hs _ _))
def rIxL (K : PySem.W.Frag) : R2:=fun x y H Q => ∃ p xs i v,x = .ref p/\y = .int i/\SqL K H p xs/\atI xs i = some v/\Q v H
def rIxT (K : PySem.W.Frag) : R2:=fun x y H Q => ∃ p xs i v,x = .ref p/\y = .int i/\SqT K H p xs/\atI xs i = some v/\Q v H
def rIxS : R2:=fun x y H Q => ∃ z i c,x = .str z/\y = .int i/\z.length<=sizeLine/\atI z.cps.toList i = some c/\Q (.str ⟨#[c]⟩) H
theorem gD : IxR X (rIxL X.K):=by
 intro value slice pins s σ H x y v u Q I rx ry h hs
 obtain ⟨p,xs,i,z,rfl,rfl,hq,he,q⟩:=h
 cases rx
 obtain ⟨t,rfl⟩:=ry
 obtain ⟨its,r,pl,hz⟩:=I.list hq
 obtain ⟨j,h1,h2,h3,h4,h5⟩:=Ru he
 obtain ⟨w,ew,rw'⟩:=r.get h2
 have hl:=r.length
 have hn:=Ng
 have fin : EP X pins σ Q w s:=⟨z,H,I,rw',q⟩
 by_cases h0 : 0<=i
 ·have hj : i.toNat = j:=by
   rw [seqIndex_of h0 h5] at h1
   exact Option.some.inj h1
  exact item_listR pl.isList h0 (by omega) (by rw [hj]; simpa using ew) fin hs
 ·have hj : (i + (its.toArray.size : Int)).toNat = j:=by
   rw [seqIndex_neg (by omega) h4] at h1
   rw [List.size_toArray,<-hl]
   exact Option.some.inj h1
  exact subscriptTail_builtinR (x:=w) pl.isList.typeIs slot_list_getitem.lookup
   (wpAny_getItem_list_neg (Q:=fun r s' => r = w/\EP X pins σ Q r s') pl.isList (by omega) (by rw [List.size_toArray] <;> omega) (by omega) (by rw [hj]; simpa using ew) ⟨rfl,fin⟩) hs
theorem mW : IxR X (rIxT X.K):=by
 intro value slice pins s σ H x y v u Q I rx ry h hs
 obtain ⟨p,xs,i,z,rfl,rfl,hq,he,q⟩:=h
 cases rx
 obtain ⟨t,rfl⟩:=ry
 obtain ⟨its,r,pl,hz⟩:=I.tuple hq
 obtain ⟨j,h1,h2,h3,h4,h5⟩:=Ru he
 obtain ⟨w,ew,rw'⟩:=r.get h2
 have hl:=r.length
 have hn:=Ng
 have fin : EP X pins σ Q w s:=⟨z,H,I,rw',q⟩
 exact subscriptTail_builtinR (x:=w) pl.typeIs slot_tuple_getitem.lookup
  (getItem_tuple (j:=j) (Q:=fun r s' => r = w/\EP X pins σ Q r s') pl (by omega) (by omega) (by rw [List.size_toArray,<-hl]; exact h1) (by simpa using ew) ⟨rfl,fin⟩) hs
theorem mX : IxR X rIxS:=by
 intro value slice pins s σ H x y v u Q I rx ry h hs
 obtain ⟨z,i,c,rfl,rfl,hz,he,q⟩:=h
 obtain ⟨t,rfl⟩:=rx
 obtain ⟨t',rfl⟩:=ry
 obtain ⟨j,h1,h2,h3,h4,h5⟩:=Ru he
 have hl : z.cps.toList.length = z.length:=by simp [Str.length]
 rw [hl] at h1 h4 h5
 have hn:=Ng
 exact tail_any (typeIs_str s z t) slot_str_getitem.lookup (getItem_str (c:=c) (by
  have e1 : decide (i < -(2 ^ 63 : Int)) = false:=decide_eq_false (by omega)
  have e2 : decide (i ≥ 2 ^ 63) = false:=decide_eq_false (by omega)
  rw [e1,e2,Bool.or_false]) (by rw [h1]; simpa using h2) ⟨.str ⟨#[c]⟩,H,I.tok _,⟨_,rfl⟩,q⟩) hs
def rIx (K : PySem.W.Frag) : R2:=fun x y H Q => rIxL K x y H Q ∨ rIxT K x y H Q ∨ rIxS x y H Q
theorem Zv : IxR X (rIx X.K):=gD.or (mW.or mX)
theorem Vb (its : List Value) (n j : Nat) (u : Value) : Obj.mapSeq (·.setIfInBounds j u) { cls:=.type "list",data:=.seq its.toArray n } = { cls:=.type "list",data:=.seq (its.set j u).toArray n }:=by
 simp [Obj.mapSeq]
theorem Inv.lst {pins : List (Addr × Obj)} {σ : St} {H : Hp} {s : Shared} {p : Addr} {xs : List V} (I : Inv X pins σ H s) (h : H p = some (.lst xs)) :
  ∃ (its : List Value) (n : Nat),Vals xs its/\s.heap.get? p = some { cls:=.type "list",data:=.seq its.toArray n }/\xs.length<=sizeLine:=by
 obtain ⟨z,its,n,r,e⟩:=I.hok p _ h
 exact ⟨its,n,r,e,z⟩
theorem Inv.lstUpd {pins : List (Addr × Obj)} {σ : St} {H : Hp} {s : Shared} {p : Addr} {xs ys : List V} {its its' : List Value} {n n' : Nat} {f : Obj->Obj} (I : Inv X pins σ H s) (h : H p = some (.lst xs))
  (ho : s.heap.get? p = some { cls:=.type "list",data:=.seq its.toArray n }) (hf : f { cls:=.type "list",data:=.seq its.toArray n } = { cls:=.type "list",data:=.seq its'.toArray n' }) (r : Vals ys its') (hz : ys.length<=sizeLine) (t : Nat) :
  Inv X pins σ (upd H p (.lst ys)) { s with heap:=s.heap.update p f,toks:=t }:=by
 have e : (s.heap.update p f).get? p = some { cls:=.type "list",data:=.seq its'.toArray n' }:=by
  rw [Heap.get?_update_self f ho (by rw [hf] <;> rfl),hf]
 refine I.write (x:=p) (e:=p) (by rw [h]; trivial) (.inl rfl) (fun b u hb q => (Heap.get?_update_other _ _ (Ne.symm hb)).trans q) ⟨_,e⟩ ?_
 exact ⟨hz,its',n',r,e⟩
def pX : V->V->V->Hp->(Hp->Prop)->Prop:=fun o i v H Q => ∃ p xs k j,o = .ref p/\i = .int k/\H p = some (.lst xs)/\ixN xs.length k = some j/\Q (upd H p (.lst (xs.set j v)))
theorem set_list : PSet X pX:=by
 intro pins s σ H o i v ov iv u Q I ro ri rv h
 obtain ⟨p,xs,k,j,rfl,rfl,hp,hj,q⟩:=h
 cases ro
 obtain ⟨t,rfl⟩:=ri
 obtain ⟨its,n,r,ho,hz⟩:=I.lst hp
 obtain ⟨h1,h2,h3,h4⟩:=Wb hj
 have hl:=r.length
 have hn:=Ng
 have I' : Inv X pins σ (upd H p (.lst (xs.set j v))) { s with heap:=s.heap.update p (Obj.mapSeq (·.setIfInBounds j u)) }:=
  I.lstUpd hp ho (Vb its n j u) (r.set rv j) (by rw [List.length_set]; exact hz) s.toks
 by_cases h0 : 0<=k
 ·have hk : k.toNat = j:=by
   rw [seqIndex_of h0 h4] at h1
   exact Option.some.inj h1
  exact PySem.W.ki_setAt ho h0 (by omega) (by rw [List.size_toArray,<-hl]; exact h4) (by rw [hk]; exact ⟨_,I',q⟩)
 ·have hk : (k + (its.toArray.size : Int)).toNat = j:=by
   rw [seqIndex_neg (by omega) h3] at h1
   rw [List.size_toArray,<-hl]
   exact Option.some.inj h1
  exact PySem.W.ki_setBack ho (by omega) (by rw [List.size_toArray,<-hl]; exact h3) (by omega) (by rw [hk]; exact ⟨_,I',q⟩)
theorem Rv (lo hi : Option Int) (n : Nat) : (sliceBounds lo hi none n).1 = ((HT.sIx n 0 lo : Nat) : Int)/\(sliceBounds lo hi none n).2.1 = ((HT.sIx n n hi : Nat) : Int)/\(sliceBounds lo hi none n).2.2 = 1:=by
 refine ⟨?_,?_,rfl⟩
 ·cases lo with
  | none => simp [sliceBounds,HT.sIx]
  | some i =>
   simp only [sliceBounds,HT.sIx,Option.getD_none,show (1 : Int) > 0 by decide,if_true]
   by_cases h : i < 0
   ·simp only [h,if_true] <;> omega
   ·simp only [h,if_false] <;> omega
 ·cases hi with
  | none => simp [sliceBounds,HT.sIx]
  | some i =>
   simp only [sliceBounds,HT.sIx,Option.getD_none,show (1 : Int) > 0 by decide,if_true]
   by_cases h : i < 0
   ·simp only [h,if_true] <;> omega
   ·simp only [h,if_false] <;> omega
theorem Qn (its : List Value) (lo hi : Option Int) : slicePick its.toArray lo hi none = ((its.drop (HT.sIx its.length 0 lo)).take (HT.sIx its.length its.length hi - HT.sIx its.length 0 lo)).toArray:=by
 obtain ⟨h1,h2,h3⟩:=Rv lo hi its.toArray.size
 unfold slicePick
 rw [h1,h2,h3]
 simp only [sliceRange_one,pick_run,List.size_toArray] <;> rfl
def rSlL (K : PySem.W.Frag) : V->Option Int->Option Int->Hp->VK->Prop:=fun x lo hi H Q => ∃ a xs,x = .ref a/\SqL K H a xs/\∀ p,H p = none->Q (.ref p) (upd H p (.lst (cutV xs lo hi)))
theorem gF : SlR X (rSlL X.K):=by
 intro pins s σ H x v vl vu lo hi sl Q I rx hs pl pu h
 obtain ⟨a,xs,rfl,hx,q⟩:=h
 cases rx
 obtain ⟨its,r,ht,hz⟩:=I.list hx
 have hlen:=r.length
 refine ⟨"list",_,slot_list_getitem.lookup,ht.isList.typeIs,?_⟩
 refine wpAny_getItem_list_slice ht.isList hs pl pu .none (by simp) ?_ (by rw [List.size_toArray] <;> omega)
 rw [Qn,<-hlen]
 refine ⟨.ref s.heap.objs.size,_,I.laid (t':=s.toks) (o:=.lst (cutV xs lo hi)) (fun b ob q => Heap.get?_push_of_some _ q) (Nat.le_refl _) ?_,rfl,q _ (I.hok.fresh (Nat.le_refl _))⟩
 exact ⟨Nat.le_trans (Oi xs lo hi) hz,_,0,(r.drop (HT.sIx xs.length 0 lo)).take (HT.sIx xs.length xs.length hi - HT.sIx xs.length 0 lo),Heap.get?_push_size _ rfl⟩
def Jw : V->Bool
 | .non => true
 | .bl _ => true
 | .int _ => true
 | .str _ => true
 | _ => false
def eqV : V->V->Bool
 | .non,.non => true
 | .bl a,.bl b => a == b
 | .bl a,.int b => (if a then 1 else 0) == b
 | .int a,.bl b => a == (if b then 1 else 0)
 | .int a,.int b => a == b
 | .str a,.str b => a == b
 | _,_ => false
theorem Zw {A : Around} {s : Shared} {y x : V} {u v : Value} (ry : RelV y u) (rx : RelV x v) (fy : Jw y = true) (fx : Jw x = true) : SeqAt.EqAt A s u v (eqV y x):=by
 cases y with
 | non =>
  cases ry
  cases x with
  | non => cases rx; exact SeqAt.EqAt.same _
  | bl b => cases rx; exact SeqAt.EqAt.none_bool b
  | int b => obtain ⟨t,rfl⟩:=rx; exact SeqAt.EqAt.none_int b t
  | str b => obtain ⟨t,rfl⟩:=rx; exact SeqAt.EqAt.none_str b t
  | _ => exact absurd (show false = true from fx) Bool.false_ne_true
 | bl a =>
  cases ry
  cases x with
  | non => cases rx; exact SeqAt.EqAt.bool_none a
  | bl b => cases rx; exact SeqAt.EqAt.bool_bool a b
  | int b => obtain ⟨t,rfl⟩:=rx; exact SeqAt.EqAt.bool_int a b t
  | str b => obtain ⟨t,rfl⟩:=rx; exact SeqAt.EqAt.bool_str a b t
  | _ => exact absurd (show false = true from fx) Bool.false_ne_true
 | int a =>
  obtain ⟨t',rfl⟩:=ry
  cases x with
  | non => cases rx; exact SeqAt.EqAt.int_none a t'
  | bl b => cases rx; exact SeqAt.EqAt.int_bool a t' b
  | int b => obtain ⟨t,rfl⟩:=rx; exact SeqAt.EqAt.int_int a t' b t
  | str b => obtain ⟨t,rfl⟩:=rx; exact SeqAt.EqAt.int_str a t' b t
  | _ => exact absurd (show false = true from fx) Bool.false_ne_true
 | str a =>
  obtain ⟨t',rfl⟩:=ry
  cases x with
  | non => cases rx; exact SeqAt.EqAt.str_none a t'
  | bl b => cases rx; exact SeqAt.EqAt.str_bool a t' b
  | int b => obtain ⟨t,rfl⟩:=rx; exact SeqAt.EqAt.str_int a t' b t
  | str b => obtain ⟨t,rfl⟩:=rx; exact SeqAt.EqAt.str_str a t' b t
  | _ => exact absurd (show false = true from fx) Bool.false_ne_true
 | _ => exact absurd (show false = true from fy) Bool.false_ne_true
def eqU (x : V) (u : Value) : Bool:=match u with
 | .none => eqV .non x
 | .bool b => eqV (.bl b) x
 | .int i _ => eqV (.int i) x
 | .str z _ => eqV (.str z) x
 | _ => false
theorem Zx {x y : V} {u : Value} (r : RelV y u) (f : Jw y = true) : eqU x u = eqV y x:=by
 cases y with
 | non => cases r; rfl
 | bl b => cases r; rfl
 | int i => obtain ⟨t,rfl⟩:=r; rfl
 | str z => obtain ⟨t,rfl⟩:=r; rfl
 | _ => exact absurd (show false = true from f) Bool.false_ne_true
theorem MK {x : V} : ∀ {xs : List V} {us : List Value},Vals xs us->xs.all Jw = true->us.any (eqU x) = xs.any fun y => eqV y x
 | _,_,.nil,_ => rfl
 | y :: xs,u :: us,.cons r t,f => by
  rw [List.all_cons,Bool.and_eq_true] at f
  rw [List.any_cons,List.any_cons,Zx r f.1,MK t f.2]
theorem Jz {A : Around} {s : Shared} {x : V} {v : Value} (rx : RelV x v) (fx : Jw x = true) : ∀ {xs : List V} {us : List Value},Vals xs us->xs.all Jw = true->∀ u ∈ us,SeqAt.EqAt A s u v (eqU x u)
 | _,_,.nil,_ => fun u hu => by cases hu
 | y :: xs,u :: us,.cons r t,f => fun u' hu => by
  rw [List.all_cons,Bool.and_eq_true] at f
  rcases List.mem_cons.mp hu with rfl | hu
  ·rw [Zx r f.1]; exact Zw r rx f.1 fx
  ·exact Jz rx fx t f.2 u' hu
def inV (x : V) (xs : List V) : Bool:=xs.any fun y => eqV y x
def rIn (K : PySem.W.Frag) (neg : Bool) : R2:=fun x y H Q => ∃ p xs,y = .ref p/\(SqL K H p xs ∨ SqT K H p xs)/\Jw x = true/\xs.all Jw = true/\Q (.bl (if neg then !inV x xs else inV x xs)) H
theorem Ym : OpR X (compareOp .In) (rIn X.K false):=by
 intro pins s σ H x y v u Q I rx ry h
 obtain ⟨p,xs,rfl,hq,fx,fs,q⟩:=h
 cases ry
 rcases hq with hq | hq
 ·obtain ⟨its,r,pl,hz⟩:=I.list hq
  refine SeqAt.in_listAt (eqU x) pl.isList (fun w hw => Jz rx fx r fs w (by simpa using hw)) ⟨.bl _,H,I,rfl,?_⟩
  rw [show its.toArray.any (eqU x) = its.any (eqU x) by simp,MK r fs]
  exact q
 ·obtain ⟨its,r,pl,hz⟩:=I.tuple hq
  refine SeqAt.in_tupleAt (eqU x) pl (fun w hw => Jz rx fx r fs w (by simpa using hw)) ⟨.bl _,H,I,rfl,?_⟩
  rw [show its.toArray.any (eqU x) = its.any (eqU x) by simp,MK r fs]
  exact q
theorem Rw : OpR X (compareOp .NotIn) (rIn X.K true):=by
 intro pins s σ H x y v u Q I rx ry h
 obtain ⟨p,xs,rfl,hq,fx,fs,q⟩:=h
 cases ry
 rcases hq with hq | hq
 ·obtain ⟨its,r,pl,hz⟩:=I.list hq
  refine SeqAt.notIn_listAt (eqU x) pl.isList (fun w hw => Jz rx fx r fs w (by simpa using hw)) ⟨.bl _,H,I,rfl,?_⟩
  rw [show its.toArray.any (eqU x) = its.any (eqU x) by simp,MK r fs]
  exact q
 ·obtain ⟨its,r,pl,hz⟩:=I.tuple hq
  refine SeqAt.notIn_tupleAt (eqU x) pl (fun w hw => Jz rx fx r fs w (by simpa using hw)) ⟨.bl _,H,I,rfl,?_⟩
  rw [show its.toArray.any (eqU x) = its.any (eqU x) by simp,MK r fs]
  exact q
theorem Dh.or {f : Value} {r r' : List V->Hp->VK->Prop} (h : Dh X f r) (h' : Dh X f r') : Dh X f (fun xs H Q => r xs H Q ∨ r' xs H Q):=by
 intro pins s σ H xs us Q I rs q
 rcases q with q | q
 ·exact h pins s σ H xs us Q I rs q
 ·exact h' pins s σ H xs us Q I rs q
theorem FQ : Dh X (.type "list") (fun xs H Q => ∃ p ys,xs = [.ref p]/\(SqL X.K H p ys ∨ SqT X.K H p ys)/\∀ l,H l = none->Q (.ref l) (upd H l (.lst ys))):=by
  intro pins s σ H xs us Q I r h
  obtain ⟨p,ys,rfl,hq,q⟩:=h
  obtain ⟨u,rfl,rx⟩:=vals1 r
  cases rx
  have fin : ∀ (its : List Value),Vals ys its->ys.length<=sizeLine->∀ (h' : Heap) (c' : Nat),(∀ b o',s.heap.get? b = some o'->h'.get? b = some o') ->
      h'.get? s.heap.objs.size = some { cls:=.type "list",dict:=none,data:=.seq its.toArray c',slots:=#[] }->EP X pins σ Q (.ref s.heap.objs.size) { s with heap:=h' }:=fun its r' hz h' c' kp e =>
    ⟨.ref s.heap.objs.size,_,I.laid (t':=s.toks) kp (Nat.le_refl _) (show Bj X.prog X.w _ h' _ (.lst ys) from ⟨hz,its,c',r',e⟩),rfl,q _ (I.hok.fresh (Nat.le_refl _))⟩
  rcases hq with hq | hq
  · obtain ⟨its,r',pl,hz⟩:=I.list hq
    have hlen:=r'.length
    obtain ⟨o,ho,hc,n,hd⟩:=pl.isList
    exact call_list_seq p (.inl rfl) ho hc hd (fun h' c' kp e => fin its r' hz h' c' kp e) (by simp only [List.size_toArray] <;> omega)
  · obtain ⟨its,r',pl,hz⟩:=I.tuple hq
    have hlen:=r'.length
    obtain ⟨o,ho,hc,n,hd⟩:=pl
    exact call_list_seq p (.inr rfl) ho hc hd (fun h' c' kp e => fin its r' hz h' c' kp e) (by simp only [List.size_toArray] <;> omega)
def tyV (K : PySem.W.Frag) (T : String) (x : V) (H : Hp) : Prop:=match x with
  | .str _ => T = "str"
  | .int _ => T = "int"
  | .ref p => (T = "list"/\∃ xs,SqL K H p xs) ∨ (T = "tuple"/\∃ o,K.lookup p = some o/\o.cls = .type "tuple"/\o.dict = none) ∨
      (T = "dict"/\((∃ kvs,H p = some (.dK kvs)) ∨ ∃ kvs,H p = some (.dT kvs))) ∨ (T = "set"/\∃ S n,H p = some (.set S n))
  | _ => False
theorem Zy {pins : List (Addr × Obj)} {σ : St} {H : Hp} {s : Shared} {T : String} {x : V} {v : Value} (I : Inv X pins σ H s) (r : RelV x v) (ty : tyV X.K T x H) :
  s.TypeIs v T/\∀ a,v = .ref a->∃ ob,s.heap.get? a = some ob/\ob.dict = none:=by
 cases x with
 | str z =>
  obtain ⟨t,rfl⟩:=r
  cases (show T = "str" from ty)
  exact ⟨typeIs_str s z t,fun _ e => nomatch e⟩
 | int i =>
  obtain ⟨t,rfl⟩:=r
  cases (show T = "int" from ty)
  exact ⟨typeIs_int s i t,fun _ e => nomatch e⟩
 | ref p =>
  cases r
  rcases ty with ⟨rfl,xs,hq⟩ | ⟨rfl,o,hk,hc,hd⟩ | ⟨rfl,hk⟩ | ⟨rfl,S,n,hk⟩
  ·obtain ⟨its,_,pl,_⟩:=I.list hq
   refine ⟨pl.isList.typeIs,fun a e => ?_⟩
   cases e
   obtain ⟨o,n,e,c,hd,_⟩:=pl
   exact ⟨o,e,hd⟩
  ·refine ⟨⟨o,I.kIn p o hk,hc⟩,fun a e => ?_⟩
   cases e
   exact ⟨o,I.kIn _ o hk,hd⟩
  ·have z : ∃ o,s.heap.get? p = some o/\o.ExactDict:=by
    rcases hk with ⟨kvs,hk⟩ | ⟨kvs,hk⟩
    ·obtain ⟨_,_,_,_,o,_,_,e,ex,_⟩:=I.hok p _ hk
     exact ⟨o,e,ex⟩
    ·obtain ⟨_,_,_,_,o,_,_,e,ex,_⟩:=I.hok p _ hk
     exact ⟨o,e,ex⟩
   obtain ⟨o,e,ex⟩:=z
   refine ⟨⟨o,e,ex.1⟩,fun a e2 => ?_⟩
   cases e2
   exact ⟨o,e,ex.2.1⟩
  ·obtain ⟨o,_,_,_,e,ex,_⟩:=I.hok p _ hk
   refine ⟨⟨o,e,ex.1⟩,fun a e2 => ?_⟩
   cases e2
   exact ⟨o,e,ex.2.1⟩
 | _ => exact False.elim ty
def tBM0 (K : PySem.W.Frag) (T : String) (r : V->List V->Hp->VK->Prop) (to : TE) : TE:=fun σ H Q => to σ H fun x H1 => tyV K T x H1/\r x [] H1 Q
def tBM (K : PySem.W.Frag) (T : String) (r : V->List V->Hp->VK->Prop) (to : TE) (t : TA) : TE:=fun σ H Q => to σ H fun x H1 => tyV K T x H1/\t σ H1 fun xs H2 => r x xs H2 Q
variable {o e : Expr} {es : List Expr} {to : TE} {t : TA} {name : Str} {apos cpos : Pos} {T id : String} {r : V->List V->Hp->VK->Prop}
theorem Zz (pa : PlainAttrs T) (slot : Slot T name id) (hty : typeOf (.builtin id) = pure (.type "method_descriptor")) (hm : MtR X id r) (ho : PE X o to)
  (hbase : attributeBase o name X.env (eval o X.env) = eval o X.env:=by rfl) (hline : (apos.endLine == cpos.line) = true:=by rfl) : PE X (.Call (.Attribute o name apos) [] [] cpos) (tBM0 X.K T r to):=by
 intro pins s σ H Q I h
 refine wpAny_Call_method0_late hbase hline (thn (ho pins s σ H _ I h) fun v s1 ⟨x,H1,I1,r1,ty,q1⟩ => ?_)
 obtain ⟨h1,h2⟩:=Zy I1 r1 ty
 exact ⟨T,id,pa,slot,hty,h1,h2,Calls.callWith_builtin rfl (PySem.evalArgs_none (hm pins s1 σ H1 x [] v [] Q I1 r1 .nil q1))⟩
theorem Wc (pa : PlainAttrs T) (slot : Slot T name id) (hty : typeOf (.builtin id) = pure (.type "method_descriptor")) (hm : MtR X id r) (ho : PE X o to) (ha : PA X (e :: es) t)
  (hbase : attributeBase o name X.env (eval o X.env) = eval o X.env:=by rfl)
  (hfew : ((backTo cpos (starEach (e :: es) X.env)).all (fun x => !x.1) && (backToKw cpos (keywordEach [] X.env)).all (fun x => x.1.isSome)
   && decide ((e :: es).length + ([] : List Keyword).length + (if ([] : List Keyword).isEmpty then 0 else 1) < 30)) = true:=by rfl)
  (hline : (apos.endLine == cpos.line) = true:=by rfl) (hs : starEach (e :: es) X.env = (false,eval e X.env) :: starEach es X.env:=by rfl) (hplain : (backTo cpos (starEach es X.env)).any (·.1) = false:=by rfl) :
  PE X (.Call (.Attribute o name apos) (e :: es) [] cpos) (tBM X.K T r to t):=by
 intro pins s σ H Q I h
 refine wpAny_Call_method_late hbase hfew hline rfl (thn (ho pins s σ H _ I h) fun v s1 ⟨x,H1,I1,r1,ty,q1⟩ => ?_)
 obtain ⟨h1,h2⟩:=Zy I1 r1 ty
 refine ⟨T,id,pa,slot,hty,h1,h2,?_⟩
 have hA:=ha cpos pins s1 σ H1 _ I1 q1
 rw [hs] at hA ⊢
 refine Calls.callWith_builtin (by show (false || (backTo cpos (starEach es X.env)).any (·.1)) = false; rw [hplain] <;> rfl) (Calls.evalArgs_plain ?_)
 exact thn hA fun us s2 ⟨vs,H2,I2,r2,q2⟩ => hm pins s2 σ H2 x vs v us Q I2 r1 r2 q2
end
end L2
namespace L2
open PySem PySem.Spec PyProof.Rows
def MtM (X : Cx) (id : String) (r : V->List V->Hp->VK->Prop) : Prop:=
 ∀ (pins : List (Addr × Obj)) (s : Shared) (σ : St) (H : Hp) (x : V) (xs : List V) (v : Value) (us : List Value) (Q : VK),Inv X pins σ H s->RelV x v->Vals xs us->r x xs H Q ->
  wpAny (model X.prog X.w) X.A (call (.builtin id) (v :: us)) (EP X pins σ Q) X.xe s
theorem Vals.one : ∀ {x : V} {us : List Value},Vals [x] us->∃ u,us = [u]/\RelV x u
 | _,_,.cons r .nil => ⟨_,rfl,r⟩
theorem Vals.zero : ∀ {us : List Value},Vals [] us->us = []
 | _,.nil => rfl
theorem Vals.dropLast {xs : List V} {us : List Value} (h : Vals xs us) : Vals xs.dropLast us.dropLast:=by
 induction h with
 | nil => exact .nil
 | cons r t ih =>
  cases t with
  | nil => exact .nil
  | cons q t' => exact .cons r ih
theorem Vals.eraseIdx : ∀ {xs : List V} {us : List Value} (i : Nat),Vals xs us->Vals (xs.eraseIdx i) (us.eraseIdx i)
 | _,_,_,.nil => .nil
 | _,_,0,.cons _ t => t
 | _,_,i + 1,.cons r t => .cons r (Vals.eraseIdx i t)
theorem Vals.reverse {xs : List V} {us : List Value} (h : Vals xs us) : Vals xs.reverse us.reverse:=by
 induction h with
 | nil => exact .nil
 | cons r t ih => rw [List.reverse_cons,List.reverse_cons]; exact Vals.append ih (.cons r .nil)
theorem Vals.rep {xs : List V} {us : List Value} (h : Vals xs us) : ∀ k : Nat,Vals (List.replicate k xs).flatten (List.replicate k us).flatten
 | 0 => .nil
 | k + 1 => by
  rw [List.replicate_succ,List.replicate_succ,List.flatten_cons,List.flatten_cons]
  exact Vals.append h (Vals.rep h k)
theorem Vc {α : Type} (l : List α) : l.eraseIdx (l.length - 1) = l.dropLast:=by
 induction l with
 | nil => rfl
 | cons a r ih =>
  cases r with
  | nil => rfl
  | cons b r =>
   have e : (a :: b :: r).length - 1 = ((b :: r).length - 1) + 1:=by
    have h1 : (a :: b :: r).length = r.length + 2:=rfl
    have h2 : (b :: r).length = r.length + 1:=rfl
    omega
   rw [e,List.eraseIdx_cons_succ,ih]
   all_goals rfl
section
variable {X : Cx} {pins : List (Addr × Obj)} {σ : St} {H : Hp} {s : Shared} {l b : Addr} {xs ys zs : List V}
theorem Inv.lset {its its' : List Value} {n : Nat} {f : Array Value->Array Value} {t' : Nat} (I : Inv X pins σ H s) (hH : H l = some (.lst xs))
  (e : s.heap.get? l = some { cls:=.type "list",data:=.seq its.toArray n }) (hf : f its.toArray = its'.toArray) (hv : Vals ys its') (hz : ys.length<=sizeLine) :
  Inv X pins σ (upd H l (.lst ys)) { s with heap:=s.heap.update l (Obj.mapSeq f),toks:=t' }:=by
 have q:=PySem.IsL.update e f
 rw [hf] at q
 refine I.write (x:=l) (e:=l) (by rw [hH]; exact trivial) (.inl rfl) (fun b' u hb hu => (Heap.get?_update_other s.heap (Obj.mapSeq f) (Ne.symm hb)).trans hu) ⟨_,q⟩ ?_
 exact ⟨hz,its',_,hv,q⟩
theorem Inv.lnew {its : List Value} {t' : Nat} (I : Inv X pins σ H s) (hv : Vals ys its) (hz : ys.length<=sizeLine) :
  Inv X pins σ (upd H s.heap.objs.size (.lst ys)) { s with heap:=s.heap.push { cls:=.type "list",data:=.seq its.toArray },toks:=t' }:=
 I.laid (fun _ _ q => Heap.get?_push_of_some _ q) (Nat.le_refl _) ⟨hz,its,0,hv,Heap.get?_push_size _ rfl⟩
theorem Inv.fresh (I : Inv X pins σ H s) : H s.heap.objs.size = none:=I.hok.fresh (Nat.le_refl _)
theorem Inv.lstM (I : Inv X pins σ H s) (hH : H l = some (.lst xs)) : xs.length<=sizeLine/\∃ (its : List Value) (n : Nat),Vals xs its/\xs.length = its.length/\s.heap.get? l = some { cls:=.type "list",data:=.seq its.toArray n }:=by
 obtain ⟨z,its,n,r,e⟩:=I.hok l _ hH
 exact ⟨z,its,n,r,r.length,e⟩
theorem Z0 {n : Nat} (h : n<=sizeLine) : Builtin.List.listTooLong n = false:=by
 unfold Builtin.List.listTooLong
 exact decide_eq_false (by omega)
end
section
variable {X : Cx}
def gG : V->List V->Hp->VK->Prop:=fun x vs H Q => ∃ l xs y,x = .ref l/\vs = [y]/\H l = some (.lst xs)/\xs.length < sizeLine/\Q .non (upd H l (.lst (xs ++ [y])))
theorem Q7 : MtM X "list.append" gG:=by
 intro pins s σ H x vs v us Q I rx rv h
 obtain ⟨l,xs,y,rfl,rfl,hH,hz,q⟩:=h
 cases rx
 obtain ⟨u,rfl,ru⟩:=rv.one
 obtain ⟨z,its,n,r,hl,e⟩:=I.lstM hH
 refine call_meets F.slot_list_append ⟨_,e,rfl⟩ F.entry_list_append (F.args_list_append_2 _ _) (PySem.list_append l its.toArray n u (by rw [List.size_toArray]; omega)) ⟨e,?_⟩
 refine ⟨.non,_,I.lset (its':=its ++ [u]) hH e (by simp) (r.append (.cons ru .nil)) ?_,rfl,q⟩
 rw [List.length_append,List.length_singleton]
 omega
def rPop : V->List V->Hp->VK->Prop:=fun x vs H Q => ∃ l xs y,x = .ref l/\vs = []/\H l = some (.lst xs)/\xs[xs.length - 1]? = some y/\Q y (upd H l (.lst xs.dropLast))
theorem Z1 : MtM X "list.pop" rPop:=by
 intro pins s σ H x vs v us Q I rx rv h
 obtain ⟨l,xs,y,rfl,rfl,hH,hy,q⟩:=h
 cases rx
 have hus:=rv.zero
 subst hus
 obtain ⟨z,its,n,r,hl,e⟩:=I.lstM hH
 obtain ⟨u,hu,ru⟩:=r.get hy
 have hy' : its.toArray[its.toArray.size - 1]? = some u:=by
  show its.toArray[its.length - 1]? = some u
  rw [<-Array.getElem?_toList,<-hl]
  exact hu
 refine call_meets F.slot_list_pop ⟨_,e,rfl⟩ F.entry_list_pop (F.args_list_pop_1 _) (MeetsSeq.list_pop_last l its.toArray n u hy' (by rw [List.size_toArray]; omega)) ⟨e,?_⟩
 refine ⟨y,_,I.lset (its':=its.dropLast) hH e ?_ r.dropLast ?_,ru,q⟩
 ·show its.toArray.eraseIdxIfInBounds (its.toArray.size - 1) = its.dropLast.toArray
  rw [List.size_toArray,List.eraseIdxIfInBounds_toArray,Vc]
 ·rw [List.length_dropLast]
  omega
end
section
variable {prog : Program} {w : World} {A : Around} {E : Value->Shared->Prop} {s : Shared}
set_option maxRecDepth 100000 in
end
section
variable {X : Cx}
end
end L2
namespace L2
open PySem PySem.Spec PyProof.Rows
section
variable {κ : Type} [DecidableEq κ]
def valV (kvs : List (κ × V)) (k : κ) : Option V:=(kvs.find? fun kv => decide (kv.1 = k)).map (·.2)
def putK (kvs : List (κ × V)) (k : κ) (v : V) : List (κ × V):=
 if (kvs.any fun kv => decide (kv.1 = k)) = true then kvs.map (fun kv => if kv.1 = k then (kv.1,v) else kv) else kvs ++ [(k,v)]
def je (kvs : List (κ × V)) (k : κ) : List (κ × V):=kvs.filter fun kv => decide (kv.1 ≠ k)
theorem MN {p : κ × V} {r : List (κ × V)} {k : κ} (e : p.1 = k) : valV (p :: r) k = some p.2:=by simp [valV,List.find?_cons,e]
theorem MP {p : κ × V} {r : List (κ × V)} {k : κ} (e : ¬ p.1 = k) : valV (p :: r) k = valV r k:=by simp [valV,List.find?_cons,e]
theorem Pj (k : κ) : ∀ kvs : List (κ × V),(kvs.any fun kv => decide (kv.1 = k)) = (valV kvs k).isSome
 | [] => rfl
 | p :: r => by
  rw [List.any_cons]
  by_cases e : p.1 = k
  ·simp only [MN e,decide_eq_true e,Bool.true_or,Option.isSome_some]
  ·rw [MP e,decide_eq_false e,Bool.false_or]; exact Pj k r
theorem J0 (kvs : List (κ × V)) (k : κ) (v : V) : (putK kvs k v).length<=kvs.length + 1:=by
 unfold putK
 split
 ·rw [List.length_map]; omega
 ·rw [List.length_append,List.length_cons,List.length_nil]; omega
theorem RelO.isSome_eq {o : Option V} {u : Option Value} (r : RelO o u) : o.isSome = u.isSome:=by
 cases o with
 | none => cases u with
  | none => rfl
  | some _ => exact (show False from r).elim
 | some _ => cases u with
  | none => exact (show False from r).elim
  | some _ => rfl
theorem RelO.getD {o : Option V} {u : Option Value} {d : V} {d' : Value} (r : RelO o u) (rd : RelV d d') : RelV (o.getD d) (u.getD d'):=by
 cases o with
 | none => cases u with
  | none => exact rd
  | some _ => exact (show False from r).elim
 | some _ => cases u with
  | none => exact (show False from r).elim
  | some _ => exact r
theorem KV.val {kvs : List (κ × V)} {vs : List (κ × Value)} (r : KV kvs vs) (k : κ) : RelO (valV kvs k) (valueAt vs k):=by
 unfold KV at r
 induction r with
 | nil => exact True.intro
 | @cons p q ps qs h t ih =>
  obtain ⟨h1,h2⟩:=h
  by_cases e : p.1 = k
  ·have e' : q.1 = k:=h1.symm.trans e
   have b : valueAt (q :: qs) k = some q.2:=by simp [valueAt,List.find?_cons,e']
   rw [MN e,b]; exact h2
  ·have e' : ¬ q.1 = k:=fun z => e (h1.trans z)
   have b : valueAt (q :: qs) k = valueAt qs k:=by simp [valueAt,List.find?_cons,e']
   rw [MP e,b]; exact ih
theorem KV.any {kvs : List (κ × V)} {vs : List (κ × Value)} (r : KV kvs vs) (k : κ) : (kvs.any fun kv => decide (kv.1 = k)) = vs.any fun kv => decide (kv.1 = k):=by
 unfold KV at r
 induction r with
 | nil => rfl
 | cons h t ih => rw [List.any_cons,List.any_cons,ih,h.1]
theorem KV.repl {kvs : List (κ × V)} {vs : List (κ × Value)} (r : KV kvs vs) (k : κ) {y : V} {u : Value} (ry : RelV y u) :
  KV (kvs.map fun kv => if kv.1 = k then (kv.1,y) else kv) (vs.map fun kv => if kv.1 = k then (kv.1,u) else kv):=by
 unfold KV at r ⊢
 induction r with
 | nil => exact .nil
 | @cons p q ps qs h t ih =>
  rw [List.map_cons,List.map_cons]
  refine .cons ?_ ih
  obtain ⟨h1,h2⟩:=h
  by_cases e : p.1 = k
  ·rw [if_pos e,if_pos (h1.symm.trans e)]; exact ⟨h1,ry⟩
  ·rw [if_neg e,if_neg (fun z => e (h1.trans z))]; exact ⟨h1,h2⟩
theorem KV.put {kvs : List (κ × V)} {vs : List (κ × Value)} (r : KV kvs vs) (k : κ) {y : V} {u : Value} (ry : RelV y u) : KV (putK kvs k y) (stored vs k u):=by
 unfold putK stored
 rw [r.any k]
 by_cases e : (vs.any fun kv => decide (kv.1 = k)) = true
 ·rw [if_pos e,if_pos e]; exact r.repl k ry
 ·rw [if_neg e,if_neg e]; exact Paired.snoc r ⟨rfl,ry⟩
theorem KV.drop {kvs : List (κ × V)} {vs : List (κ × Value)} (r : KV kvs vs) (k : κ) : KV (je kvs k) (without vs k):=by
 unfold KV at r ⊢
 unfold je without
 induction r with
 | nil => exact .nil
 | @cons p q ps qs h t ih =>
  obtain ⟨h1,h2⟩:=h
  rw [List.filter_cons,List.filter_cons]
  by_cases e : p.1 = k
  ·have a : ¬ decide (p.1 ≠ k) = true:=by simp [e]
   have b : ¬ decide (q.1 ≠ k) = true:=by simp [h1.symm.trans e]
   rw [if_neg a,if_neg b]; exact ih
  ·have e' : ¬ q.1 = k:=fun z => e (h1.trans z)
   have a : decide (p.1 ≠ k) = true:=by simp [e]
   have b : decide (q.1 ≠ k) = true:=by simp [e']
   rw [if_pos a,if_pos b]; exact .cons ⟨h1,h2⟩ ih
theorem KV.length {kvs : List (κ × V)} {vs : List (κ × Value)} (r : KV kvs vs) : kvs.length = vs.length:=Paired.length r
end
theorem Q8 {P : Program} {w : World} {k : Key} {u : Value} (r : RelV (kV k) u) : (Ax P w).is k u = true:=by
 cases k with
 | inl i => obtain ⟨t,e⟩:=(show ∃ t,u = Value.int i t from r); subst e; exact Tf P w i t
 | inr x => obtain ⟨t,e⟩:=(show ∃ t,u = Value.str x t from r); subst e; exact Tg P w x t
theorem Q9 {P : Program} {w : World} : ∀ {ks : List Key} {us : List Value},Vals (ks.map kV) us->ItemsAre (Ax P w) ks us
 | [],_,r => by rw [List.map_nil] at r; cases r; exact .nil
 | k :: ks,_,r => by
  rw [List.map_cons] at r
  cases r with
  | cons h t => exact .cons (Q8 h) (Q9 t)
abbrev KT (H : Hp) : List (List Key × V)->List (List Key × Addr × Value)->Prop:=Paired fun p q => p.1 = q.1/\H q.2.1 = some (.tup (p.1.map kV))/\RelV p.2 q.2.2
theorem KT.val {H : Hp} {kvs : List (List Key × V)} {xs : List (List Key × Addr × Value)} (r : KT H kvs xs) (k : List Key) : RelO (valV kvs k) ((atKey xs k).map (·.2)):=by
 induction r with
 | nil => exact True.intro
 | @cons p q ps qs h t ih =>
  obtain ⟨h1,_,h2⟩:=h
  by_cases e : p.1 = k
  ·have e' : q.1 = k:=h1.symm.trans e
   have b : atKey (q :: qs) k = some q.2:=by simp [atKey,List.find?_cons,e']
   rw [MN e,b]; exact h2
  ·have e' : ¬ q.1 = k:=fun z => e (h1.trans z)
   have b : atKey (q :: qs) k = atKey qs k:=by simp [atKey,List.find?_cons,e']
   rw [MP e,b]; exact ih
theorem KT.repl {H : Hp} {kvs : List (List Key × V)} {xs : List (List Key × Addr × Value)} (r : KT H kvs xs) (k : List Key) {y : V} {u : Value} (ry : RelV y u) :
  KT H (kvs.map fun kv => if kv.1 = k then (kv.1,y) else kv) (xs.map (putAt k u)):=by
 induction r with
 | nil => exact .nil
 | @cons p q ps qs h t ih =>
  rw [List.map_cons,List.map_cons]
  refine .cons ?_ ih
  obtain ⟨h1,h2,h3⟩:=h
  unfold putAt
  by_cases e : p.1 = k
  ·rw [if_pos e,if_pos (h1.symm.trans e)]; exact ⟨h1,h2,ry⟩
  ·rw [if_neg e,if_neg (fun z => e (h1.trans z))]; exact ⟨h1,h2,h3⟩
theorem KT.put {H : Hp} {kvs : List (List Key × V)} {xs : List (List Key × Addr × Value)} (r : KT H kvs xs) (k : List Key) {b : Addr} {y : V} {u : Value} (hb : H b = some (.tup (k.map kV))) (ry : RelV y u) :
  KT H (putK kvs k y) (storedH xs k b u):=by
 have e : (kvs.any fun kv => decide (kv.1 = k)) = (atKey xs k).isSome:=by
  rw [Pj,(r.val k).isSome_eq,Option.isSome_map]
 unfold putK storedH
 rw [e]
 by_cases q : (atKey xs k).isSome = true
 ·rw [if_pos q,if_pos q]; exact r.repl k ry
 ·rw [if_neg q,if_neg q]; exact Paired.snoc r ⟨rfl,hb,ry⟩
theorem KT.keeps {H H' : Hp} {kvs : List (List Key × V)} {xs : List (List Key × Addr × Value)} (r : KT H kvs xs) (ht : ∀ b ys,H b = some (.tup ys)->H' b = some (.tup ys)) : KT H' kvs xs:=
 Paired.mapP r fun _ _ z => ⟨z.1,ht _ _ z.2.1,z.2.2⟩
section
variable {P : Program} {w : World} {H : Hp} {h : Heap} {a : Addr}
theorem Z2 {u : HO} (ok : HOk P w H h) (e : Rd H a u) : Bj P w H h a u:=e.ok ok
theorem I_ {kvs : List (Key × V)} (ok : HOk P w H h) (e : Rd H a (.dK kvs)) : kvs.length<=sizeLine/\(a == sysModules) = false/\∃ vs,KV kvs vs/\h.DictOf (Ax P w) a vs:=
 show Bj P w H h a (.dK kvs) from Z2 ok e
theorem Z3 {kvs : List (Key × V)} (ok : HOk P w H h) (e : H a = some (.dK kvs)) : kvs.length<=sizeLine/\(a == sysModules) = false/\∃ vs,KV kvs vs/\h.DictOf (Ax P w) a vs:=I_ ok (.inl e)
theorem Np {ks : List Key} (ok : HOk P w H h) (e : H a = some (.tup (ks.map kV))) : (tupleKind (Ax P w)).is h ks a:=by
 obtain ⟨_,its,r,o,h1,h2,n,h3⟩:=(show Bj P w H h a (.tup (ks.map kV)) from ok a _ e)
 exact ⟨o,its.toArray,n,h1,h2,h3,by simpa using Q9 r⟩
theorem Pk {kvs : List (List Key × V)} (ok : HOk P w H h) (e : Rd H a (.dT kvs)) : kvs.length<=sizeLine/\(a == sysModules) = false ∧
  ∃ xs,KT H kvs xs/\h.DictOfH (tupleKind (Ax P w)) a xs:=by
 obtain ⟨z,y,xs,r,o,es,ep,h1,h2,h3,h4,h5⟩:=(show Bj P w H h a (.dT kvs) from Z2 ok e)
 refine ⟨z,y,xs,r,o,es,ep,h1,h2,h3,h4,fun x hx => ?_,h5⟩
 have all : ∀ {l : List (List Key × V)} {m : List (List Key × Addr × Value)},KT H l m->∀ x ∈ m,(tupleKind (Ax P w)).is h x.1 x.2.1:=by
  intro l m q
  induction q with
  | nil => intro x hx; exact nomatch hx
  | @cons p q ps qs hq t ih =>
   intro x hx
   rcases List.mem_cons.mp hx with e | hx
   ·subst e
    exact Np ok (by rw [<-hq.1]; exact hq.2.1)
   ·exact ih x hx
 exact all r x hx
theorem pZ {kvs : List (List Key × V)} (ok : HOk P w H h) (e : H a = some (.dT kvs)) : kvs.length<=sizeLine/\(a == sysModules) = false ∧
  ∃ xs,KT H kvs xs/\h.DictOfH (tupleKind (Ax P w)) a xs:=Pk ok (.inl e)
end
def DGet (H : Hp) (a : Addr) (y : V) (r : Option V) : Prop:=
 (∃ kvs k,Rd H a (.dK kvs)/\y = kV k/\r = valV kvs k) ∨ ∃ kvs k b,Rd H a (.dT kvs)/\y = .ref b/\H b = some (.tup (k.map kV))/\r = valV kvs k
def DPut (H : Hp) (a : Addr) (y v : V) (H' : Hp) : Prop:=
 (∃ kvs k,H a = some (.dK kvs)/\y = kV k/\kvs.length < sizeLine/\H' = upd H a (.dK (putK kvs k v))) ∨
 ∃ kvs k b,H a = some (.dT kvs)/\y = .ref b/\H b = some (.tup (k.map kV))/\kvs.length < sizeLine/\H' = upd H a (.dT (putK kvs k v))
theorem DGet.k {H : Hp} {a : Addr} {kvs : List (Key × V)} {k : Key} (e : H a = some (.dK kvs)) : DGet H a (kV k) (valV kvs k):=.inl ⟨kvs,k,.inl e,rfl,rfl⟩
theorem DGet.t {H : Hp} {a b : Addr} {kvs : List (List Key × V)} {k : List Key} (e : H a = some (.dT kvs)) (eb : H b = some (.tup (k.map kV))) : DGet H a (.ref b) (valV kvs k):=.inr ⟨kvs,k,b,.inl e,rfl,eb,rfl⟩
theorem DPut.k {H : Hp} {a : Addr} {kvs : List (Key × V)} {k : Key} {v : V} (e : H a = some (.dK kvs)) (hl : kvs.length < sizeLine) : DPut H a (kV k) v (upd H a (.dK (putK kvs k v))):=.inl ⟨kvs,k,e,rfl,hl,rfl⟩
theorem DPut.t {H : Hp} {a b : Addr} {kvs : List (List Key × V)} {k : List Key} {v : V} (e : H a = some (.dT kvs)) (eb : H b = some (.tup (k.map kV))) (hl : kvs.length < sizeLine) :
  DPut H a (.ref b) v (upd H a (.dT (putK kvs k v))):=.inr ⟨kvs,k,b,e,rfl,eb,hl,rfl⟩
section
variable {X : Cx} {pins : List (Addr × Obj)} {σ : St} {H : Hp} {s : Shared} {a : Addr} {y v : V} {u r : Value} {o : Option V} {A : Around} {E : Value->Shared->Prop}
theorem Inv.big (I : Inv X pins σ H s) : sysModules < s.heap.objs.size:=by
 have h : mainGlobals < s.heap.objs.size:=(I.mod.glob.keeps I.bk).lt
 exact Nat.lt_trans (by decide) h
theorem Yn {Q : Value->Shared->Prop} (hu : A.units + 1 < cLine) (I : Inv X pins σ H s) (g : DGet H a y (some v)) (ry : RelV y u) (h : ∀ w' s',Inv X pins σ H s'->RelV v w'->Q w' s') :
  wpAny (model X.prog X.w) A (getItem (.ref a) u) Q E s:=by
 rcases g with ⟨kvs,k,e,ey,l⟩ | ⟨kvs,k,b,e,ey,eb,l⟩
 ·subst ey
  obtain ⟨z,hd,vs,rel,dd⟩:=I_ I.hok e
  obtain ⟨w',hw,rw'⟩:=RelO.some_of (v:=v) (o:=valueAt vs k) (by rw [l]; exact rel.val k)
  exact wpAny_getItem_of (Q8 ry) dd.mapOf hw (h w' _ (I.tok _) rw')
 ·subst ey
  cases (show u = Value.ref b from ry)
  obtain ⟨z,hd,xs,rel,dd⟩:=Pk I.hok e
  obtain ⟨w',hw,rw'⟩:=RelO.some_of (v:=v) (o:=(atKey xs k).map (·.2)) (by rw [l]; exact rel.val k)
  obtain ⟨p,hp,hp2⟩:=Option.map_eq_some_iff.mp hw
  refine wpAny_getItem_heap (tupleKind_room_in1 hu) (Np I.hok eb) dd hp ?_
  rw [hp2]
  exact h w' _ (I.tok _) rw'
theorem d_in {Q : Value->Shared->Prop} (hu : A.units + 1 < cLine) (I : Inv X pins σ H s) (g : DGet H a y o) (ry : RelV y u) (h : ∀ s',Inv X pins σ H s'->Q (.bool o.isSome) s') :
  wpAny (model X.prog X.w) A (compareOp .In u (.ref a)) Q E s:=by
 rcases g with ⟨kvs,k,e,ey,l⟩ | ⟨kvs,k,b,e,ey,eb,l⟩
 ·subst ey
  obtain ⟨z,hd,vs,rel,dd⟩:=I_ I.hok e
  refine wpAny_in_of (Q8 ry) hd dd.mapOf ?_
  rw [<-(rel.val k).isSome_eq,<-l]
  exact h _ (I.tok _)
 ·subst ey
  cases (show u = Value.ref b from ry)
  obtain ⟨z,hd,xs,rel,dd⟩:=Pk I.hok e
  refine wpAny_in_heap (tupleKind_room_in1 hu) (Np I.hok eb) hd dd ?_
  have q:=(rel.val k).isSome_eq
  rw [Option.isSome_map] at q
  rw [<-q,<-l]
  exact h _ (I.tok _)
theorem gH {Q : Value->Shared->Prop} (hu : A.units + 1 < cLine) (I : Inv X pins σ H s) (g : DGet H a y o) (ry : RelV y u) (h : ∀ s',Inv X pins σ H s'->Q (.bool (!o.isSome)) s') :
  wpAny (model X.prog X.w) A (compareOp .NotIn u (.ref a)) Q E s:=by
 rcases g with ⟨kvs,k,e,ey,l⟩ | ⟨kvs,k,b,e,ey,eb,l⟩
 ·subst ey
  obtain ⟨z,hd,vs,rel,dd⟩:=I_ I.hok e
  refine wpAny_notIn_of (Q8 ry) hd dd.mapOf ?_
  rw [<-(rel.val k).isSome_eq,<-l]
  exact h _ (I.tok _)
 ·subst ey
  cases (show u = Value.ref b from ry)
  obtain ⟨z,hd,xs,rel,dd⟩:=Pk I.hok e
  refine wpAny_notIn_heap (tupleKind_room_in1 hu) (Np I.hok eb) hd dd ?_
  have q:=(rel.val k).isSome_eq
  rw [Option.isSome_map] at q
  rw [<-q,<-l]
  exact h _ (I.tok _)
theorem MT {h' : Heap} {t' : Nat} {ob : HO} (I : Inv X pins σ H s) (mu : Mut (H a)) (hs : Heap.SameBut a s.heap h') (he : ∃ q,h'.get? a = some q) (new : Bj X.prog X.w (upd H a ob) h' a ob) :
  Inv X pins σ (upd H a ob) { s with heap:=h',toks:=t' }:=
 I.write (x:=a) (e:=a) mu (.inl rfl) (fun b q hb z => (hs.2 b hb).trans z) he new
theorem Vd {P : Program} {w : World} {H' : Hp} {h' : Heap} {kvs : List (Key × V)} {vs : List (Key × Value)} (z : kvs.length<=sizeLine) (hd : (a == sysModules) = false) (rel : KV kvs vs) (dd : h'.DictOf (Ax P w) a vs) :
  Bj P w H' h' a (.dK kvs):=⟨z,hd,vs,rel,dd⟩
theorem Yo {H' : Hp} {Q : Unit->Shared->Prop} (hu : A.units + 1 < cLine) (I : Inv X pins σ H s) (g : DPut H a y v H') (ry : RelV y u) (rv : RelV v r) (h : ∀ s',Inv X pins σ H' s'->Q () s') :
  wpAny (model X.prog X.w) A (setItem (.ref a) u r) Q E s:=by
 rcases g with ⟨kvs,k,e,ey,l,eH⟩ | ⟨kvs,k,b,e,ey,eb,l,eH⟩
 ·subst ey eH
  obtain ⟨z,hd,vs,rel,dd⟩:=Z3 I.hok e
  have hz : vs.length<=sizeLine:=by rw [<-rel.length]; exact z
  have hl : (putK kvs k v).length<=sizeLine:=by have:=J0 kvs k v; omega
  refine wpAny_setItem_pairs (hsz:=hz) (Q8 ry) dd fun h' dd' hs => h _ ?_
  have he : ∃ q,h'.get? a = some q:=let ⟨q,_,_,hq,_⟩:=dd'; ⟨q,hq⟩
  exact MT I (by rw [e]; exact True.intro) hs he (Vd hl hd (rel.put k rv) dd')
 ·subst ey eH
  cases (show u = Value.ref b from ry)
  obtain ⟨z,hd,xs,rel,dd⟩:=pZ I.hok e
  have hz : xs.length<=sizeLine:=by rw [<-Paired.length rel]; exact z
  have hl : (putK kvs k v).length<=sizeLine:=by have:=J0 kvs k v; omega
  refine wpAny_setItem_heap (hsz:=hz) (tupleKind_room_in1 hu) (Np I.hok eb) dd fun h' dd' hs => h _ ?_
  obtain ⟨q,es,ep,hq,h2,h3,h4,_,h5⟩:=dd'
  refine MT I (by rw [e]; exact True.intro) hs ⟨q,hq⟩ ⟨hl,hd,_,(rel.put k eb rv).keeps fun c ys ec => ?_,q,es,ep,hq,h2,h3,h4,h5⟩
  rw [Al (jY ec e (fun z => nomatch z))]
  exact ec
end
section
variable {X : Cx} {pins : List (Addr × Obj)} {σ : St} {H : Hp} {s : Shared} {a : Addr} {kvs : List (Key × V)} {k : Key} {u : Value} {A : Around} {E : Value->Shared->Prop}
theorem ph {Q : Value->Shared->Prop} (I : Inv X pins σ H s) (e : Rd H a (.dK kvs)) (h : ∀ t s',Inv X pins σ H s'->Q (.int kvs.length t) s') : wpAny (model X.prog X.w) A (call (.builtin "len") [.ref a]) Q E s:=by
 obtain ⟨z,hd,vs,rel,dd⟩:=I_ I.hok e
 refine call_len_dict hd dd (by rw [<-rel.length]; rw [sizeLine_eq] at z; omega) ?_
 rw [<-rel.length]
 exact h _ _ (I.tok _)
end
theorem Tn {X : Cx} {pins : List (Addr × Obj)} {σ : St} {H : Hp} {s : Shared} {a : Addr} {y : V} {o : Option V} (I : Inv X pins σ H s) (g : DGet H a y o) : s.TypeIs (.ref a) "dict":=by
 rcases g with ⟨kvs,k,e,_,_⟩ | ⟨kvs,k,b,e,_,_,_⟩
 ·obtain ⟨_,_,vs,_,dd⟩:=I_ I.hok e
  exact dd.typeIs
 ·obtain ⟨_,_,xs,_,dd⟩:=Pk I.hok e
  exact dd.typeIs
def pq (td ty tv : TE) : TS:=fun D σ H => tv σ H fun v H1 => td σ H1 fun x H2 => ty σ H2 fun y H3 => ∃ a H4,x = .ref a/\DPut H3 a y v H4/\D.nx σ H4
section
variable {X : Cx} {o i e value : Expr} {pos pos' tpos : Pos} {td ty tv : TE}
theorem Rx (hu : X.A.units + 1 < cLine) (ho : PE X o td) (hi : PE X i ty) (hv : PE X value tv) (hs : swapsWith value (some (.Subscript o i pos')) pos.line X.env = pure false) :
  PS X (.Assign [.Subscript o i pos'] value pos) (pq td ty tv):=by
 intro pins s σ H D I h
 refine wpAny_Assign_Subscript (thn (hv pins s σ H _ I h) fun r s1 ⟨v,H1,I1,rv,q1⟩ => thn (ho pins s1 σ H1 _ I1 q1) fun u s2 ⟨x,H2,I2,rx,q2⟩ => thn (hi pins s2 σ H2 _ I2 q2) fun iv s3 ⟨y,H3,I3,ry,a,H4,ex,g,q3⟩ => ?_) hs
 subst ex
 obtain rfl : u = Value.ref a:=rx
 exact Yo hu I3 g ry rv fun s4 I4 => ⟨σ,H4,I4,q3⟩
end
theorem Z4 {P : Program} {w : World} {H : Hp} (h : Heap) (hb : sysModules < h.objs.size) : Bj P w H (h.push { cls:=.type "dict",data:=.dict #[] }) h.objs.size (.dK []):=
 ⟨Nat.zero_le _,beq_eq_false_iff_ne.mpr (Ne.symm (Nat.ne_of_lt hb)),[],.nil,Heap.DictOf.new h⟩
theorem Z5 {P : Program} {w : World} {H : Hp} (h : Heap) (hb : sysModules < h.objs.size) : Bj P w H (h.push { cls:=.type "dict",data:=.dict #[] }) h.objs.size (.dT []):=
 ⟨Nat.zero_le _,beq_eq_false_iff_ne.mpr (Ne.symm (Nat.ne_of_lt hb)),[],.nil,_,#[],0,Heap.get?_push_size _ rfl,⟨rfl,rfl,rfl⟩,rfl,rfl,List.nodup_nil⟩
def mY : TE:=fun _ H Q => ∀ p,H p = none->Q (.ref p) (upd H p (.dK []))
def mZ : TE:=fun _ H Q => ∀ p,H p = none->Q (.ref p) (upd H p (.dT []))
section
variable {X : Cx} {pos : Pos}
theorem Z6 : PE X (.Dict [] [] pos) mY:=fun pins s σ H Q I h =>
 wpAny_Dict_empty ⟨.ref s.heap.objs.size,_,I.laid (a:=s.heap.objs.size) (o:=.dK []) (t':=s.toks) (fun _ _ q => Heap.get?_push_of_some _ q) (Nat.le_refl _) (Z4 s.heap I.big),rfl,h _ (I.hok.fresh (Nat.le_refl _))⟩
theorem Z7 : PE X (.Dict [] [] pos) mZ:=fun pins s σ H Q I h =>
 wpAny_Dict_empty ⟨.ref s.heap.objs.size,_,I.laid (a:=s.heap.objs.size) (o:=.dT []) (t':=s.toks) (fun _ _ q => Heap.get?_push_of_some _ q) (Nat.le_refl _) (Z5 s.heap I.big),rfl,h _ (I.hok.fresh (Nat.le_refl _))⟩
end
def Ib (kvs more : List (Key × V)) : List (Key × V):=more.foldl (fun acc kv => putK acc kv.1 kv.2) kvs
structure M2 (X : Cx) (o : Expr) (m : Str) (apos : Pos) (e f : Expr) (cpos : Pos) : Prop where
 base : attributeBase o m X.env (eval o X.env) = eval o X.env
 few : ((backTo cpos (starEach [e,f] X.env)).all (fun x => !x.1) && (backToKw cpos (keywordEach [] X.env)).all (fun x => x.1.isSome)
  && decide (([e,f] : List Expr).length + ([] : List Keyword).length + (if ([] : List Keyword).isEmpty then 0 else 1) < 30)) = true
 line : (apos.endLine == cpos.line) = true
 trees : backTo cpos (starEach [e,f] X.env) = [(false,eval e X.env),(false,eval f X.env)]
def IsD (H : Hp) (a : Addr) : Prop:=(∃ kvs,Rd H a (.dK kvs)) ∨ ∃ kvs,Rd H a (.dT kvs)
theorem mj {X : Cx} {pins : List (Addr × Obj)} {σ : St} {H : Hp} {s : Shared} {a : Addr} (I : Inv X pins σ H s) (d : IsD H a) :
  s.TypeIs (.ref a) "dict"/\(∀ b,Value.ref a = .ref b->∃ ob,s.heap.get? b = some ob/\ob.dict = none)/\(a == sysModules) = false:=by
 rcases d with ⟨kvs,e⟩ | ⟨kvs,e⟩
 ·obtain ⟨_,hd,vs,_,dd⟩:=I_ I.hok e
  refine ⟨dd.typeIs,fun b q => ?_,hd⟩
  cases q
  obtain ⟨ob,_,_,h1,h2,_⟩:=dd
  exact ⟨ob,h1,h2.2.1⟩
 ·obtain ⟨_,hd,xs,_,dd⟩:=Pk I.hok e
  refine ⟨dd.typeIs,fun b q => ?_,hd⟩
  cases q
  obtain ⟨ob,_,_,h1,h2,_⟩:=dd
  exact ⟨ob,h1,h2.2.1⟩
section
variable {X : Cx} {pins : List (Addr × Obj)} {σ : St} {H : Hp} {s : Shared} {a : Addr} {y d : V} {u r : Value} {o : Option V} {A : Around} {E : Value->Shared->Prop}
theorem mq {Q : Value->Shared->Prop} (hu : A.units + 1 < cLine) (I : Inv X pins σ H s) (g : DGet H a y o) (ry : RelV y u) (rd : RelV d r) (h : ∀ w' s',Inv X pins σ H s'->RelV (o.getD d) w'->Q w' s') :
  wpAny (model X.prog X.w) A (call (.builtin "dict.get") [.ref a,u,r]) Q E s:=by
 rcases g with ⟨kvs,k,e,ey,l⟩ | ⟨kvs,k,b,e,ey,eb,l⟩
 ·subst ey
  obtain ⟨z,hd,vs,rel,dd⟩:=I_ I.hok e
  refine call_meetsIn PySem.F.slot_dict_get dd.typeIs PySem.F.entry_dict_get (PySem.F.args_dict_get_3 _ _ _) (meets_dict_get_default (Ax X.prog X.w) a (Q8 ry) hd r) ⟨_,dd.mapOf,h _ _ (I.tok _) ?_⟩
  rw [l]
  exact (rel.val k).getD rd
 ·subst ey
  cases (show u = Value.ref b from ry)
  obtain ⟨z,hd,xs,rel,dd⟩:=Pk I.hok e
  refine call_meetsIn PySem.F.slot_dict_get dd.typeIs PySem.F.entry_dict_get (PySem.F.args_dict_get_3 _ _ _) (meetsH_dict_get_default (tupleKind (Ax X.prog X.w)) a b hd r) ⟨tupleKind_room_in1 hu,k,xs,Np I.hok eb,dd,h _ _ (I.tok _) ?_⟩
  rw [l]
  exact (rel.val k).getD rd
end
def mz (td ty tx : TE) : TE:=fun σ H Q => td σ H fun x H1 => ∃ a,x = .ref a/\IsD H1 a/\ty σ H1 fun y H2 => tx σ H2 fun z H3 => ∃ o,DGet H3 a y o/\Q (o.getD z) H3
section
variable {X : Cx} {o e f : Expr} {apos cpos : Pos} {td ty tx : TE}
theorem Z8 (hu : X.A.units + 1 < cLine) (ho : PE X o td) (he : PE X e ty) (hf : PE X f tx) (m : M2 X o "get" apos e f cpos) : PE X (.Call (.Attribute o "get" apos) [e,f] [] cpos) (mz td ty tx):=by
 intro pins s σ H Q I h
 refine wpAny_Call_method m.base m.few m.line PySem.F.plainAttrs_dict PySem.F.slot_dict_get PySem.F.type_dict_get (thn (ho pins s σ H _ I h) fun u s1 ⟨x,H1,I1,rx,a,ex,d,q1⟩ => ?_)
 subst ex
 obtain rfl : u = Value.ref a:=rx
 obtain ⟨t1,t2,_⟩:=mj I1 d
 refine ⟨t1,t2,?_⟩
 rw [m.trees]
 refine Calls.callWith_builtin rfl (Calls.evalArgs_plain (Calls.spliced_cons (thn (he pins s1 σ H1 _ I1 q1) fun iv s2 ⟨y,H2,I2,ry,q2⟩ =>
  Calls.spliced_cons (thn (hf pins s2 σ H2 _ I2 q2) fun fv s3 ⟨z,H3,I3,rz,ov,g,q3⟩ => Calls.spliced_nil ?_))))
 exact mq hu I3 g ry rz fun w' s4 I4 rw' => ⟨_,H3,I4,rw',q3⟩
end
section
variable {X : Cx} {pins : List (Addr × Obj)} {σ : St} {H : Hp} {s : Shared} {a : Addr} {kvs : List (Key × V)} {A : Around} {E : Value->Shared->Prop}
theorem Z9 {Q : Value->Shared->Prop} (I : Inv X pins σ H s) (e : Rd H a (.dK kvs)) (h : ∀ p s',H p = none->Inv X pins σ (upd H p (.dK kvs)) s'->Q (.ref p) s') : wpAny (model X.prog X.w) A (call (.type "dict") [.ref a]) Q E s:=by
 obtain ⟨z,hd,vs,rel,dd⟩:=I_ I.hok e
 refine kt_call_dict hd dd (by rw [<-rel.length]; exact z) fun h' dd' hs => ?_
 refine h _ _ (I.hok.fresh (Nat.le_refl _)) (I.laid (a:=s.heap.objs.size) (o:=.dK kvs) (t':=s.toks) (fun b q hq => ?_) (Nat.le_refl _) (Vd z (beq_eq_false_iff_ne.mpr (Ne.symm (Nat.ne_of_lt I.big))) rel dd'))
 exact (hs.2 b (Nat.ne_of_lt (Heap.lt_size hq))).trans (Heap.get?_push_of_some _ hq)
end
section
variable {X : Cx} {pins : List (Addr × Obj)} {σ : St} {H : Hp} {s : Shared} {a : Addr} {y : V} {u : Value} {A : Around} {E : Value->Shared->Prop}
end
end L2
namespace Att
open PySem PySem.W PySem.Calls PyProof.Rows
theorem O3 {P : Params} {h : Heap} : ∀ (ns : List Int) (vs : List Value),WellAll P h vs (ns.map WData.int)->IntsAre vs ns:=by
 intro ns
 induction ns with
 | nil =>
  intro vs w
  rw [List.map_nil] at w
  cases w
  exact .nil
 | cons n ns ih =>
  intro vs w
  rw [List.map_cons] at w
  cases w with
  | cons a b =>
   cases a
   exact .cons _ _ (ih _ b)
theorem Yp {l : OpenLaw} {n : Nat} (hn : l.most = some n) {P : Params} {h : Heap} {args : List WData} {vals : List Value}
  (hpre : l.row.toRowW.claim.pre args = true) (hwl : WellAll P h vals args) :
  ∃ a vs ns,vals = [Value.ref a]/\args = [WData.list (ns.map WData.int)]/\h.get? a = some { cls:=.type "list",data:=.seq vs.toArray }/\IntsAre vs ns/\ns.length<=n:=by
 have hsh : WShape.hasAll [] args [.list .int] = true:=(pre_splitW hpre).1
 have hc : l.pre.holds [] { args:=args } = true:=(pre_splitW hpre).2
 obtain ⟨d,r,rfl,h1,h2⟩:=hasAllW_cons hsh
 obtain rfl:=hasAllW_nil h2
 obtain ⟨xs,rfl,h3⟩:=hasW_list h1
 obtain ⟨ns,rfl⟩:=items_int h3
 have hlen : ns.length<=n:=by
  unfold OpenLaw.pre at hc
  have h4 : (WTm.not (.lt (.lit (.int (n : Int))) (.len (.arg 0)))).holds [] { args:=[.list (ns.map .int)] } = true:=by
   have h4:=(holds_andW hc).1
   rw [hn] at h4
   exact h4
  have h5:=condW_of h4 (w_not (w_lt w_lit (w_len_list (w_arg rfl))))
  rw [List.length_map] at h5
  refine Nat.le_of_not_lt fun q => ?_
  have q' : (n : Int) < ((ns.length : Nat) : Int):=by omega
  first
   | (rw [decide_eq_true q'] at h5; exact absurd h5 (by decide))
   | (simp at h5; omega)
 cases hwl with
 | cons w1 w2 =>
  cases w2
  cases w1 with
  | list ho hall => exact ⟨_,_,ns,rfl,rfl,ho,O3 ns _ hall,hlen⟩
theorem Yq (l : OpenLaw) (args : List WData) : l.row.toRowW.claim.post args (.bool true) args = true:=
 postW_of (r:=l.row.toRowW) (X:=(true == true))
  (show WShape.has [] (.bool true) .bool = true by first | rfl | decide | simp [WShape.has,WShape.arms,WShape.armsAll])
  (show (WTm.eq .res (.lit (.bool true))).value [] { args:=args,res:=some (.bool true),after:=args } = some (.bool (true == true)) from w_eq_bool (w_res rfl) w_lit) rfl
section
variable {prog : Program} {w : World} {A : Around} {E : Value->Shared->Prop} {s : Shared} {K : Frag}
end
end Att
namespace L2
open PySem PySem.Spec PyProof.Rows
theorem Q_ : ∀ {vs : List Value} {ns : List Int},IntsAre vs ns->Vals (ns.map V.int) vs
 | _,_,.nil => .nil
 | _,_,.cons n t h => .cons ⟨t,rfl⟩ (Q_ h)
def Only (H : Hp) : Prop:=∀ b,H b = none ∨ ∃ o xs,H b = some (.frz o (.lst xs))
theorem Z_ {P : Program} {w : World} {K : PySem.W.Frag} {mg mb : Str->Option Value} {CX : CXT} {k : Nat} {fa a : Addr} {fd : FuncData} {x : Str} {sp : Sp} {s₁ : Shared} {vs : List Value} {ns : List Int}
    (KX : K.In s₁.heap) (hns : s₁.heap.Ns mainGlobals mg) (hb : s₁.heap.Ns builtinsNs mb) (hbb : ∀ x : Str,x ≠ "__name__"->mb x = bootBuiltins x) (hlim : s₁.heap.NoLimit) (hg : s₁.gens = #[])
    (ha : s₁.heap.get? a = some { cls:=.type "list",data:=.seq vs.toArray }) (hi : IntsAre vs ns) (hl : ns.length<=sizeLine) (hr : Room k callerA)
    (F : ∀ base : Heap,K.In base->base.Ns mainGlobals mg->FnOk P w K mg base CX k fa fd [x] sp) (hbind : ∀ (s : Shared) (u : Value),BindsTo s fd ⟨[u],[]⟩ [(x,u)])
    (hsp : ∀ H : Hp,Only H->SqL K H a (ns.map V.int)->sp [.ref a] H (fun v _ => v = .bl true) fun _ _ _ => False)
    (hCX : ∀ H e s',CX [] H s₁ (fun _ _ _ => False) e s'->False) :
    codeAny (model P w) callerA (.call (.ref fa) ⟨[.ref a],[]⟩) (fun r s' => r = .ok (.ret (.bool true))/\OldK s₁.heap s'.heap/\s'.os = s₁.os/\AllBare s'.gens) s₁:=by
  have rv:=Q_ hi
  have lenV:=hi.length
  have core : ∀ H : Hp,Only H->SqL K H a (ns.map V.int)->HOk P w H s₁.heap->(∀ b,H b ≠ none->b = a)->(H a ≠ none->K.lookup a = none) ->
      codeAny (model P w) callerA (.call (.ref fa) ⟨[.ref a],[]⟩) (fun r s' => r = .ok (.ret (.bool true))/\OldK s₁.heap s'.heap/\s'.os = s₁.os/\AllBare s'.gens) s₁:=by
    intro H hO hS hok hA hK
    have base_of : ∀ {b : Addr} {o : Obj},s₁.heap.get? b = some o->H b = none->(hidT s₁.heap H).get? b = some o:=fun e n => ZX e n
    have noA : ∀ {b : Addr} {o : Obj} {es : Array DictEntry} {ep : Nat},s₁.heap.get? b = some o->o.data = .dict es ep->H b = none:=fun {b o es ep} e d => by
      cases q : H b with
      | none => rfl
      | some u =>
        have e' : b = a:=hA b (by rw [q]; simp)
        subst e'
        rw [ha] at e; cases e
        have d' : Data.seq vs.toArray _ = Data.dict es ep:=d
        cases d'
    have nsK : ∀ {b : Addr} {m : Str->Option Value},s₁.heap.Ns b m->(hidT s₁.heap H).Ns b m:=fun {b m} ⟨o,es,ep,e,d,r⟩ => ⟨o,es,ep,base_of e (noA e d),d,r⟩
    have hKb : K.In (hidT s₁.heap H):=fun b o e => base_of (KX b o e) (by
      cases q : H b with
      | none => rfl
      | some u =>
        have e' : b = a:=hA b (by rw [q]; simp)
        subst e'
        rw [hK (by rw [q]; simp)] at e; cases e)
    have hM : Mod K mg (hidT s₁.heap H):=⟨hKb,nsK hns,⟨mb,nsK hb,hbb⟩,let ⟨mc,h1,h2⟩:=hlim; ⟨mc,nsK h1,h2⟩⟩
    have e0 : Env0 P w K mg (hidT s₁.heap H) callerA [] s₁ H:=⟨rfl,hM,fun b o e => fJ e,Nat.le_of_eq (Yb _ _),trivial,fun b hb => absurd (show b ∈ ([] : List Addr) from hb) (by simp),hok,.of_eq hg⟩
    refine codeAny_mono ((F _ hKb (nsK hns)).run callerA [] s₁ H ⟨[.ref a],[]⟩ [.ref a] [.ref a] _ _ hr e0 (hbind s₁ (.ref a)) (.cons rfl .nil) (hsp H hO hS)) fun r s' h => ?_
    cases r with
    | error e => exact (hCX H e s' h).elim
    | ok fl =>
      cases fl with
      | next => exact False.elim h
      | brk => exact False.elim h
      | cont => exact False.elim h
      | ret u =>
        obtain ⟨v,H',os,bare,un,hok',r',q⟩:=h
        have q' : v = .bl true:=q
        subst q'
        obtain rfl : u = Value.bool true:=r'
        refine ⟨rfl,OldK.of_keep fun b o e => ?_,os,bare⟩
        cases q : H b with
        | none => exact un.keep b o e q (by intro z; exact absurd (show b ∈ ([] : List Addr) from z) (by simp)) (by simp)
        | some u =>
          rcases hO b with z | ⟨ob,xs,z⟩
          · rw [q] at z; cases z
          · have z2:=un.frzs b ob _ z
            obtain ⟨e1,_⟩:=hok b _ z
            obtain ⟨e2,_⟩:=hok' b _ z2
            rw [e] at e1; cases e1
            exact e2
  cases hk : K.lookup a with
  | some o =>
    have e:=KX a o hk
    rw [ha] at e
    cases e
    refine core (fun _ => none) (fun _ => .inl rfl) (.inr ⟨_,vs.toArray,_,hk,rfl,rfl,rfl,by rw [List.size_toArray,lenV]; exact hl,by simpa using rv⟩) (fun b u z => by have z' : (none : Option HO) = some u:=z; cases z') (fun b z => absurd rfl z) fun z => absurd rfl z
  | none =>
    refine core (fun b => if b = a then some (.frz { cls:=.type "list",data:=.seq vs.toArray } (.lst (ns.map V.int))) else none) (fun b => ?_) (.inl (.inr ⟨{ cls:=.type "list",data:=.seq vs.toArray },if_pos rfl⟩)) (fun b u z => ?_) (fun b z => ?_) fun _ => hk
    · by_cases hb : b = a
      · exact .inr ⟨_,_,if_pos hb⟩
      · exact .inl (if_neg hb)
    · by_cases hb : b = a
      · have z':=(if_pos hb).symm.trans z
        cases z'
        subst hb
        exact ⟨ha,by rw [List.length_map]; exact hl,vs,_,rv,ha⟩
      · have z':=(if_neg hb).symm.trans z
        cases z'
    · by_cases hb : b = a
      · exact hb
      · exact absurd (if_neg hb) z
end L2
namespace L2
open PySem PySem.Spec PyProof.Rows
abbrev KOf {K : PySem.W.Frag} {h : Heap} (_ : K.In h) : PySem.W.Frag:=K
end L2
namespace L2
open PySem PySem.Spec PyProof.Rows
def inClass (s : Stmt) (j : Nat) : Stmt:=match s with
 | .ClassDef _ _ _ body _ _ _ _ _ _ _ => body.getD j (.Pass ⟨0,0,0,0⟩)
 | _ => .Pass ⟨0,0,0,0⟩
def Di (s : Stmt) : Arguments:=match s with
 | .FunctionDef _ a _ _ _ _ _ _ _ _ => a
 | _ => { posonlyargs:=[],args:=[],vararg:=none,kwonlyargs:=[],kw_defaults:=[],kwarg:=none,defaults:=[] }
def CV (s : Stmt) : List Stmt:=match s with
 | .FunctionDef _ _ b _ _ _ _ _ _ _ => b
 | _ => []
def Af (s : Stmt) : Scope:=match s with
 | .FunctionDef _ _ _ _ _ _ sc _ _ _ => sc
 | _ => { kind:=.function,names:=[],isGenerator:=false,isCoroutine:=false }
abbrev CX0 : CXT:=fun _ _ _ _ _ _ => False
abbrev E0 : XK:=fun _ _ _ => False
theorem jf {X : Cx} : Pg CX0 X E0:=fun _ _ _ _ _ _ _ h => h.elim
structure Fun (K : PySem.W.Frag) (x qual : Str) (st : Stmt) (f : Addr) (fd : FuncData) : Prop where
 ex : ∃ (oc : Value) (od : Option Addr) (kV doc pm : Value) (an : Option Addr) (cdv ct : Value) (osl : Array (Option Value)),
  fd = PySem.W.fnOf x qual (Di st) (CV st) (Af st) .none kV doc pm an cdv ct/\K.lookup f = some ⟨oc,od,.func fd,osl⟩/\PySem.W.codeIn K cdv qual = true
 kp : PySem.W.keepIn K (.ref f) = true
section
variable {P : Program} {w : World} {K : PySem.W.Frag} {mg : Str->Option Value} {base : Heap}
theorem Fun.ok {x qual : Str} {st : Stmt} {f : Addr} {fd : FuncData} {N ps : List Str} {k : Nat} {sp : Sp} (F : Fun K x qual st f fd) (S : FnScope N ps (Af st)) (len : ∀ vs H Q E,sp vs H Q E->vs.length = ps.length)
  (hbody : ∀ (cdv : Value) (A : Around) (outer : List Env) (s : Shared) (H : Hp) (vs : List V) (Q : VK) (E : XK),Room k (A.deeper (envOfC qual (Af st) s.heap.objs.size f cdv))->sp vs H Q E ->
   ∃ t,PSs (cxOf CX0 P w K mg base N qual (Af st) f cdv A outer s H E).nox (CV st) t/\t { nx:=fun _ H' => Q .non H',rt:=Q } (start N vs) H) : FnOk P w K mg base CX0 (k + 1) f fd ps sp:=by
 obtain ⟨oc,od,kV,doc,pm,an,cdv,ct,osl,rfl,lk,hcd⟩:=F.ex
 refine jc lk hcd S len fun A outer s H vs Q E hr hsp => ?_
 obtain ⟨t,h,q⟩:=hbody cdv A outer s H vs Q E hr hsp
 exact ⟨t,h.nox,q⟩
theorem Fun.binds {x qual : Str} {st : Stmt} {f : Addr} {fd : FuncData} {ps : List Str} (F : Fun K x qual st f fd)
  (h : ∀ (kV doc pm : Value) (an : Option Addr) (cdv ct : Value) (us : List Value),us.length = ps.length->bindArgs (PySem.W.fnOf x qual (Di st) (CV st) (Af st) .none kV doc pm an cdv ct) ⟨us,[]⟩ = pure (ps.zip us)) : Binds K fd ps []:=by
 obtain ⟨oc,od,kV,doc,pm,an,cdv,ct,osl,rfl,lk,hcd⟩:=F.ex
 exact .all (h kV doc pm an cdv ct)
theorem Ve {x qual : Str} {st : Stmt} {f : Addr} {oc : Value} {od an : Option Addr} {osl : Array (Option Value)} {kV doc pm cdv ct : Value} (l : K.lookup f = some ⟨oc,od,.func (PySem.W.fnOf x qual (Di st) (CV st) (Af st) .none kV doc pm an cdv ct),osl⟩)
  (c : PySem.W.codeIn K cdv qual = true) (k : PySem.W.keepIn K (.ref f) = true) : Fun K x qual st f (PySem.W.fnOf x qual (Di st) (CV st) (Af st) .none kV doc pm an cdv ct):=⟨⟨oc,od,kV,doc,pm,an,cdv,ct,osl,rfl,l,c⟩,k⟩
end
theorem FW {A : Around} {k : Nat} (hr : Room k A) : A.units + 1 < cLine:=Nat.lt_of_le_of_lt (Nat.add_le_add_left (by decide : 1<=64) _) hr.units
section
variable {X : Cx}
theorem pv (i : Nat) {x : Str} {pos : Pos} (hN : X.N[i]? = some x:=by rfl) (hv : Vis X.env.scope x:=by first | exact Or.inl rfl | exact Or.inr (Or.inl rfl) | exact Or.inr (Or.inr rfl)) (hd : (x == ("__debug__" : Str)) = false:=by decide)
  (hcd : (x == ("__classdict__" : Str)) = false:=by decide) : PE X (.Name x pos) (tVar i):=lQ hN hv hd hcd
end
theorem iteF {A B : Prop} (h : B) : if false = true then A else B:=by
 rw [if_neg Bool.false_ne_true]
 exact h
theorem iteT {A B : Prop} (h : A) : if true = true then A else B:=by
 rw [if_pos rfl]
 exact h
def Same (H H' : Hp) : Prop:=∀ b o,H b = some o->H' b = some o
theorem Same.refl (H : Hp) : Same H H:=fun _ _ h => h
theorem Same.trans {H H1 H2 : Hp} (a : Same H H1) (b : Same H1 H2) : Same H H2:=fun c o h => b c o (a c o h)
theorem Same.free {H H' : Hp} (e : Same H H') {l : Addr} (h : H' l = Option.none) : H l = Option.none:=by
 cases q : H l with
 | none => rfl
 | some o =>
  rw [e l o q] at h
  cases h
theorem Same.seq {K : PySem.W.Frag} {H H' : Hp} {a : Addr} {xs : List V} (e : Same H H') (h : SqL K H a xs) : SqL K H' a xs:=by
 rcases h with (h | ⟨o,h⟩) | h
 ·exact .inl (.inl (e _ _ h))
 ·exact .inl (.inr ⟨o,e _ _ h⟩)
 ·exact .inr h
section
variable {κ : Type} [DecidableEq κ]
end
end L2
namespace PV
open PySem L2
inductive D where
 | non | bl (b : Bool) | int (i : Int) | str (x : Str) | tup (ds : List D) | lst (ds : List D)
 | dk (kvs : List (Key × D)) | dt (kvs : List (List Key × D)) | ob (c : Str) (fs : List (Str × D)) | adr (a : Addr)
inductive Slot where
 | un | fz (d : D) | ow (d : D)
abbrev Rho:=List Slot
abbrev FE:=Rho->Option D
abbrev FA:=Rho->Option (List D)
abbrev FT:=Rho->Option Bool
abbrev FO:=Rho->Option (Option Int)
abbrev FI:=Rho->Option (List D)
def vF (i : Nat) : FE:=fun ρ => match ρ[i]? with | some (.fz d) => some d | _ => none
def vU (i : Nat) : FE:=fun ρ => match ρ[i]? with | some (.fz d) => some d | some (.ow d) => some d | _ => none
def kF (d : D) : FE:=fun _ => some d
def bF (g : D->D->Option D) (fa fb : FE) : FE:=fun ρ => (fa ρ).bind fun x => (fb ρ).bind fun y => g x y
def uF (g : D->Option D) (fa : FE) : FE:=fun ρ => (fa ρ).bind g
def blF (f : FE) : FT:=fun ρ => match f ρ with | some (.bl b) => some b | _ => none
def iiD (g : Int->Int->Option D) : D->D->Option D:=fun x y => match x,y with | .int i,.int j => g i j | _,_ => none
instance (i j : Int) : Decidable (CMul i j):=by unfold CMul; infer_instance
instance (i j : Int) : Decidable (CDiv i j):=by unfold CDiv; infer_instance
instance (i j : Int) : Decidable (CPow i j):=by unfold CPow; infer_instance
def subD:=iiD fun i j => some (.int (i - j))
def K3 (i j : Int) : Prop:=CMul i j ∨ (Builtin.Int.intBits i<=4194304/\Builtin.Int.intBits j<=4194304)
instance (i j : Int) : Decidable (K3 i j):=by unfold K3; infer_instance
def CShl (i j : Int) : Prop:=0<=j/\j<=1000000/\Builtin.Int.intBits i<=4194304
instance (i j : Int) : Decidable (CShl i j):=by unfold CShl; infer_instance
def mulD:=iiD fun i j => if K3 i j then some (.int (i * j)) else none
def Ec:=iiD fun i j => if CDiv i j then some (.int (i / j)) else none
def modD:=iiD fun i j => if 0 < j then some (.int (i % j)) else none
def powD:=iiD fun i j => if CPow i j then some (.int (i ^ j.toNat)) else none
def shlD:=iiD fun i j => if CShl i j then some (.int (i * 2 ^ j.toNat)) else none
def shrD:=iiD fun i j => if 0<=j then some (.int (i / 2 ^ j.toNat)) else none
def K4:=iiD fun i j => some (.int (Builtin.bitAnd i j))
def borD:=iiD fun i j => some (.int (Builtin.bitOr i j))
def We:=iiD fun i j => some (.int (Builtin.bitXor i j))
def ltD:=iiD fun i j => some (.bl (decide (i < j)))
def leD:=iiD fun i j => some (.bl (decide (i<=j)))
def gtD:=iiD fun i j => some (.bl (decide (j < i)))
def geD:=iiD fun i j => some (.bl (decide (j<=i)))
def addD : D->D->Option D:=fun x y => match x,y with
 | .int i,.int j => some (.int (i + j))
 | .str i,.str j => if i.length + j.length<=sizeLine then some (.str (i ++ j)) else none
 | .lst i,.lst j => if i.length + j.length<=sizeLine then some (.lst (i ++ j)) else none
 | _,_ => none
def andF (fa fb : FE) : FE:=fun ρ => match fa ρ with | some (.bl true) => fb ρ | some (.bl false) => some (.bl false) | _ => none
def orF (fa fb : FE) : FE:=fun ρ => match fa ρ with | some (.bl true) => some (.bl true) | some (.bl false) => fb ρ | _ => none
def notF (fa : FE) : FE:=fun ρ => match fa ρ with | some (.bl b) => some (.bl (!b)) | _ => none
def andT (fa fb : FT) : FT:=fun ρ => match fa ρ with | some true => fb ρ | some false => some false | none => none
def orT (fa fb : FT) : FT:=fun ρ => match fa ρ with | some true => some true | some false => fb ρ | none => none
def notT (fa : FT) : FT:=fun ρ => (fa ρ).map (!·)
def truD : D->Option Bool
 | .non => some false
 | .bl b => some b
 | .int i => some (i != 0)
 | .str y => if y.length<=sizeLine then some ((y.length : Int) != 0) else none
 | .lst ds => some (!ds.isEmpty)
 | .tup ds => some (!ds.isEmpty)
 | _ => none
def trF (f : FE) : FT:=fun ρ => (f ρ).bind truD
def ifF (t : FT) (fa fb : FE) : FE:=fun ρ => match t ρ with | some true => fa ρ | some false => fb ρ | none => none
def nilA : FA:=fun _ => some []
def Ab (fa : FE) (fs : FA) : FA:=fun ρ => (fa ρ).bind fun d => (fs ρ).map (d :: ·)
def tupF (fs : FA) : FE:=fun ρ => (fs ρ).bind fun ds => if ds.length<=sizeLine then some (.tup ds) else none
def lstF (fs : FA) : FE:=fun ρ => (fs ρ).bind fun ds => if ds.length<=sizeLine then some (.lst ds) else none
def ixD : D->D->Option D:=fun x y => match x,y with
 | .lst ds,.int i => atI ds i
 | .tup ds,.int i => atI ds i
 | .str z,.int i => if z.length<=sizeLine then (atI z.cps.toList i).map fun c => .str ⟨#[c]⟩ else none
 | _,_ => none
def noO : FO:=fun _ => some none
def someO (f : FE) : FO:=fun ρ => match f ρ with | some (.int i) => some (some i) | _ => none
def cutD {α : Type} (ds : List α) (lo hi : Option Int) : List α:=(ds.drop (HT.sIx ds.length 0 lo)).take (HT.sIx ds.length ds.length hi - HT.sIx ds.length 0 lo)
def cutS (z : Str) (lo hi : Option Int) : Str:=⟨(cutD z.cps.toList lo hi).toArray⟩
def slD (x : D) (lo hi : Option Int) : Option D:=match x with
 | .lst ds => some (.lst (cutD ds lo hi))
 | .tup ds => if HT.sIx ds.length 0 lo = 0/\HT.sIx ds.length ds.length hi = ds.length then none else some (.tup (cutD ds lo hi))
 | .str z => if z.length<=sizeLine then some (.str (cutS z lo hi)) else none
 | _ => none
def slF (f : FE) (l h : FO) : FE:=fun ρ => (f ρ).bind fun x => (l ρ).bind fun lo => (h ρ).bind fun hi => slD x lo hi
def flV : D->Option V
 | .non => some .non
 | .bl b => some (.bl b)
 | .int i => some (.int i)
 | .str x => some (.str x)
 | _ => none
def flVs : List D->Option (List V)
 | [] => some []
 | d :: r => (flV d).bind fun v => (flVs r).map (v :: ·)
def inD (neg : Bool) : D->D->Option D:=fun x y => match x,y with
 | .str i,.str j => some (.bl (if neg then !(!(Builtin.Str.occurrences j i 0 j.length 1).isEmpty) else !(Builtin.Str.occurrences j i 0 j.length 1).isEmpty))
 | x,.lst ds => (flV x).bind fun v => (flVs ds).map fun vs => .bl (if neg then !inV v vs else inV v vs)
 | x,.tup ds => (flV x).bind fun v => (flVs ds).map fun vs => .bl (if neg then !inV v vs else inV v vs)
 | _,_ => none
def allO (f : D->D->Option Bool) : List D->List D->Option Bool
 | [],[] => some true
 | x :: xs,y :: ys => match f x y,allO f xs ys with | some a,some b => some (a && b) | _,_ => none
 | _,_ => none
def flD (x y : D) : Option Bool:=(flV x).bind fun u => (flV y).map fun v => eqV u v
def eqS (f : D->D->Option Bool) : D->D->Option Bool
 | .lst xs,.lst ys => if xs.length = ys.length then allO f xs ys else some false
 | .tup xs,.tup ys => if xs.length = ys.length then allO f xs ys else none
 | x,y => flD x y
def eqK : Nat->D->D->Option Bool
 | 0 => flD
 | n + 1 => eqS (eqK n)
def eqvD (x y : D) : Option Bool:=match x,y with
 | .int i,.int j => some (decide (i = j))
 | .str i,.str j => some (decide (i = j))
 | .bl i,.bl j => some (decide (i = j))
 | .lst xs,.lst ys => if xs.length = ys.length then allO (eqK 62) xs ys else some false
 | .tup xs,.tup ys => if xs.length = ys.length then allO (eqK 62) xs ys else none
 | _,_ => none
def eqD (neg : Bool) (x y : D) : Option D:=(eqvD x y).map fun b => .bl (if neg then !b else b)
def lenD : D->Option D
 | .str y => if y.length<=sizeLine then some (.int y.length) else none
 | .lst ds => some (.int ds.length)
 | .tup ds => some (.int ds.length)
 | _ => none
def maxD:=iiD fun i j => some (.int (if j > i then j else i))
def minD:=iiD fun i j => some (.int (if j < i then j else i))
def aA : D->Option D
 | .lst ds => some (.lst ds)
 | .tup ds => some (.lst ds)
 | _ => none
def intD : D->Option D
 | .int i => some (.int i)
 | .bl k => some (.int (if k then 1 else 0))
 | _ => none
def negD : D->Option D
 | .int i => some (.int (-i))
 | _ => none
def seqI (f : FE) : FI:=fun ρ => match f ρ with | some (.lst ds) => some ds | some (.tup ds) => some ds | _ => none
def rngD (n : Nat) : List D:=(List.range n).map fun (i : Nat) => .int i
def rngI (f : FE) : FI:=fun ρ => match f ρ with | some (.int j) => if -(2 ^ 62)<=j/\j < 2 ^ 62 then some (rngD j.toNat) else none | _ => none
inductive Out where
 | nx (ρ : Rho) | rt (d : D) (ρ : Rho) | bk (ρ : Rho) | ct (ρ : Rho)
abbrev FS:=Rho->Option Out
def nxF : FS:=fun ρ => some (.nx ρ)
def seqF (g gs : FS) : FS:=fun ρ => match g ρ with | some (.nx ρ') => gs ρ' | o => o
def ifS (t : FT) (g gs : FS) : FS:=fun ρ => match t ρ with | some true => g ρ | some false => gs ρ | none => none
def setF (i : Nat) (f : FE) : FS:=fun ρ => (f ρ).map fun d => .nx (ρ.set i (.fz d))
def retF (f : FE) : FS:=fun ρ => (f ρ).map fun d => .rt d ρ
def retN : FS:=fun ρ => some (.rt .non ρ)
def GZ (f : FE) : FS:=fun ρ => (f ρ).map fun _ => .nx ρ
def badF : FS:=fun _ => none
def forF (b : D->FS) : List D->FS
 | [],ρ => some (.nx ρ)
 | d :: r,ρ => match b d ρ with
  | some (.nx ρ') => forF b r ρ'
  | some (.ct ρ') => forF b r ρ'
  | some (.bk ρ') => some (.nx ρ')
  | some (.rt e ρ') => some (.rt e ρ')
  | none => none
abbrev FG:=D->Rho->Option Rho
def BW (i : Nat) : FG:=fun d ρ => some (ρ.set i (.fz d))
def tgB (tg : FG) (b : FS) : D->FS:=fun d ρ => (tg d ρ).bind b
def forS (src : FI) (tg : FG) (b : FS) : FS:=fun ρ => (src ρ).bind fun ds => forF (tgB tg b) ds ρ
def Ie (c : FT) (b : FS) : Nat->FS
 | 0,_ => none
 | n + 1,ρ => match c ρ with
  | some false => some (.nx ρ)
  | some true => (match b ρ with
   | some (.nx ρ') => Ie c b n ρ'
   | some (.ct ρ') => Ie c b n ρ'
   | some (.bk ρ') => some (.nx ρ')
   | some (.rt e ρ') => some (.rt e ρ')
   | none => none)
  | none => none
def Ai (g : List D->Option D) (fs : FA) : FE:=fun ρ => (fs ρ).bind g
def Fb (n : Nat) (ds : List D) : Rho:=ds.map .fz ++ List.replicate (n - ds.length) .un
def runF (n np : Nat) (b : FS) (ds : List D) : Option D:=if ds.length = np then (match b (Fb n ds) with | some (.rt d _) => some d | some (.nx _) => some .non | _ => none) else none
def Bh (ρ : Rho) (ga : FT) (fe : FE) : List D->Option (List D)
 | [] => some []
 | d :: r => match ga (ρ ++ [.fz d]) with
  | some true => (fe (ρ ++ [.fz d])).bind fun y => (Bh ρ ga fe r).map (y :: ·)
  | some false => Bh ρ ga fe r
  | none => none
def Av (src : FI) (ga : FT) (fe : FE) : FE:=fun ρ => (src ρ).bind fun ds => if ds.length<=sizeLine then (Bh ρ ga fe ds).map .lst else none
def allT : FT:=fun _ => some true
def G3 : List D->Option (List Str)
 | [] => some []
 | .str i :: r => (G3 r).map (i :: ·)
 | _ :: _ => none
def Wf (x y : D) : Option D:=match x,y with
 | .str z,.lst ds => (G3 ds).bind fun ys => if (ys.map (·.length)).sum + ys.length * z.length<=16777216 then some (.str (Str.join z ys)) else none
 | .str z,.tup ds => (G3 ds).bind fun ys => if (ys.map (·.length)).sum + ys.length * z.length<=16777216 then some (.str (Str.join z ys)) else none
 | _,_ => none
def tyD : D->Option String
 | .non => some "NoneType"
 | .bl _ => some "bool"
 | .int _ => some "int"
 | .str _ => some "str"
 | .lst _ => some "list"
 | .tup _ => some "tuple"
 | _ => none
def isiD (T : String) (x : D) : Option D:=(tyD x).map fun n => .bl (n == T || (n == "bool" && T == "int"))
def ltS (a b : Str) : Bool:=decide (a.cps.toList < b.cps.toList)
def insS (x : Str) : List Str->List Str
 | [] => [x]
 | y :: r => if ltS x y then x :: y :: r else if x = y then y :: r else y :: insS x r
def CZ (xs : List Str) : List Str:=xs.foldr insS []
def ssL (ds : List D) : Option D:=(G3 ds).bind fun xs => if xs.length<=1000/\(CZ xs).length<=60 then some (.lst ((CZ xs).map .str)) else none
def ssD : D->Option D
 | .lst ds => ssL ds
 | .tup ds => ssL ds
 | _ => none
def setW (i : Nat) (f : FE) : FS:=fun ρ => (f ρ).map fun d => .nx (ρ.set i (.ow d))
def ownO (ρ : Rho) (i : Nat) : Option D:=match ρ[i]? with | some (.ow d) => some d | _ => none
def appL (x v : D) : Option D:=match x with | .lst ds => if ds.length < sizeLine then some (.lst (ds ++ [v])) else none | _ => none
def extL (x v : D) : Option D:=match x,v with
 | .lst ds,.lst es => if ds.length + es.length<=sizeLine then some (.lst (ds ++ es)) else none
 | _,_ => none
def mutF (g : D->D->Option D) (i : Nat) (f : FE) : FS:=fun ρ => (f ρ).bind fun v => (ownO ρ i).bind fun x => (g x v).map fun y => .nx (ρ.set i (.ow y))
def frz1 (ρ : Rho) (i : Nat) : Rho:=match ρ[i]? with | some (.ow d) => ρ.set i (.fz d) | _ => ρ
def fzS (is : List Nat) (g : FS) : FS:=fun ρ => g (is.foldl frz1 ρ)
end PV
namespace PV
open PySem L2
theorem Kh {α : Type} (l : List α) (x : α) : atI (l ++ [x]) (-1) = some x:=by
 unfold atI ixN
 rw [if_neg (by omega),if_pos (by simp; omega)]
 simp
 rw [show (-1 + ((l.length : Int) + 1)).toNat = l.length by omega]
 simp
theorem Vf {α : Type} (l : List α) (k : Nat) : cutD l none (some (k : Int)) = l.take k:=by
 unfold cutD HT.sIx
 simp
 rw [if_neg (by omega)]
 first | omega | (rw [List.take_eq_take_iff]; omega)
theorem aB {α : Type} (l : List α) (k : Nat) : cutD l (some (k : Int)) none = l.drop k:=by
 unfold cutD HT.sIx
 simp
 rw [if_neg (by omega)]
 by_cases h : k<=l.length
 ·rw [Nat.min_eq_left h,List.take_of_length_le (by simp)]
 ·rw [Nat.min_eq_right (by omega),List.drop_of_length_le (by omega),List.drop_of_length_le (by omega)]
  simp
theorem Vg {α : Type} {xs : List α} {i : Int} (h0 : 0<=i) (h1 : i < xs.length) : atI xs i = xs[i.toNat]?:=by
 unfold atI ixN; rw [if_pos h0,if_pos h1]; rfl
theorem Wg {α : Type} {xs : List α} (i n : Int) (hn : n = xs.length) (h : xs ≠ []) : ∃ x,x ∈ xs/\atI xs (i % n) = some x:=by
 subst hn
 have hl : 0 < xs.length:=List.length_pos_iff.mpr h
 have h0 : 0<=i % (xs.length : Int):=Int.emod_nonneg _ (by omega)
 have h1 : i % (xs.length : Int) < xs.length:=Int.emod_lt_of_pos _ (by omega)
 have hi : (i % (xs.length : Int)).toNat < xs.length:=by omega
 exact ⟨xs[(i % (xs.length : Int)).toNat],List.getElem_mem hi,by rw [Vg h0 h1]; simp [hi]⟩
theorem Dg (i j : Int) (h : 0 < j) : modD (.int i) (.int j) = some (.int (i % j)):=by
 show (if 0 < j then some (D.int (i % j)) else none) = _
 rw [if_pos h]
theorem Kl (i j : Int) (h : 0 < j) (h2 : j < 1073741824) : Ec (.int i) (.int j) = some (.int (i / j)):=by
 show (if CDiv i j then some (D.int (i / j)) else none) = _
 rw [if_pos ⟨h,h2⟩]
theorem JW (i j : Int) (h : -(2 ^ 64) < j/\j < 2 ^ 64) : mulD (.int i) (.int j) = some (.int (i * j)):=by
 show (if K3 i j then some (D.int (i * j)) else none) = _
 rw [if_pos (.inl (.inr h))]
theorem Ma (i j : Int) (h : -(2 ^ 64) < i/\i < 2 ^ 64) : mulD (.int i) (.int j) = some (.int (i * j)):=by
 show (if K3 i j then some (D.int (i * j)) else none) = _
 rw [if_pos (.inl (.inl h))]
theorem aC (i j : Int) : addD (.int i) (.int j) = some (.int (i + j)):=of_eq_true (eq_self _)
theorem Vh (i j : Int) : subD (.int i) (.int j) = some (.int (i - j)):=of_eq_true (eq_self _)
theorem Wh (i j : Int) : ltD (.int i) (.int j) = some (.bl (decide (i < j))):=of_eq_true (eq_self _)
theorem jg (i j : Int) : gtD (.int i) (.int j) = some (.bl (decide (j < i))):=of_eq_true (eq_self _)
theorem jh (i j : Int) : leD (.int i) (.int j) = some (.bl (decide (i<=j))):=of_eq_true (eq_self _)
theorem ji (i j : Int) : geD (.int i) (.int j) = some (.bl (decide (j<=i))):=of_eq_true (eq_self _)
theorem Tp (i j : Int) : eqD false (.int i) (.int j) = some (.bl (decide (i = j))):=of_eq_true (eq_self _)
theorem jj (i j : Int) : eqD true (.int i) (.int j) = some (.bl (!decide (i = j))):=of_eq_true (eq_self _)
theorem aD (i : Int) : negD (.int i) = some (.int (-i)):=of_eq_true (eq_self _)
theorem HD {n : Nat} (h : n<=10000000) : n<=sizeLine:=Nat.le_trans h (by decide)
theorem m5 {i j : List D} (h : i.length + j.length<=10000000) : addD (.lst i) (.lst j) = some (.lst (i ++ j)):=by
 show (if _ then _ else _) = _
 rw [if_pos (HD h)]
theorem Ry {i j : Str} (h : i.length + j.length<=10000000) : addD (.str i) (.str j) = some (.str (i ++ j)):=by
 show (if _ then _ else _) = _
 rw [if_pos (HD h)]
theorem JB {b : D->FS} {P : Nat->Rho->Prop} : ∀ {ds : List D} {ρ : Rho} (k : Nat),P k ρ->(∀ (i : Nat) d ρ,ds[i]? = some d->P (k + i) ρ->∃ ρ',b d ρ = some (.nx ρ')/\P (k + i + 1) ρ')->∃ ρ',forF b ds ρ = some (.nx ρ')/\P (k + ds.length) ρ'
 | [],ρ,k,h0,_ => ⟨ρ,rfl,by simpa using h0⟩
 | d :: r,ρ,k,h0,hs => by
  obtain ⟨ρ1,e1,p1⟩:=hs 0 d ρ rfl (by simpa using h0)
  obtain ⟨ρ2,e2,p2⟩:=JB (ds:=r) (ρ:=ρ1) (k + 1) (by simpa using p1) fun i d' ρ' hd hp => by
   have:=hs (i + 1) d' ρ' (by simpa using hd) (by rw [show k + (i + 1) = k + 1 + i by omega]; exact hp)
   rw [show k + (i + 1) + 1 = k + 1 + i + 1 by omega] at this
   exact this
  refine ⟨ρ2,?_,by rw [List.length_cons,show k + (r.length + 1) = k + 1 + r.length by omega]; exact p2⟩
  unfold forF
  rw [e1]
  exact e2
theorem Tq {ρ : Rho} {fe : FE} {P : D->Prop} : ∀ {ds : List D},(∀ d ∈ ds,∃ y,fe (ρ ++ [.fz d]) = some y/\P y)->∃ out,Bh ρ allT fe ds = some out/\out.length = ds.length/\∀ y ∈ out,P y
 | [],_ => ⟨[],rfl,rfl,by simp⟩
 | d :: r,hh => by
  obtain ⟨y,hy,py⟩:=hh d List.mem_cons_self
  obtain ⟨out,h1,h2,h3⟩:=Tq (ds:=r) fun d' hd => hh d' (List.mem_cons_of_mem _ hd)
  refine ⟨y :: out,?_,by simp [h2],fun z hz => ?_⟩
  ·unfold Bh
   rw [show allT (ρ ++ [.fz d]) = some true from rfl,hy,h1]
   rfl
  ·rcases List.mem_cons.mp hz with rfl | hz
   ·exact py
   ·exact h3 z hz
theorem Fe {src : FI} {ga : FT} {fe : FE} {ρ : Rho} {ds out : List D} (h : src ρ = some ds) (hz : ds.length<=10000000) (hc : Bh ρ ga fe ds = some out) : Av src ga fe ρ = some (.lst out):=by
 unfold Av; rw [h]
 show (if ds.length<=sizeLine then (Bh ρ ga fe ds).map D.lst else none) = _
 rw [if_pos (HD hz),hc]
 rfl
def RB (o : Option Out) (gs : FS) : Option Out:=match o with | some (.nx ρ') => gs ρ' | o => o
theorem RC (g gs : FS) (ρ : Rho) : seqF g gs ρ = RB (g ρ) gs:=of_eq_true (eq_self _)
theorem e_nx (gs : FS) (ρ : Rho) : RB (some (.nx ρ)) gs = gs ρ:=of_eq_true (eq_self _)
theorem e_rt (gs : FS) (d : D) (ρ : Rho) : RB (some (.rt d ρ)) gs = some (.rt d ρ):=of_eq_true (eq_self _)
theorem e_bk (gs : FS) (d : Rho) : RB (some (.bk d)) gs = some (.bk d):=of_eq_true (eq_self _)
theorem e_ct (gs : FS) (d : Rho) : RB (some (.ct d)) gs = some (.ct d):=of_eq_true (eq_self _)
theorem aF (ρ : Rho) : nxF ρ = some (.nx ρ):=of_eq_true (eq_self _)
def iteO (o : Option Bool) (g gs : FS) (ρ : Rho) : Option Out:=match o with | some true => g ρ | some false => gs ρ | none => none
theorem e_if (t : FT) (g gs : FS) (ρ : Rho) : ifS t g gs ρ = iteO (t ρ) g gs ρ:=of_eq_true (eq_self _)
theorem aG (g gs : FS) (ρ : Rho) : iteO (some true) g gs ρ = g ρ:=of_eq_true (eq_self _)
theorem aH (g gs : FS) (ρ : Rho) : iteO (some false) g gs ρ = gs ρ:=of_eq_true (eq_self _)
def setO (i : Nat) (ρ : Rho) (o : Option D) : Option Out:=o.map fun d => .nx (ρ.set i (.fz d))
theorem Pn (i : Nat) (f : FE) (ρ : Rho) : setF i f ρ = setO i ρ (f ρ):=of_eq_true (eq_self _)
theorem Lj (i : Nat) (ρ : Rho) (d : D) : setO i ρ (some d) = some (.nx (ρ.set i (.fz d))):=of_eq_true (eq_self _)
def retO (ρ : Rho) (o : Option D) : Option Out:=o.map fun d => .rt d ρ
theorem aJ (f : FE) (ρ : Rho) : retF f ρ = retO ρ (f ρ):=of_eq_true (eq_self _)
theorem Vi (d : D) (ρ : Rho) : retO ρ (some d) = some (.rt d ρ):=of_eq_true (eq_self _)
theorem aK (ρ : Rho) : retN ρ = some (.rt .non ρ):=of_eq_true (eq_self _)
def jk (ρ : Rho) (o : Option D) : Option Out:=o.map fun _ => .nx ρ
theorem aL (f : FE) (ρ : Rho) : GZ f ρ = jk ρ (f ρ):=of_eq_true (eq_self _)
theorem Wi (ρ : Rho) (d : D) : jk ρ (some d) = some (.nx ρ):=of_eq_true (eq_self _)
def b2 (g : D->D->Option D) (x y : Option D) : Option D:=x.bind fun x => y.bind fun y => g x y
theorem e_b (g : D->D->Option D) (fa fb : FE) (ρ : Rho) : bF g fa fb ρ = b2 g (fa ρ) (fb ρ):=of_eq_true (eq_self _)
theorem e_bs (g : D->D->Option D) (x y : D) : b2 g (some x) (some y) = g x y:=of_eq_true (eq_self _)
def b1 (g : D->Option D) (x : Option D) : Option D:=x.bind g
theorem e_u (g : D->Option D) (fa : FE) (ρ : Rho) : uF g fa ρ = b1 g (fa ρ):=of_eq_true (eq_self _)
theorem e_us (g : D->Option D) (x : D) : b1 g (some x) = g x:=of_eq_true (eq_self _)
def cl1 (g : List D->Option D) (x : Option (List D)) : Option D:=x.bind g
theorem aM (g : List D->Option D) (fs : FA) (ρ : Rho) : Ai g fs ρ = cl1 g (fs ρ):=of_eq_true (eq_self _)
theorem Wj (g : List D->Option D) (ds : List D) : cl1 g (some ds) = g ds:=of_eq_true (eq_self _)
def jl (x : Option D) (y : Option (List D)) : Option (List D):=x.bind fun d => y.map (d :: ·)
theorem Vj (fa : FE) (fs : FA) (ρ : Rho) : Ab fa fs ρ = jl (fa ρ) (fs ρ):=of_eq_true (eq_self _)
theorem Rz (d : D) (ds : List D) : jl (some d) (some ds) = some (d :: ds):=of_eq_true (eq_self _)
theorem Wk (ρ : Rho) : nilA ρ = some []:=of_eq_true (eq_self _)
def tupO (o : Option (List D)) : Option D:=o.bind fun ds => if ds.length<=sizeLine then some (.tup ds) else none
def lstO (o : Option (List D)) : Option D:=o.bind fun ds => if ds.length<=sizeLine then some (.lst ds) else none
theorem jm (fs : FA) (ρ : Rho) : tupF fs ρ = tupO (fs ρ):=of_eq_true (eq_self _)
theorem Wm (fs : FA) (ρ : Rho) : lstF fs ρ = lstO (fs ρ):=of_eq_true (eq_self _)
theorem aN : tupO (some []) = some (.tup []):=of_eq_true (eq_self _)
theorem aO (a : D) : tupO (some [a]) = some (.tup [a]):=of_eq_true (eq_self _)
theorem aP (a b : D) : tupO (some [a,b]) = some (.tup [a,b]):=of_eq_true (eq_self _)
theorem aQ (a b c : D) : tupO (some [a,b,c]) = some (.tup [a,b,c]):=of_eq_true (eq_self _)
theorem aR (a b c d : D) : tupO (some [a,b,c,d]) = some (.tup [a,b,c,d]):=of_eq_true (eq_self _)
theorem aU (a b c d e : D) : tupO (some [a,b,c,d,e]) = some (.tup [a,b,c,d,e]):=of_eq_true (eq_self _)
theorem Vk : lstO (some []) = some (.lst []):=of_eq_true (eq_self _)
theorem aV (a : D) : lstO (some [a]) = some (.lst [a]):=of_eq_true (eq_self _)
theorem aW (a b : D) : lstO (some [a,b]) = some (.lst [a,b]):=of_eq_true (eq_self _)
theorem Vl (a b c : D) : lstO (some [a,b,c]) = some (.lst [a,b,c]):=of_eq_true (eq_self _)
theorem aX (a b c d : D) : lstO (some [a,b,c,d]) = some (.lst [a,b,c,d]):=of_eq_true (eq_self _)
theorem aZ (a b c d e : D) : lstO (some [a,b,c,d,e]) = some (.lst [a,b,c,d,e]):=of_eq_true (eq_self _)
theorem aa (a b c d e f : D) : lstO (some [a,b,c,d,e,f]) = some (.lst [a,b,c,d,e,f]):=of_eq_true (eq_self _)
def blO (o : Option D) : Option Bool:=match o with | some (.bl b) => some b | _ => none
theorem e_bl (f : FE) (ρ : Rho) : blF f ρ = blO (f ρ):=of_eq_true (eq_self _)
theorem Wn (b : Bool) : blO (some (.bl b)) = some b:=of_eq_true (eq_self _)
def andO (o : Option Bool) (fb : FT) (ρ : Rho) : Option Bool:=match o with | some true => fb ρ | some false => some false | none => none
def orO (o : Option Bool) (fb : FT) (ρ : Rho) : Option Bool:=match o with | some true => some true | some false => fb ρ | none => none
theorem aj (a b : FT) (ρ : Rho) : andT a b ρ = andO (a ρ) b ρ:=of_eq_true (eq_self _)
theorem Wo (b : FT) (ρ : Rho) : andO (some true) b ρ = b ρ:=of_eq_true (eq_self _)
theorem Wq (b : FT) (ρ : Rho) : andO (some false) b ρ = some false:=of_eq_true (eq_self _)
theorem jn (a b : FT) (ρ : Rho) : orT a b ρ = orO (a ρ) b ρ:=of_eq_true (eq_self _)
theorem ak (b : FT) (ρ : Rho) : orO (some true) b ρ = some true:=of_eq_true (eq_self _)
theorem ao (b : FT) (ρ : Rho) : orO (some false) b ρ = b ρ:=of_eq_true (eq_self _)
theorem aq (a : FT) (ρ : Rho) : notT a ρ = (a ρ).map (!·):=of_eq_true (eq_self _)
def andP (o : Option D) (fb : FE) (ρ : Rho) : Option D:=match o with | some (.bl true) => fb ρ | some (.bl false) => some (.bl false) | _ => none
def orP (o : Option D) (fb : FE) (ρ : Rho) : Option D:=match o with | some (.bl true) => some (.bl true) | some (.bl false) => fb ρ | _ => none
def notP (o : Option D) : Option D:=match o with | some (.bl b) => some (.bl (!b)) | _ => none
theorem au (a b : FE) (ρ : Rho) : andF a b ρ = andP (a ρ) b ρ:=of_eq_true (eq_self _)
theorem Wr (b : FE) (ρ : Rho) : andP (some (.bl true)) b ρ = b ρ:=of_eq_true (eq_self _)
theorem Ws (b : FE) (ρ : Rho) : andP (some (.bl false)) b ρ = some (.bl false):=of_eq_true (eq_self _)
theorem jo (a b : FE) (ρ : Rho) : orF a b ρ = orP (a ρ) b ρ:=of_eq_true (eq_self _)
theorem az (b : FE) (ρ : Rho) : orP (some (.bl true)) b ρ = some (.bl true):=of_eq_true (eq_self _)
theorem a_ (b : FE) (ρ : Rho) : orP (some (.bl false)) b ρ = b ρ:=of_eq_true (eq_self _)
theorem bA (a : FE) (ρ : Rho) : notF a ρ = notP (a ρ):=of_eq_true (eq_self _)
theorem Wt (b : Bool) : notP (some (.bl b)) = some (.bl (!b)):=of_eq_true (eq_self _)
def ifP (o : Option Bool) (fa fb : FE) (ρ : Rho) : Option D:=match o with | some true => fa ρ | some false => fb ρ | none => none
theorem jq (t : FT) (a b : FE) (ρ : Rho) : ifF t a b ρ = ifP (t ρ) a b ρ:=of_eq_true (eq_self _)
theorem bB (a b : FE) (ρ : Rho) : ifP (some true) a b ρ = a ρ:=of_eq_true (eq_self _)
theorem bC (a b : FE) (ρ : Rho) : ifP (some false) a b ρ = b ρ:=of_eq_true (eq_self _)
def sl3 (f : Option D) (l h : Option (Option Int)) : Option D:=f.bind fun x => l.bind fun lo => h.bind fun hi => slD x lo hi
theorem e_sl (f : FE) (l h : FO) (ρ : Rho) : slF f l h ρ = sl3 (f ρ) (l ρ) (h ρ):=of_eq_true (eq_self _)
theorem jr (x : D) (l h : Option Int) : sl3 (some x) (some l) (some h) = slD x l h:=of_eq_true (eq_self _)
theorem jt (ρ : Rho) : noO ρ = some none:=of_eq_true (eq_self _)
def somO (o : Option D) : Option (Option Int):=match o with | some (.int i) => some (some i) | _ => none
theorem Wu (f : FE) (ρ : Rho) : someO f ρ = somO (f ρ):=of_eq_true (eq_self _)
theorem Tr (i : Int) : somO (some (.int i)) = some (some i):=of_eq_true (eq_self _)
def getO (o : Option Slot) : Option D:=match o with | some (.fz d) => some d | _ => none
def getU (o : Option Slot) : Option D:=match o with | some (.fz d) => some d | some (.ow d) => some d | _ => none
theorem e_v (i : Nat) (ρ : Rho) : vF i ρ = getO (ρ[i]?):=of_eq_true (eq_self _)
theorem e_vs (d : D) : getO (some (.fz d)) = some d:=of_eq_true (eq_self _)
theorem e_vU (i : Nat) (ρ : Rho) : vU i ρ = getU (ρ[i]?):=of_eq_true (eq_self _)
theorem ju (d : D) : getU (some (.fz d)) = some d:=of_eq_true (eq_self _)
theorem jw (d : D) : getU (some (.ow d)) = some d:=of_eq_true (eq_self _)
theorem e_k (d : D) (ρ : Rho) : kF d ρ = some d:=of_eq_true (eq_self _)
def seqO (o : Option D) : Option (List D):=match o with | some (.lst ds) => some ds | some (.tup ds) => some ds | _ => none
theorem bD (f : FE) (ρ : Rho) : seqI f ρ = seqO (f ρ):=of_eq_true (eq_self _)
theorem Wv (ds : List D) : seqO (some (.lst ds)) = some ds:=of_eq_true (eq_self _)
theorem Ww (ds : List D) : seqO (some (.tup ds)) = some ds:=of_eq_true (eq_self _)
def rngO (o : Option D) : Option (List D):=match o with | some (.int j) => if -(2 ^ 62)<=j/\j < 2 ^ 62 then some (rngD j.toNat) else none | _ => none
theorem J1 (f : FE) (ρ : Rho) : rngI f ρ = rngO (f ρ):=of_eq_true (eq_self _)
theorem Gb (j : Int) (h : -(2 ^ 62)<=j/\j < 2 ^ 62) : rngO (some (.int j)) = some (rngD j.toNat):=by
 show (if _ then _ else _) = _
 rw [if_pos h]
def forO (o : Option (List D)) (tg : FG) (b : FS) (ρ : Rho) : Option Out:=o.bind fun ds => forF (tgB tg b) ds ρ
theorem Wx (src : FI) (tg : FG) (b : FS) (ρ : Rho) : forS src tg b ρ = forO (src ρ) tg b ρ:=of_eq_true (eq_self _)
theorem R0 (ds : List D) (tg : FG) (b : FS) (ρ : Rho) : forO (some ds) tg b ρ = forF (tgB tg b) ds ρ:=of_eq_true (eq_self _)
theorem Yr (ρ : Rho) (ga : FT) (fe : FE) : Bh ρ ga fe [] = some []:=of_eq_true (eq_self _)
def ccO (o : Option Bool) (e : Option D) (r : Option (List D)) : Option (List D):=match o with | some true => e.bind fun y => r.map (y :: ·) | some false => r | none => none
theorem CN (ρ : Rho) (ga : FT) (fe : FE) (d : D) (r : List D) : Bh ρ ga fe (d :: r) = ccO (ga (ρ ++ [.fz d])) (fe (ρ ++ [.fz d])) (Bh ρ ga fe r):=of_eq_true (eq_self _)
theorem p6 (y : D) (r : List D) : ccO (some true) (some y) (some r) = some (y :: r):=of_eq_true (eq_self _)
theorem jz (y : Option D) (r : Option (List D)) : ccO (some false) y r = r:=of_eq_true (eq_self _)
theorem K5 (ρ : Rho) : allT ρ = some true:=of_eq_true (eq_self _)
def runO (o : Option Out) : Option D:=match o with | some (.rt d _) => some d | some (.nx _) => some .non | _ => none
theorem Wy {n np : Nat} {b : FS} {ds : List D} (h : ds.length = np) : runF n np b ds = runO (b (Fb n ds)):=by
 unfold runF; rw [if_pos h]; rfl
theorem Vm (d : D) (ρ : Rho) : runO (some (.rt d ρ)) = some d:=of_eq_true (eq_self _)
theorem bG (ρ : Rho) : runO (some (.nx ρ)) = some .non:=of_eq_true (eq_self _)
theorem RD {α β : Type} (f : α->β) (x : α) : Option.map f (some x) = some (f x):=of_eq_true (eq_self _)
theorem bH {α β : Type} (f : α->Option β) (x : α) : Option.bind (some x) f = f x:=of_eq_true (eq_self _)
theorem Mf (n : Nat) (ds : List D) : Fb n ds = ds.map .fz ++ List.replicate (n - ds.length) .un:=of_eq_true (eq_self _)
theorem truB (b : Bool) : truD (.bl b) = some b:=of_eq_true (eq_self _)
theorem Ig {α : Type} (l : List α) (k : Nat) : atI l (k : Int) = l[k]?:=by
 unfold atI ixN
 rw [if_pos (by omega)]
 by_cases h : k < l.length
 ·rw [if_pos (by omega)]
  simp
 ·rw [if_neg (by omega),List.getElem?_eq_none (by omega)]
  rfl
theorem ix0 (x : D) (r : List D) : ixD (.lst (x :: r)) (.int 0) = some x:=Ig _ 0
theorem ix1 (x y : D) (r : List D) : ixD (.lst (x :: y :: r)) (.int 1) = some y:=Ig _ 1
theorem ix2 (x y z : D) (r : List D) : ixD (.lst (x :: y :: z :: r)) (.int 2) = some z:=Ig _ 2
theorem ixt0 (x : D) (r : List D) : ixD (.tup (x :: r)) (.int 0) = some x:=Ig _ 0
theorem ixt1 (x y : D) (r : List D) : ixD (.tup (x :: y :: r)) (.int 1) = some y:=Ig _ 1
theorem ixt2 (x y z : D) (r : List D) : ixD (.tup (x :: y :: z :: r)) (.int 2) = some z:=Ig _ 2
theorem ixt3 (x y z w : D) (r : List D) : ixD (.tup (x :: y :: z :: w :: r)) (.int 3) = some w:=Ig _ 3
theorem e_tr (f : FE) (ρ : Rho) : trF f ρ = (f ρ).bind truD:=of_eq_true (eq_self _)
theorem R1 : ∀ {out : List D} {P : Str->Prop},(∀ y ∈ out,∃ x,y = D.str x/\P x)->∃ ws : List Str,out = ws.map .str/\ws.length = out.length/\∀ x ∈ ws,P x
 | [],_,_ => ⟨[],rfl,rfl,by simp⟩
 | y :: r,P,h => by
  obtain ⟨x,rfl,px⟩:=h y List.mem_cons_self
  obtain ⟨ws,e,hl,hp⟩:=R1 (out:=r) (P:=P) fun y hy => h y (List.mem_cons_of_mem _ hy)
  exact ⟨x :: ws,by rw [e]; rfl,by simp [hl],fun z hz => by rcases List.mem_cons.mp hz with rfl | hz; exact px; exact hp z hz⟩
theorem Wz {src : FI} {fe : FE} {ρ : Rho} {ds : List D} {P : D->Prop} (h : src ρ = some ds) (hz : ds.length<=10000000) (hh : ∀ d ∈ ds,∃ y,fe (ρ ++ [.fz d]) = some y/\P y) : ∃ out,Av src allT fe ρ = some (.lst out)/\out.length = ds.length/\∀ y ∈ out,P y:=by
 obtain ⟨out,h1,h2,h3⟩:=Tq hh
 exact ⟨out,Fe h hz h1,h2,h3⟩
theorem RG {ρ : Rho} {ga : FT} {fe : FE} {P : D->Prop} : ∀ {ds : List D},(∀ d ∈ ds,∃ b,ga (ρ ++ [.fz d]) = some b/\∃ y,fe (ρ ++ [.fz d]) = some y/\P y)->∃ out,Bh ρ ga fe ds = some out/\out.length<=ds.length/\∀ y ∈ out,P y
 | [],_ => ⟨[],rfl,Nat.le_refl _,by simp⟩
 | d :: r,hh => by
  obtain ⟨b,hb,y,hy,py⟩:=hh d List.mem_cons_self
  obtain ⟨out,h1,h2,h3⟩:=RG (ds:=r) fun d' hd => hh d' (List.mem_cons_of_mem _ hd)
  cases b with
  | true =>
   refine ⟨y :: out,?_,by simp [h2],fun z hz => ?_⟩
   ·unfold Bh
    rw [hb,hy,h1]
    rfl
   ·rcases List.mem_cons.mp hz with rfl | hz
    ·exact py
    ·exact h3 z hz
  | false =>
   refine ⟨out,?_,by simp; omega,h3⟩
   unfold Bh
   rw [hb,h1]
theorem bI {src : FI} {ga : FT} {fe : FE} {ρ : Rho} {ds : List D} {P : D->Prop} (h : src ρ = some ds) (hz : ds.length<=10000000) (hh : ∀ d ∈ ds,∃ b,ga (ρ ++ [.fz d]) = some b/\∃ y,fe (ρ ++ [.fz d]) = some y/\P y) : ∃ out,Av src ga fe ρ = some (.lst out)/\out.length<=ds.length/\∀ y ∈ out,P y:=by
 obtain ⟨out,h1,h2,h3⟩:=RG hh
 exact ⟨out,Fe h hz h1,h2,h3⟩
theorem gJ (z : Str) (n j : Int) (hn : n = z.length) (h0 : 0 < z.length) (h1 : z.length<=10000000) : ∃ c,c ∈ z.cps.toList/\ixD (.str z) (.int (j % n)) = some (.str ⟨#[c]⟩):=by
 obtain ⟨c,hc,e⟩:=Wg (xs:=z.cps.toList) j n (by simpa [Str.length] using hn) (fun q => by
  have e : z.cps.toList.length = 0:=by rw [q]; rfl
  have e2 : z.length = z.cps.toList.length:=by simp [Str.length]
  omega)
 refine ⟨c,hc,?_⟩
 have : ixD (.str z) (.int (j % n)) = if z.length<=sizeLine then (atI z.cps.toList (j % n)).map (fun c => D.str ⟨#[c]⟩) else none:=rfl
 rw [this,if_pos (HD h1),e]
 rfl
theorem DN (x y : Str) : (x ++ y).length = x.length + y.length:=by
 show (x.cps ++ y.cps).size = _
 simp [Str.length]
theorem sl_s (z : Str) (lo hi : Option Int) (h : z.length<=10000000) : slD (.str z) lo hi = some (.str (cutS z lo hi)):=by
 show (if z.length<=sizeLine then some (D.str (cutS z lo hi)) else none) = _
 rw [if_pos (HD h)]
theorem j5 (z : Str) (h : z.length<=10000000) : lenD (.str z) = some (.int z.length):=by
 show (if z.length<=sizeLine then some (D.int z.length) else none) = _
 rw [if_pos (HD h)]
theorem W0 (l : List D) : lenD (.lst l) = some (.int l.length):=of_eq_true (eq_self _)
theorem W3 (x : Str) (ys : List Str) : inD false (.str x) (.lst (ys.map .str)) = some (.bl (ys.any (fun y => y == x))):=by
 have h : ∀ ys : List Str,flVs (ys.map .str) = some (ys.map V.str):=fun ys => by
  induction ys with
  | nil => rfl
  | cons y r ih => simp [flVs,flV,ih]
 show ((flV (.str x)).bind fun v => (flVs (ys.map .str)).map fun vs => D.bl (inV v vs)) = _
 rw [h]
 show some (D.bl (inV (.str x) (ys.map V.str))) = _
 simp [inV,List.any_map,Function.comp_def,eqV]
theorem Bs (n : Nat) : (rngD n).length = n:=by simp [rngD]
theorem Tt {n : Nat} {d : D} (h : d ∈ rngD n) : ∃ k : Nat,k < n/\d = .int k:=by
 obtain ⟨k,hk,rfl⟩:=List.mem_map.mp h
 exact ⟨k,List.mem_range.mp hk,rfl⟩
theorem Nq (ys : List Str) : G3 (ys.map .str) = some ys:=by
 induction ys with
 | nil => rfl
 | cons y r ih => simp [G3,ih]
def j6 (i : Nat) (ρ : Rho) (o : Option D) : Option Out:=o.map fun d => .nx (ρ.set i (.ow d))
theorem Ff (i : Nat) (f : FE) (ρ : Rho) : setW i f ρ = j6 i ρ (f ρ):=of_eq_true (eq_self _)
theorem Dj (i : Nat) (ρ : Rho) (d : D) : j6 i ρ (some d) = some (.nx (ρ.set i (.ow d))):=of_eq_true (eq_self _)
def mutO (g : D->D->Option D) (i : Nat) (ρ : Rho) (x v : Option D) : Option Out:=v.bind fun v => x.bind fun x => (g x v).map fun y => .nx (ρ.set i (.ow y))
def getW (o : Option Slot) : Option D:=match o with | some (.ow d) => some d | _ => none
theorem Mg (g : D->D->Option D) (i : Nat) (f : FE) (ρ : Rho) : mutF g i f ρ = mutO g i ρ (getW ρ[i]?) (f ρ):=of_eq_true (eq_self _)
theorem JX (g : D->D->Option D) (i : Nat) (ρ : Rho) (x v : D) : mutO g i ρ (some x) (some v) = (g x v).map fun y => .nx (ρ.set i (.ow y)):=of_eq_true (eq_self _)
theorem Cm (d : D) : getW (some (.ow d)) = some d:=of_eq_true (eq_self _)
def forB (o : Option Out) (b : D->FS) (r : List D) : Option Out:=match o with
  | some (.nx ρ') => forF b r ρ'
  | some (.ct ρ') => forF b r ρ'
  | some (.bk ρ') => some (.nx ρ')
  | some (.rt e ρ') => some (.rt e ρ')
  | none => none
theorem HX (b : D->FS) (ρ : Rho) : forF b [] ρ = some (.nx ρ):=of_eq_true (eq_self _)
theorem Bl (b : D->FS) (d : D) (r : List D) (ρ : Rho) : forF b (d :: r) ρ = forB (b d ρ) b r:=of_eq_true (eq_self _)
theorem DP (b : D->FS) (r : List D) (ρ : Rho) : forB (some (.nx ρ)) b r = forF b r ρ:=of_eq_true (eq_self _)
theorem W4 (b : D->FS) (r : List D) (ρ : Rho) : forB (some (.ct ρ)) b r = forF b r ρ:=of_eq_true (eq_self _)
theorem W5 (b : D->FS) (r : List D) (ρ : Rho) : forB (some (.bk ρ)) b r = some (.nx ρ):=of_eq_true (eq_self _)
theorem W6 (b : D->FS) (r : List D) (d : D) (ρ : Rho) : forB (some (.rt d ρ)) b r = some (.rt d ρ):=of_eq_true (eq_self _)
def bndO (o : Option Rho) (b : FS) : Option Out:=o.bind b
theorem e_tg (tg : FG) (b : FS) (d : D) (ρ : Rho) : tgB tg b d ρ = bndO (tg d ρ) b:=of_eq_true (eq_self _)
theorem Fg (ρ : Rho) (b : FS) : bndO (some ρ) b = b ρ:=of_eq_true (eq_self _)
theorem Dl (i : Nat) (d : D) (ρ : Rho) : BW i d ρ = some (ρ.set i (.fz d)):=of_eq_true (eq_self _)
end PV
namespace PV
open PySem L2
theorem JZ (a : Str) : ltS a a = false:=by
 unfold ltS
 exact decide_eq_false (List.lt_irrefl _)
theorem Nr {a b c : Str} (h1 : ltS a b = true) (h2 : ltS b c = true) : ltS a c = true:=by
 unfold ltS at *
 exact decide_eq_true (List.lt_trans (of_decide_eq_true h1) (of_decide_eq_true h2))
theorem W7 {a b : Str} (h1 : ltS a b = false) (h2 : a ≠ b) : ltS b a = true:=by
 unfold ltS at *
 have h1':=of_decide_eq_false h1
 have h3 : b.cps.toList<=a.cps.toList:=List.not_lt.mp h1'
 rcases Decidable.em (b.cps.toList < a.cps.toList) with h | h
 ·exact decide_eq_true h
 ·exfalso
  have h4 : a.cps.toList<=b.cps.toList:=List.not_lt.mp h
  have e : a.cps.toList = b.cps.toList:=List.le_antisymm h4 h3
  apply h2
  cases a; cases b
  simp at e
  rw [e]
def Up (l : List Str) : Prop:=l.Pairwise fun a b => ltS a b = true
theorem Pq (x y : Str) : ∀ l : List Str,y ∈ insS x l ↔ y = x ∨ y ∈ l
 | [] => by simp [insS]
 | z :: r => by
  unfold insS
  split
  ·simp
  ·split
   ·rename_i _ e; subst e; simp
   ·simp [Pq x y r]
    constructor
    ·rintro (h | h | h)
     ·exact .inr (.inl h)
     ·exact .inl h
     ·exact .inr (.inr h)
    ·rintro (h | h | h)
     ·exact .inr (.inl h)
     ·exact .inl h
     ·exact .inr (.inr h)
theorem W8 (x : Str) : ∀ {l : List Str},Up l->Up (insS x l)
 | [],_ => by simp [insS,Up]
 | z :: r,h => by
  obtain ⟨h1,h2⟩:=List.pairwise_cons.mp h
  unfold insS
  split
  ·rename_i hlt
   exact List.pairwise_cons.mpr ⟨fun y hy => by
    rcases List.mem_cons.mp hy with rfl | hy
    ·exact hlt
    ·exact Nr hlt (h1 y hy),h⟩
  ·rename_i hn
   split
   ·exact h
   ·rename_i hne
    refine List.pairwise_cons.mpr ⟨fun y hy => ?_,W8 x h2⟩
    rcases (Pq x y r).mp hy with rfl | hy
    ·exact W7 (by simpa using hn) hne
    ·exact h1 y hy
theorem JC (l : List Str) : Up (CZ l):=by
 unfold CZ
 induction l with
 | nil => exact List.Pairwise.nil
 | cons x r ih => exact W8 x ih
theorem Dd (y : Str) (l : List Str) : y ∈ CZ l ↔ y ∈ l:=by
 unfold CZ
 induction l with
 | nil => simp
 | cons x r ih => rw [List.foldr_cons,Pq,ih]; simp
theorem Mh {l : List Str} (h : Up l) : l.Nodup:=h.imp fun {a b} hab e => by
 subst e; rw [JZ] at hab; cases hab
theorem sub_len : ∀ {l m : List Str},l.Nodup->(∀ x ∈ l,x ∈ m)->l.length<=m.length
 | [],_,_,_ => Nat.zero_le _
 | x :: r,m,h,hs => by
  obtain ⟨h1,h2⟩:=List.nodup_cons.mp h
  have hx : x ∈ m:=hs x List.mem_cons_self
  have:=sub_len (l:=r) (m:=m.erase x) h2 fun y hy => (List.mem_erase_of_ne (fun e => by subst e; exact h1 hy)).mpr (hs y (List.mem_cons_of_mem _ hy))
  rw [List.length_erase_of_mem hx] at this
  have hp : 0 < m.length:=List.length_pos_of_mem hx
  simp; omega
theorem Vn : ∀ {l m : List Str},Up l->Up m->(∀ x,x ∈ l ↔ x ∈ m)->l = m
 | [],[],_,_,_ => rfl
 | [],y :: s,_,_,h => by have:=(h y).mpr List.mem_cons_self; simp at this
 | x :: r,[],_,_,h => by have:=(h x).mp List.mem_cons_self; simp at this
 | x :: r,y :: s,h1,h2,h => by
  obtain ⟨a1,a2⟩:=List.pairwise_cons.mp h1
  obtain ⟨b1,b2⟩:=List.pairwise_cons.mp h2
  have e : x = y:=by
   rcases List.mem_cons.mp ((h x).mp List.mem_cons_self) with e | hx
   ·exact e
   ·rcases List.mem_cons.mp ((h y).mpr List.mem_cons_self) with e | hy
    ·exact e.symm
    ·have:=Nr (a1 y hy) (b1 x hx)
     rw [JZ] at this; cases this
  subst e
  have : r = s:=Vn a2 b2 fun z => by
   constructor
   ·intro hz
    rcases List.mem_cons.mp ((h z).mp (List.mem_cons_of_mem _ hz)) with e | q
    ·subst e; have:=a1 z hz; rw [JZ] at this; cases this
    ·exact q
   ·intro hz
    rcases List.mem_cons.mp ((h z).mpr (List.mem_cons_of_mem _ hz)) with e | q
    ·subst e; have:=b1 z hz; rw [JZ] at this; cases this
    ·exact q
  rw [this]
theorem ss_l {xs : List Str} (h : xs.length<=1000) (h2 : (CZ xs).length<=60) : ssD (.lst (xs.map .str)) = some (.lst ((CZ xs).map .str)):=by
 show (G3 (xs.map .str)).bind _ = _
 rw [Nq]
 show (if _ then _ else _) = _
 rw [if_pos ⟨h,h2⟩]
theorem ss_t {xs : List Str} (h : xs.length<=1000) (h2 : (CZ xs).length<=60) : ssD (.tup (xs.map .str)) = some (.lst ((CZ xs).map .str)):=by
 show (G3 (xs.map .str)).bind _ = _
 rw [Nq]
 show (if _ then _ else _) = _
 rw [if_pos ⟨h,h2⟩]
end PV
namespace PV
open PySem L2
abbrev FZ:=Rho->Option (D × Rho)
abbrev FZA:=Rho->Option (List D × Rho)
end PV
namespace L2
open PySem PySem.Spec PyProof.Rows
def clOf (cells : List (Str × Addr)) : List (Str × NameKind)->List (Str × Addr)->List (Str × Addr)
 | [],cs => cs
 | y :: r,cs => if y.2 == .free then clOf cells r ((y.1,(cells.lookup y.1).getD 0) :: cs) else clOf cells r cs
theorem Pr {cells : List (Str × Addr)} {x : Str} {c : Addr} : ∀ {names : List (Str × NameKind)} {cs : List (Str × Addr)},(∀ y ∈ names,y.2 = .free->∃ c,cells.lookup y.1 = some c) ->
  (clOf cells names cs).lookup x = some c->cs.lookup x = some c ∨ cells.lookup x = some c
 | [],_,_,h => .inl h
 | y :: r,cs,hf,h => by
  unfold clOf at h
  split at h
  ·rename_i hk
   have hk' : y.2 = .free:=by simpa using hk
   obtain ⟨c',hc⟩:=hf y List.mem_cons_self hk'
   rcases Pr (fun z hz => hf z (List.mem_cons_of_mem _ hz)) h with q | q
   ·rw [List.lookup_cons] at q
    split at q
    ·rename_i e
     have e' : x = y.1:=by simpa using e
     rw [hc] at q
     subst e'
     right
     rw [hc]; simpa using q
    ·exact .inl q
   ·exact .inr q
  ·exact Pr (fun z hz => hf z (List.mem_cons_of_mem _ hz)) h
theorem Nu {cells : List (Str × Addr)} {x : Str} : ∀ {names : List (Str × NameKind)} {cs : List (Str × Addr)},(∃ c,cs.lookup x = some c)->∃ c,(clOf cells names cs).lookup x = some c
 | [],_,h => h
 | y :: r,cs,h => by
  unfold clOf
  split
  ·apply Nu
   rw [List.lookup_cons]
   split
   ·exact ⟨_,rfl⟩
   ·exact h
  ·exact Nu h
theorem J2 {cells : List (Str × Addr)} {x : Str} : ∀ {names : List (Str × NameKind)} {cs : List (Str × Addr)},(x,NameKind.free) ∈ names->∃ c,(clOf cells names cs).lookup x = some c
 | [],_,h => by cases h
 | y :: r,cs,h => by
  unfold clOf
  rcases List.mem_cons.mp h with e | h
  ·subst e
   rw [if_pos (by rfl)]
   apply Nu
   rw [List.lookup_cons]
   simp
  ·split
   ·exact J2 h
   ·exact J2 h
theorem W9 {env : Env} : ∀ (names : List (Str × NameKind)) (cs : List (Str × Addr)),(∀ y ∈ names,y.2 = .free->∃ c,env.cells.lookup y.1 = some c) ->
  (forIn names cs (fun x r => match x with
   | (name,kind) => if (kind == NameKind.free) = true then do let a <-cellOf env name; pure (ForInStep.yield ((name,a) :: r)) else pure (ForInStep.yield r)) : Sem (List (Str × Addr))) = pure (clOf env.cells names cs)
 | [],_,_ => rfl
 | (n,k) :: r,cs,hf => by
  have ih:=fun cs => W9 r cs (fun z hz => hf z (List.mem_cons_of_mem _ hz))
  rw [List.forIn_cons]
  by_cases hk : (k == NameKind.free) = true
  ·obtain ⟨c,hc⟩:=hf (n,k) List.mem_cons_self (by simpa using hk)
   have hc' : env.cells.lookup n = some c:=hc
   have e : cellOf env n = pure c:=by unfold cellOf; rw [hc']
   simp only [hk,if_true,e]
   show (forIn r ((n,c) :: cs) _ : Sem _) = _
   rw [ih]
   conv => rhs; unfold clOf
   simp only [hk,if_true,hc',Option.getD_some]
  ·simp only [hk,if_false]
   show (forIn r cs _ : Sem _) = _
   rw [ih]
   conv => rhs; unfold clOf
   simp only [hk,if_false]
   rfl
theorem K6 {scope : Scope} {env : Env} (hf : ∀ y ∈ scope.names,y.2 = .free->∃ c,env.cells.lookup y.1 = some c) : closureFor scope env = pure (clOf env.cells scope.names []):=by
 have h:=W9 (env:=env) scope.names [] hf
 unfold closureFor
 show ((forIn scope.names [] _ : Sem _) >>= fun r => pure r) = _
 exact (congrArg (fun m => m >>= fun r => pure r) h)
theorem Fi {env : Env} {x : Str} {k : NameKind} : ∀ {names : List (Str × NameKind)},(names.map fun (n,k) => if (k == NameKind.free && env.scope.kind == .function && env.kindOf n == some .cell) then (n,NameKind.cell) else (n,k)).lookup x = some k ->
  ∃ k',(x,k') ∈ names/\(k' = k ∨ (k' = .free/\k = .cell))
 | [],h => by simp at h
 | (n,k0) :: r,h => by
  rw [List.map_cons] at h
  have ih:=@Fi env x k r
  by_cases hc : (k0 == NameKind.free && env.scope.kind == .function && env.kindOf n == some .cell) = true
  ·simp only [hc,if_true] at h
   rw [List.lookup_cons] at h
   split at h
   ·rename_i e
    have e' : x = n:=by simpa using e
    subst e'
    have hk0 : k0 = .free:=by
     rw [Bool.and_eq_true,Bool.and_eq_true] at hc
     simpa using hc.1.1
    cases h
    exact ⟨k0,List.mem_cons_self,.inr ⟨hk0,rfl⟩⟩
   ·obtain ⟨k',h1,h2⟩:=ih h
    exact ⟨k',List.mem_cons_of_mem _ h1,h2⟩
  ·simp only [hc,if_false] at h
   rw [List.lookup_cons] at h
   split at h
   ·rename_i e
    have e' : x = n:=by simpa using e
    subst e'
    cases h
    exact ⟨k0,List.mem_cons_self,.inl rfl⟩
   ·obtain ⟨k',h1,h2⟩:=ih h
    exact ⟨k',List.mem_cons_of_mem _ h1,h2⟩
def Bm (t : Str) (N : List Str) : List Str:=N.map fun y => if y = t then Str.empty else y
def Ex (X : Cx) (scope : Scope) (t : Str) (s2 : Shared) (H2 : Hp) (fp : List Addr) : Cx:=
 { X with N:=Bm t X.N ++ [t],s₀:=s2,H₀:=H2,env:=compEnvC scope (clOf X.env.cells scope.names []) (s2.heap.objs.size + 1) X.env,outer:=X.stack,ex:=fp,fn:=fun _ => false,pn:=[],xe:=fun _ _ => False }
structure CompOk (X : Cx) (scope : Scope) (t : Str) : Prop where
 nocell : ∀ y ∈ scope.names,y.2 ≠ .cell
 kind : scope.kind = .function
 names : ∀ y ∈ scope.names,y.2 = .local->scope.names.lookup y.1 = some .local
 tl : scope.names.lookup t = some .local
 loc : ∀ y ∈ scope.names,y.2 = .local->y.1 = t ∨ y.1 ∉ X.N
 fre : ∀ y ∈ scope.names,y.2 = .free->X.env.kindOf y.1 = some .cell ∨ X.env.kindOf y.1 = some .free
 emp : ∀ y ∈ scope.names,y.1 ≠ Str.empty
 nd : (Bm t X.N ++ [t]).Nodup
section
variable {X : Cx} {scope : Scope} {t : Str}
theorem CompOk.cells (c : CompOk X scope t) (ok : X.Ok) : ∀ y ∈ scope.names,y.2 = .free->∃ c,X.env.cells.lookup y.1 = some c:=fun y hy hf => ok.has y.1 (c.fre y hy hf)
theorem CompOk.sub (c : CompOk X scope t) (ok : X.Ok) {x : Str} {a : Addr} (h : (clOf X.env.cells scope.names []).lookup x = some a) : X.env.cells.lookup x = some a:=by
 rcases Pr (c.cells ok) h with q | q
 ·simp at q
 ·exact q
theorem CompOk.inv {pins : List (Addr × Obj)} {σ : St} {H : Hp} {s : Shared} {fp : List Addr} {h1 : Heap} {tk : Nat} (c : CompOk X scope t) (I : Inv X pins σ H s) (hf : ∀ b ∈ fp,FpOk X pins H b) (ho : ∀ b ∈ fp,∃ o,s.heap.get? b = some o)
  (hns : h1.Ns (s.heap.objs.size + 1) (fun _ => none)) (kp : ∀ b o,s.heap.get? b = some o->h1.get? b = some o) (hacc : h1.get? s.heap.objs.size = some { cls:=.type "list",data:=.seq #[] }) :
  Inv (Ex X scope t s H fp) [] (σ ++ [none]) (upd H s.heap.objs.size (.lst [])) { s with heap:=h1,toks:=tk }:=by
 have lt_of : ∀ b o,s.heap.get? b = some o->b < s.heap.objs.size:=fun b o e => Heap.lt_size e
 have ok' : (Ex X scope t s H fp).Ok:=by
  refine ⟨I.ok.mod,c.kind,I.ok.glob,I.ok.blt,Nat.le_succ _,fun x y a h1 h2 => I.ok.inj x y a (c.sub I.ok h1) (c.sub I.ok h2),fun x hx => ?_,fun x a h _ => absurd (show false = true from h) Bool.false_ne_true,I.ok.hd,I.ok.frames,.inl rfl,fun b hb => ⟨?_,fun x a h => ?_⟩,I.bs,Nat.le_trans I.ok.bsz I.sz,fun b o e hb => ?_,fun b hb hs => ?_,I.stack,I.stkFree⟩
  ·have hx' : (relabel scope X.env).names.lookup x = some .cell ∨ (relabel scope X.env).names.lookup x = some .free:=hx
   have go : ∀ k,(relabel scope X.env).names.lookup x = some k->(k = .cell ∨ k = .free)->(x,NameKind.free) ∈ scope.names:=fun k hk hkk => by
    obtain ⟨k',m,e⟩:=Fi hk
    rcases e with e | ⟨e,_⟩
    ·subst e
     rcases hkk with z | z
     ·exact absurd z (c.nocell _ m)
     ·rw [<-z]; exact m
    ·rw [<-e]; exact m
   rcases hx' with h | h
   ·exact J2 (go _ h (.inl rfl))
   ·exact J2 (go _ h (.inr rfl))
  ·obtain ⟨o,e⟩:=ho b hb
   exact Nat.ne_of_lt (Nat.lt_succ_of_lt (lt_of b o e))
  ·exact (hf b hb).2.2.2.2.1 x a (c.sub I.ok h)
  ·rcases (hf b hb).2.2.2.1 with z | z
   ·exact I.ok.noex b o e z
   ·exact absurd (Nat.lt_of_lt_of_le (Heap.lt_size e) (Nat.le_trans I.ok.bsz z)) (Nat.lt_irrefl _)
  ·rcases List.mem_cons.mp (I.stkSub b hs) with z | z
   ·exact (hf b hb).2.1 z
   ·exact (hf b hb).2.2.1 z
 have fr : H s.heap.objs.size = none:=I.hok.fresh (Nat.le_refl _)
 have new : Bj X.prog X.w (upd H s.heap.objs.size (.lst [])) h1 s.heap.objs.size (.lst []):=⟨Nat.zero_le _,[],0,.nil,hacc⟩
 refine ⟨ok',rfl,I.bare,Un.laid kp (Nat.le_refl _) fr,⟨_,hns,fun i x v e1 e2 e3 => ?_⟩,fun x a h => ?_,?_,fun x a h => ?_,fun p hp => absurd (show p ∈ ([] : List (Addr × Obj)) from hp) (by simp),I.hok.laid kp (Nat.le_refl _) new,?_⟩
 ·have e1' : (Bm t X.N ++ [t])[i]? = some x:=e1
  have hil : i < σ.length:=by
   by_cases z : i < σ.length
   ·exact z
   ·rw [List.getElem?_append_right (by omega)] at e2
    cases q : i - σ.length with
    | zero => rw [q] at e2; cases e2
    | succ n => rw [q] at e2; simp at e2
  have e2' : σ[i]? = some (some v):=by rw [List.getElem?_append_left hil] at e2; exact e2
  have hN : i < X.N.length:=by rw [<-I.len]; exact hil
  have e1'' : (Bm t X.N)[i]? = some x:=by rw [List.getElem?_append_left (by unfold Bm; rw [List.length_map]; exact hN)] at e1'; exact e1'
  unfold Bm at e1''
  rw [List.getElem?_map] at e1''
  have e3' : (relabel scope X.env).names.lookup x = some .local ∨ (relabel scope X.env).names.lookup x = some .cell ∨ (relabel scope X.env).names.lookup x = some .free:=e3
  have hin : ∃ k',(x,k') ∈ scope.names/\(k' = .local ∨ k' = .free)/\(k' = .free->(relabel scope X.env).names.lookup x = some .cell ∨ (relabel scope X.env).names.lookup x = some .free):=by
   rcases e3' with z | z | z
   ·obtain ⟨k',m,e⟩:=Fi z
    rcases e with e | ⟨_,e⟩
    ·exact ⟨k',m,.inl e,fun q => by rw [q] at e; cases e⟩
    ·cases e
   ·obtain ⟨k',m,e⟩:=Fi z
    rcases e with e | ⟨e,_⟩
    ·exact absurd e (c.nocell _ m)
    ·exact ⟨k',m,.inr e,fun _ => .inl z⟩
   ·obtain ⟨k',m,e⟩:=Fi z
    rcases e with e | ⟨e,q⟩
    ·exact ⟨k',m,.inr e,fun _ => .inr z⟩
    ·cases q
  cases ey : X.N[i]? with
  | none => rw [ey] at e1''; cases e1''
  | some y =>
   rw [ey] at e1''
   have e1z : (if y = t then Str.empty else y) = x:=Option.some.inj e1''
   obtain ⟨k',m,hk',hfr⟩:=hin
   by_cases hyt : y = t
   ·rw [if_pos hyt] at e1z
    exact absurd e1z.symm (c.emp _ m)
   ·rw [if_neg hyt] at e1z
    subst e1z
    rcases hk' with hk' | hk'
    ·rcases c.loc _ m hk' with z | z
     ·exact absurd z hyt
     ·exact absurd (List.mem_of_getElem? ey) z
    ·have hkk:=c.fre _ m hk'
     have hkk' : X.env.kindOf y = some .cell ∨ X.env.kindOf y = some .free:=hkk
     obtain ⟨mm,hn,hl⟩:=I.loc
     have hv : Vis X.env.scope y:=by
      rcases hkk' with z | z
      ·exact .inr (.inl z)
      ·exact .inr (.inr z)
     obtain ⟨u,r,l⟩:=hl i y v ey e2' hv
     refine ⟨u,r,.inr ⟨hfr hk',?_⟩⟩
     rcases l with ⟨kl,_⟩ | ⟨_,a,ea,hc⟩
     ·rcases hkk' with z | z
      ·rw [kl] at z; cases z
      ·rw [kl] at z; cases z
     ·rw [hk'] at m
      obtain ⟨a',ha'⟩:=J2 (cells:=X.env.cells) (cs:=[]) m
      refine ⟨a',ha',?_⟩
      have:=c.sub I.ok ha'
      rw [ea] at this
      cases this
      obtain ⟨o,e,d⟩:=hc
      exact ⟨o,kp _ _ e,d⟩
 ·obtain ⟨v,o,e,d⟩:=I.cell x a (c.sub I.ok h)
  exact ⟨v,o,kp _ _ e,d⟩
 ·show upd H s.heap.objs.size (.lst []) (s.heap.objs.size + 1) = none
  rw [Al (Nat.succ_ne_self _)]
  exact I.hok.fresh (Nat.le_succ _)
 ·have ha:=c.sub I.ok h
  obtain ⟨v,o,e,d⟩:=I.cell x a ha
  rw [Al (Nat.ne_of_lt (lt_of _ _ e))]
  exact I.freeC x a ha
 ·show (σ ++ [none]).length = (Bm t X.N ++ [t]).length
  unfold Bm
  rw [List.length_append,List.length_append,List.length_map,I.len]
  rfl
def W_ (wi : TI) (tc : TT) (te : TE) : TE:=fun σ H Q => wi σ H fun J H1 => ∀ p,H1 p = none->∃ W : Nat->Nat->List V->Hp->Prop,(∃ m,W 0 m [] (upd H1 p (.lst []))) ∧
 ∀ i m ys H,W i m ys H->(J.stop i H/\Q (.ref p) H) ∨ (J.go i H/\∀ x H',J.yld i H x H'->tc (σ ++ [some x]) H' fun b H2 =>
  if b = true then te (σ ++ [some x]) H2 fun y H3 => H3 p = some (.lst ys)/\ys.length < sizeLine/\∃ m',m' < m/\W (i + 1) m' (ys ++ [y]) (upd H3 p (.lst (ys ++ [y]))) else ∃ m',m' < m/\W (i + 1) m' ys H2)
def PTs (X : Cx) (ifs : List Expr) (tc : TT) : Prop:=
 ∀ (pins : List (Addr × Obj)) (s : Shared) (σ : St) (H : Hp) (Q : Bool->Hp->Prop),Inv X pins σ H s->tc σ H Q ->
  wpAny (model X.prog X.w) X.A (forIn ifs true fun c r => if r = true then do let ok <-isTrue c X.env (eval c X.env); pure (ForInStep.yield ok) else pure (ForInStep.yield r)) (TP X pins σ Q) X.xe s
theorem gK : PTs X [] (fun _ H Q => Q true H):=fun _ _ _ H _ I h => wpAny_tests_nil ⟨H,I,h⟩
theorem gM {e : Expr} {tc : TT} (h : PT X e tc) : PTs X [e] tc:=fun pins s σ H Q I q => wpAny_tests_one (h pins s σ H Q I q)
variable {elt iter : Expr} {ifs : List Expr} {px pos : Pos} {wi : TI} {tc : TT} {te : TE}
theorem Pu {pins : List (Addr × Obj)} {s : Shared} {σ : St} {H : Hp} {Q : VK} {it : Addr} {fp : List Addr} {tn : Nat->Heap->Prop} {J : It} {E : Value->Shared->Prop} {RR : Value->Addr->Result->Shared->Prop} (c : CompOk X scope t) (hc : X.calm = true)
    (I : Inv X pins σ H s) (T : Turn X.prog X.w X.K (.Name t px) J fp it tn) (st0 : tn 0 s.heap) (hf : ∀ b ∈ fp,FpOk X pins H b)
    (hI : ∀ s2 H2 fp,PTs (Ex X scope t s2 H2 fp) ifs tc) (hE : ∀ s2 H2 fp,PE (Ex X scope t s2 H2 fp) elt te)
    (h : ∀ p,H p = none->∃ W : Nat->Nat->List V->Hp->Prop,(∃ m,W 0 m [] (upd H p (.lst []))) ∧
      ∀ i m ys H,W i m ys H->(J.stop i H/\Q (.ref p) H) ∨ (J.go i H/\∀ x H',J.yld i H x H'->tc (σ ++ [some x]) H' fun b H2 =>
        if b = true then te (σ ++ [some x]) H2 fun y H3 => H3 p = some (.lst ys)/\ys.length < sizeLine/\∃ m',m' < m/\W (i + 1) m' (ys ++ [y]) (upd H3 p (.lst (ys ++ [y]))) else ∃ m',m' < m/\W (i + 1) m' ys H2))
    (hRR : ∀ p C s' H' m,Inv X pins σ H' s'->H' C = none->C ≠ X.env.locals->X.s₀.heap.objs.size<=C->(∀ x a,X.env.cells.lookup x = some a->a ≠ C)->(∀ q ∈ X.pn ++ pins,q.1 ≠ C)->s'.heap.Ns C m->Q (.ref p) H'->RR (.ref p) C (.ok .next) s') :
    wpAny (model X.prog X.w) X.A (newList []) (fun acc s₃ => wpAny (model X.prog X.w) X.A (newFunctionEnv scope X.env.globals (clOf X.env.cells scope.names []) [] X.env.qual none .none (some X.env)) (fun cenv s₄ =>
      codeAny (model X.prog X.w) X.A (.compStart (.ListComp elt [⟨.Name t px,iter,ifs,0⟩] scope pos) 0 (.ref it) acc { cenv with scope:=relabel scope X.env }) (RR acc cenv.locals) s₄) E s₃) E s:=by
  refine wpAny_newObj_type (wpAny_newFunctionEnv c.nocell (by intro y hy; simp at hy) (fun h₁ hns₁ hsb₁ => ?_) c.kind)
  dsimp only at hns₁ hsb₁ ⊢
  generalize hH2 : s.heap.push { cls:=.type "list",dict:=none,data:=.seq ([] : List Value).toArray } = G2 at hns₁ hsb₁ ⊢
  have hC : G2.objs.size = s.heap.objs.size + 1:=by rw [<-hH2,Heap.size_push]
  rw [hC] at hns₁ hsb₁ ⊢
  have kp : ∀ b o,s.heap.get? b = some o->h₁.get? b = some o:=fun b o e => hsb₁.extBut b o (Nat.ne_of_lt (Nat.lt_succ_of_lt (Heap.lt_size e))) (Heap.get?_push_of_some _ (hH2 ▸ Heap.get?_push_of_some _ e))
  have hacc : h₁.get? s.heap.objs.size = some { cls:=.type "list",data:=.seq #[] }:=hsb₁.extBut _ _ (Nat.ne_of_lt (Nat.lt_succ_self _)) (Heap.get?_push_of_some _ (hH2 ▸ Heap.get?_push_size _ rfl))
  have hob : ∀ b ∈ fp,∃ o,s.heap.get? b = some o:=fun b hb => let ⟨o,e,_⟩:=T.obj 0 _ st0 b hb; ⟨o,e⟩
  have I0:=c.inv (fp:=fp) (h1:=h₁) (tk:=s.toks + ([] : List (Str × Value)).length) I hf hob (by simpa using hns₁) kp hacc
  have fr : H s.heap.objs.size = none:=I.hok.fresh (Nat.le_refl _)
  obtain ⟨W,⟨m0,w0⟩,turn⟩:=h _ fr
  have st1 : tn 0 h₁:=T.keep 0 _ _ st0 fun b _ o e => kp b o e
  generalize hX : Ex X scope t s H fp = Y at I0
  have hcY : Y.calm = true:=by rw [<-hX]; exact hc
  have stat : ∀ {H' : Hp},(∀ b ∈ fp,H' b = none)->∀ b ∈ fp,FpOk Y [] H' b:=fun {H'} hn b hb => by
    obtain ⟨o,e⟩:=hob b hb
    refine ⟨hn b hb,?_,?_,.inl ?_,fun x a e' => ?_,fun p hp => ?_⟩
    · rw [<-hX]; exact Nat.ne_of_lt (Nat.lt_succ_of_lt (Heap.lt_size e))
    · intro z
      exact I0.ok.exfs b (by rw [<-hX]; exact hb) z
    · rw [<-hX]; exact hb
    · exact (I0.ok.exf b (by rw [<-hX]; exact hb)).2 x a e'
    · rw [<-hX] at hp
      exact absurd (show p ∈ ([] : List (Addr × Obj)) from hp) (by simp)
  have fp0 : ∀ b ∈ fp,upd H s.heap.objs.size (.lst []) b = none:=fun b hb => by
    obtain ⟨o,e⟩:=hob b hb
    rw [Al (Nat.ne_of_lt (Heap.lt_size e))]
    exact (hf b hb).1
  have envY : Y.env = compEnvC scope (clOf X.env.cells scope.names []) (s.heap.objs.size + 1) X.env:=by rw [<-hX]; rfl
  have pY : Y.prog = X.prog:=by rw [<-hX]; rfl
  have wY : Y.w = X.w:=by rw [<-hX]; rfl
  have aY : Y.A = X.A:=by rw [<-hX]; rfl
  have kY : Y.K = X.K:=by rw [<-hX]; rfl
  have xY : Y.xe = fun _ _ => False:=by rw [<-hX]; rfl
  have nY : Y.N = Bm t X.N ++ [t]:=by rw [<-hX]; rfl
  have lenN : (Bm t X.N).length = σ.length:=by unfold Bm; rw [List.length_map,I.len]
  have hIY : PTs Y ifs tc:=by rw [<-hX]; exact hI s H fp
  have hEY : PE Y elt te:=by rw [<-hX]; exact hE s H fp
  have setE : ∀ (o : Option V) (v : V),(σ ++ [o]).set (Bm t X.N).length (some v) = σ ++ [some v]:=fun o v => by
    rw [lenN,List.set_append_right _ _ (Nat.le_refl _),Nat.sub_self]
    rfl
  have loop : ∀ s₃ : Shared,s₃ = { s with heap:=h₁,toks:=s.toks + ([] : List (Str × Value)).length } ->
      codeAny (model X.prog X.w) X.A (.compLoop (.ListComp elt [⟨.Name t px,iter,ifs,0⟩] scope pos) 0 (.ref it) (.ref s.heap.objs.size) (compEnvC scope (clOf X.env.cells scope.names []) (s.heap.objs.size + 1) X.env)) (RR (.ref s.heap.objs.size) (s.heap.objs.size + 1)) s₃:=by
    rintro s₃ rfl
    rw [<-envY]
    refine codeAny_compLoop_tests (fun n s' => ∃ i ys o H',Inv Y [] (σ ++ [o]) H' s'/\tn i s'.heap/\(∀ b ∈ fp,H' b = none)/\W i n ys H') ?_ m0 ⟨0,[],none,_,I0,st1,fp0,w0⟩
    rintro n s3 ⟨i,ys,o,H3,I3,st3,fr3,w3⟩
    rcases turn i n ys H3 w3 with ⟨stop,qn⟩ | ⟨go,step⟩
    · have d:=T.done Y pY wY kY hcY i [] s3 _ H3 (fun _ _ => False) I3 (stat fr3) st3 stop
      rw [aY] at d
      refine wpAny_mono d (fun r s4 ⟨hr,I4⟩ => ?_) fun _ _ z => z.elim
      subst hr
      have cN:=I4.free
      have cN' : H3 (s.heap.objs.size + 1) = none:=by rw [envY] at cN; exact cN
      have un:=I4.base
      obtain ⟨m,hm,_⟩:=I4.loc
      have hm' : s4.heap.Ns (s.heap.objs.size + 1) m:=by rw [envY] at hm; exact hm
      have un' : Un (frs X.stack) fp H H3 s.heap s4.heap:=by rw [<-hX] at un; exact un
      have os' : s4.os = s.os:=by have:=I4.os; rw [<-hX] at this; exact this
      have hok' : HOk X.prog X.w H3 s4.heap:=by have:=I4.hok; rw [<-hX] at this; exact this
      have bare':=I4.bare
      have IX : Inv X pins σ H3 s4:=I.call' os' un' hok' bare' fun b hb => ⟨(hf b hb).2.2.2.1,(hf b hb).2.1,(hf b hb).2.2.2.2.1,(hf b hb).2.2.2.2.2⟩
      refine hRR _ _ _ _ m IX cN' (Nat.ne_of_gt (Nat.lt_succ_of_lt I.lt)) (Nat.le_trans I.sz (Nat.le_succ _)) (fun x a e z => ?_) (fun q hq z => ?_) hm' qn
      · obtain ⟨v,oc,e',_⟩:=I.cell x a e
        have q2 : a < s.heap.objs.size:=Heap.lt_size e'
        have z' : a = s.heap.objs.size + 1:=z
        exact absurd (z' ▸ q2) (Nat.not_lt.mpr (Nat.le_succ _))
      · have q2 : q.1 < s.heap.objs.size:=Heap.lt_size (I.pin q hq).1
        have z' : q.1 = s.heap.objs.size + 1:=z
        exact absurd (z' ▸ q2) (Nat.not_lt.mpr (Nat.le_succ _))
    · have d:=T.item Y pY wY kY hcY i [] s3 _ H3 (fun _ _ => False) I3 (stat fr3) st3 go
      rw [aY] at d
      refine wpAny_mono d (fun r s4 ⟨u,hr,h4⟩ => ?_) fun _ _ z => z.elim
      subst hr
      intro Γ pp hΓ
      obtain ⟨x,H5,I5,r5,y5,st5,fr5⟩:=(show ∃ x H',Inv Y [] (σ ++ [o]) H' s4/\RelV x u/\J.yld i H3 x H'/\tn (i + 1) s4.heap/\∀ b ∈ fp,H' b = none from h4 Γ pp hΓ)
      revert Γ pp
      show wpAny (model X.prog X.w) X.A _ _ _ s4
      have I5':=I5.pinned (stat fr5) (T.obj _ _ st5)
      have hiY : Y.N[(Bm t X.N).length]? = some t:=by rw [nY,List.getElem?_append_right (Nat.le_refl _),Nat.sub_self]; rfl
      have htl : Y.env.scope.names.lookup t = some .local:=by rw [envY]; exact lookup_relabel_local c.tl
      refine wpAny_assign_Name (PQ (i:=(Bm t X.N).length) (v:=x) I5' (by rw [nY]; exact c.nd) hiY (.inl htl) r5 (fun s6 I6 => ?_) (.inr htl))
      rw [setE] at I6
      have q:=step x H5 y5
      have tst:=hIY _ s6 _ H5 _ I6 q
      rw [aY,pY,wY,xY] at tst
      refine wpAny_mono tst (fun b s7 ⟨H7,I7,q7⟩ => ?_) fun _ _ z => z.elim
      have back : ∀ {H8 : Hp} {s8 : Shared},Inv Y ([] ++ Pa fp s4.heap) (σ ++ [some x]) H8 s8->tn (i + 1) s8.heap/\∀ b ∈ fp,H8 b = none:=fun {H8 s8} I8 => by
        refine ⟨T.keep _ _ _ st5 fun b hb ob e => (I8.pin (b,ob) (List.mem_append_right _ (List.mem_append_right _ (JV hb e)))).1,fun b hb => ?_⟩
        obtain ⟨ob,e,d⟩:=T.obj _ _ st5 b hb
        exact (I8.pin (b,ob) (List.mem_append_right _ (List.mem_append_right _ (JV hb e)))).2.1
      cases b with
      | false =>
        rw [if_neg Bool.false_ne_true] at q7 ⊢
        obtain ⟨m',hm,w7⟩:=q7
        obtain ⟨t7,f7⟩:=back I7
        exact ⟨m',hm,i + 1,ys,some x,H7,I7.unpinned,t7,f7,w7⟩
      | true =>
        rw [if_pos rfl] at q7 ⊢
        have ev:=hEY _ s7 _ H7 _ I7 q7
        rw [aY,pY,wY,xY] at ev
        refine wpAny_mono ev (fun y s8 ⟨yv,H8,I8,r8,hp8,hz8,m',hm,w8⟩ => ?_) fun _ _ z => z.elim
        have ap:=Q7 (X:=Y) _ s8 _ H8 (.ref s.heap.objs.size) [yv] (.ref s.heap.objs.size) [y] (fun _ H9 => H9 = upd H8 s.heap.objs.size (.lst (ys ++ [yv]))) I8 rfl (.cons r8 .nil) ⟨_,ys,yv,rfl,rfl,hp8,hz8,rfl⟩
        rw [aY,pY,wY,xY] at ap
        refine wpAny_mono ap (fun _ s9 ⟨_,H9,I9,_,e9⟩ => ?_) fun _ _ z => z.elim
        subst e9
        obtain ⟨t9,f9⟩:=back I9
        exact ⟨m',hm,i + 1,_,some x,_,I9.unpinned,t9,f9,w8⟩
  exact codeAny_compStart_list (loop _ rfl) (T.self X.A 0 _ _ _ st1 (loop _ rfl))
theorem gO (c : CompOk X scope t) (hc : X.calm = true) (hi : PI X (.Name t px) iter wi) (hI : ∀ s2 H2 fp,PTs (Ex X scope t s2 H2 fp) ifs tc) (hE : ∀ s2 H2 fp,PE (Ex X scope t s2 H2 fp) elt te)
  (hs : ∀ x,foldedSetIterable iter X.env x = pure x:=by intro _; rfl) : PE X (.ListComp elt [⟨.Name t px,iter,ifs,0⟩] scope pos) (W_ wi tc te):=by
 intro pins s σ H Q I h
 rw [eval_ListComp]
 refine wpAny_comprehension_free (use:=none) rfl hs (K6 (c.cells I.ok)) c.kind c.names (thn (hi pins s σ H _ I h) fun v s1 h1 => thn h1 fun itv s2 h2 => ?_)
 obtain ⟨it,fp,tn,J,H2,e,I2,T,st2,f2,q⟩:=h2
 subst e
 refine Pu (Q:=Q) c hc I2 T st2 f2 hI hE q fun p C s' H' m I' n1 n2 n3 n4 n5 hm q' => ?_
 exact ⟨m,hm,fun h' sb => ⟨.ref p,H',I'.turned (t':=s'.toks) (fun b o hb e => (sb.2 b hb).trans e) n1 (Ne.symm (Ne.symm n2)) (.inr n3) n4 n5,rfl,q'⟩⟩
theorem XC {i : Nat} {y : Str} {py spos : Pos} (c : CompOk X scope t) (hc : X.calm = true) (hN : X.N.Nodup) (hi' : X.N[i]? = some y) (hx : Loc X.env.scope y) (hi : PI X (.Name t px) iter wi) (hI : ∀ s2 H2 fp,PTs (Ex X scope t s2 H2 fp) ifs tc)
  (hE : ∀ s2 H2 fp,PE (Ex X scope t s2 H2 fp) elt te) (hsw : swapsWith (.ListComp elt [⟨.Name t px,iter,ifs,0⟩] scope pos) (some (.Name y py)) spos.line X.env = pure true:=by rfl)
  (hf : X.fn y = true ∨ X.env.scope.names.lookup y = some .local:=by first | exact .inl rfl | exact .inr rfl | assumption) (hs : ∀ x,foldedSetIterable iter X.env x = pure x:=by intro _; rfl) :
  PS X (.Assign [.Name y py] (.ListComp elt [⟨.Name t px,iter,ifs,0⟩] scope pos) spos) (tAsg (W_ wi tc te) (Jv i)):=by
 intro pins s σ H D I h
 rw [exec_Assign_Name_used _ _ _ _ hsw]
 refine wpAny_bind (wpAny_standAt (wpAny_bind ?_))
 show wpAny _ X.A (do let _ <-comprehension (.ListComp elt [⟨.Name t px,iter,ifs,0⟩] scope pos) scope X.env _ (newList []) false (eval iter X.env) (some (assign (.Name y py) X.env))) _ _ s
 refine wpAny_bind (wpAny_mono (wpAny_comprehension_free (use:=some (assign (.Name y py) X.env)) (Q:=fun _ s' => SP X pins D .next s') rfl hs (K6 (c.cells I.ok)) c.kind c.names
  (thn (hi pins s σ H _ I h) fun v s1 h1 => thn h1 fun itv s2 h2 => ?_)) (fun _ s' hq => wpAny_pure (wpAny_pure hq)) fun _ _ e => e)
 obtain ⟨it,fp,tn,J,H2,e,I2,T,st2,f2,q⟩:=h2
 subst e
 refine Pu (Q:=fun x H1 => Jv i x σ H1 D.nx) c hc I2 T st2 f2 hI hE q fun p C s' H' m I' n1 n2 n3 n4 n5 hm q' => ?_
 show wpAny _ X.A (assign (.Name y py) X.env (.ref p)) _ _ _
 refine wpAny_assign_Name (Qz (v:=.ref p) I' hN hi' hx rfl (fun s3 I3 ⟨a,sb,ha⟩ => ?_) hf)
 have hCa : C ≠ a:=by
  rcases ha with z | z
  ·rw [z]; exact n2
  ·exact Ne.symm (n4 _ _ z)
 exact ⟨m,hm.sameBut sb hCa,fun h' sb' => ⟨_,H',I3.turned (t':=s3.toks) (fun b o hb e => (sb'.2 b hb).trans e) n1 n2 (.inr n3) n4 n5,q'⟩⟩
end
end L2
namespace PV
open PySem PySem.Spec L2
open PyProof.Rows hiding St
structure Gx where
 K : PySem.W.Frag
 cl : Str->Option Addr
 lent : Option Addr:=none
theorem HY {K : PySem.W.Frag} {H H' : Hp} {a : Addr} {xs : List V} (e : Same H H') (h : SqT K H a xs) : SqT K H' a xs:=by
 rcases h with (h | ⟨o,h⟩) | h
 ·exact .inl (.inl (e _ _ h))
 ·exact .inl (.inr ⟨o,e _ _ h⟩)
 ·exact .inr h
theorem gP {H H' : Hp} {a : Addr} {u : HO} (e : Same H H') (h : Rd H a u) : Rd H' a u:=by
 rcases h with h | ⟨o,h⟩
 ·exact .inl (e _ _ h)
 ·exact .inr ⟨o,e _ _ h⟩
theorem Ar {H : Hp} {p : Addr} (h : H p = none) (o : HO) : Same H (upd H p o):=fun b u q => by rw [Al (Ck q h)]; exact q
inductive Rep (G : Gx) (H : Hp) : V->D->Prop
 | non : Rep G H .non .non
 | bl (b : Bool) : Rep G H (.bl b) (.bl b)
 | int (i : Int) : Rep G H (.int i) (.int i)
 | str (x : Str) : Rep G H (.str x) (.str x)
 | tup {a : Addr} {xs : List V} {ds : List D} : SqT G.K H a xs->xs.length = ds.length->(∀ (i : Nat) x d,xs[i]? = some x->ds[i]? = some d->Rep G H x d)->Rep G H (.ref a) (.tup ds)
 | lst {a : Addr} {xs : List V} {ds : List D} : SqL G.K H a xs->xs.length = ds.length->(∀ (i : Nat) x d,xs[i]? = some x->ds[i]? = some d->Rep G H x d)->Rep G H (.ref a) (.lst ds)
 | dk {a : Addr} {o : Obj} {kvs : List (Key × V)} {kds : List (Key × D)} : H a = some (.frz o (.dK kvs))->kvs.map (·.1) = kds.map (·.1)->(∀ (i : Nat) x d,(kvs.map (·.2))[i]? = some x->(kds.map (·.2))[i]? = some d->Rep G H x d)->Rep G H (.ref a) (.dk kds)
 | dt {a : Addr} {o : Obj} {kvs : List (List Key × V)} {kds : List (List Key × D)} : H a = some (.frz o (.dT kvs))->kvs.map (·.1) = kds.map (·.1)->(∀ (i : Nat) x d,(kvs.map (·.2))[i]? = some x->(kds.map (·.2))[i]? = some d->Rep G H x d)->Rep G H (.ref a) (.dt kds)
 | adr (a : Addr) : Rep G H (.ref a) (.adr a)
 | ob {a C dx : Addr} {c : Str} {fs : List (Str × V)} {gs : List (Str × D)} : G.cl c = some C->H a = some (.ins C dx fs)->fs.map (·.1) = gs.map (·.1)->(∀ (i : Nat) x d,(fs.map (·.2))[i]? = some x->(gs.map (·.2))[i]? = some d->Rep G H x d)->Rep G H (.ref a) (.ob c gs)
def RepL (G : Gx) (H : Hp) (xs : List V) (ds : List D) : Prop:=xs.length = ds.length/\∀ (i : Nat) x d,xs[i]? = some x->ds[i]? = some d->Rep G H x d
theorem Rep.mono {G : Gx} {H H' : Hp} {v : V} {d : D} (r : Rep G H v d) (s : Same H H') : Rep G H' v d:=by
 induction r with
 | non => exact .non
 | bl b => exact .bl b
 | int i => exact .int i
 | str x => exact .str x
 | tup h l _ ih => exact .tup (HY s h) l ih
 | lst h l _ ih => exact .lst (s.seq h) l ih
 | dk h l _ ih => exact .dk (s _ _ h) l ih
 | dt h l _ ih => exact .dt (s _ _ h) l ih
 | adr a => exact .adr a
 | ob c h l _ ih => exact .ob c (s _ _ h) l ih
theorem RepL.mono {G : Gx} {H H' : Hp} {xs : List V} {ds : List D} (r : RepL G H xs ds) (s : Same H H') : RepL G H' xs ds:=⟨r.1,fun i x d a b => (r.2 i x d a b).mono s⟩
theorem RepL.nil {G : Gx} {H : Hp} : RepL G H [] []:=⟨rfl,fun i x d h => by simp at h⟩
theorem RepL.cons {G : Gx} {H : Hp} {x : V} {d : D} {xs : List V} {ds : List D} (r : Rep G H x d) (rs : RepL G H xs ds) : RepL G H (x :: xs) (d :: ds):=
 ⟨by simp [rs.1],fun i y e h1 h2 => by
  cases i with
  | zero => simp at h1 h2; subst h1; subst h2; exact r
  | succ i => simp at h1 h2; exact rs.2 i y e h1 h2⟩
theorem RepL.uncons {G : Gx} {H : Hp} {xs : List V} {d : D} {ds : List D} (r : RepL G H xs (d :: ds)) : ∃ x ys,xs = x :: ys/\Rep G H x d/\RepL G H ys ds:=by
 obtain ⟨l,h⟩:=r
 cases xs with
 | nil => simp at l
 | cons x ys => exact ⟨x,ys,rfl,h 0 x d rfl rfl,by simpa using l,fun i y e h1 h2 => h (i + 1) y e (by simpa using h1) (by simpa using h2)⟩
theorem RepL.nil_inv {G : Gx} {H : Hp} {xs : List V} (r : RepL G H xs []) : xs = []:=by
 have:=r.1
 cases xs with
 | nil => rfl
 | cons x ys => simp at this
theorem RepL.append {G : Gx} {H : Hp} {xs ys : List V} {ds es : List D} (a : RepL G H xs ds) (b : RepL G H ys es) : RepL G H (xs ++ ys) (ds ++ es):=by
 refine ⟨by rw [List.length_append,List.length_append,a.1,b.1],fun i x d h1 h2 => ?_⟩
 by_cases hi : i < xs.length
 ·rw [List.getElem?_append_left hi] at h1
  rw [List.getElem?_append_left (by rw [<-a.1]; exact hi)] at h2
  exact a.2 i x d h1 h2
 ·rw [List.getElem?_append_right (Nat.not_lt.mp hi)] at h1
  rw [List.getElem?_append_right (by rw [<-a.1]; exact Nat.not_lt.mp hi),<-a.1] at h2
  exact b.2 _ x d h1 h2
theorem RepL.drop {G : Gx} {H : Hp} {xs : List V} {ds : List D} (a : RepL G H xs ds) (n : Nat) : RepL G H (xs.drop n) (ds.drop n):=
 ⟨by rw [List.length_drop,List.length_drop,a.1],fun i x d h1 h2 => by rw [List.getElem?_drop] at h1 h2; exact a.2 _ x d h1 h2⟩
theorem RepL.take {G : Gx} {H : Hp} {xs : List V} {ds : List D} (a : RepL G H xs ds) (n : Nat) : RepL G H (xs.take n) (ds.take n):=
 ⟨by rw [List.length_take,List.length_take,a.1],fun i x d h1 h2 => by
  rw [List.getElem?_take] at h1 h2
  split at h1
  ·rename_i hlt
   rw [if_pos hlt] at h2
   exact a.2 _ x d h1 h2
  ·cases h1⟩
theorem RepL.get {G : Gx} {H : Hp} {xs : List V} {ds : List D} (a : RepL G H xs ds) {i : Nat} {d : D} (h : ds[i]? = some d) : ∃ x,xs[i]? = some x/\Rep G H x d:=by
 have hi : i < ds.length:=(List.getElem?_eq_some_iff.mp h).1
 have hi' : i < xs.length:=by rw [a.1]; exact hi
 exact ⟨xs[i],by simp [hi'],a.2 i _ d (by simp [hi']) h⟩
theorem RepL.atI {G : Gx} {H : Hp} {xs : List V} {ds : List D} (a : RepL G H xs ds) {i : Int} {d : D} (h : L2.atI ds i = some d) : ∃ x,L2.atI xs i = some x/\Rep G H x d:=by
 unfold L2.atI at h ⊢
 rw [<-a.1] at h
 cases e : ixN xs.length i with
 | none => rw [e] at h; cases h
 | some j =>
  rw [e] at h
  obtain ⟨x,h1,h2⟩:=a.get (show ds[j]? = some d from h)
  exact ⟨x,h1,h2⟩
def hid (A : List Addr) (H : Hp) : Hp:=fun b => if b ∈ A then none else H b
theorem Ao {A : List Addr} {H H' : Hp} (s : Same H H') : Same (hid A H) (hid A H'):=fun b o h => by
 unfold hid at h ⊢
 split at h
 ·cases h
 ·rename_i hb; rw [if_neg hb]; exact s b o h
theorem Az {A : List Addr} {H : Hp} : Same (hid A H) H:=fun b o h => by
 unfold hid at h
 split at h
 ·cases h
 ·exact h
theorem Gk {A B : List Addr} {H : Hp} (h : ∀ a ∈ A,a ∈ B) : Same (hid B H) (hid A H):=fun b o q => by
 unfold hid at q ⊢
 split at q
 ·cases q
 ·rename_i hb; rw [if_neg (fun z => hb (h b z))]; exact q
theorem Bv {A : List Addr} {H : Hp} {p : Addr} (h : p ∉ A) : hid A H p = H p:=by unfold hid; rw [if_neg h]
theorem Ba {A : List Addr} {H : Hp} {p : Addr} {o : HO} (h : p ∈ A) : hid A (upd H p o) = hid A H:=by
 funext b
 unfold hid
 by_cases hb : b ∈ A
 ·rw [if_pos hb,if_pos hb]
 ·rw [if_neg hb,if_neg hb,Al (fun e : b = p => hb (by rw [e]; exact h))]
def Top (G : Gx) (A : List Addr) (H : Hp) (a : Addr) : D->Prop
 | .lst ds => ∃ xs,H a = some (.lst xs)/\RepL G (hid A H) xs ds
 | .dk kds => ∃ kvs,H a = some (.dK kvs)/\kvs.map (·.1) = kds.map (·.1)/\RepL G (hid A H) (kvs.map (·.2)) (kds.map (·.2))
 | .dt kds => ∃ kvs,H a = some (.dT kvs)/\kvs.map (·.1) = kds.map (·.1)/\RepL G (hid A H) (kvs.map (·.2)) (kds.map (·.2))
 | .ob c gs => ∃ C dx fs,H a = some (.ins C dx fs)/\(G.cl c = some C/\fs.map (·.1) = gs.map (·.1))/\RepL G (hid A H) (fs.map (·.2)) (gs.map (·.2))
 | _ => False
theorem Top.mono {G : Gx} {A : List Addr} {H H' : Hp} {a : Addr} {d : D} (t : Top G A H a d) (s : Same H H') : Top G A H' a d:=by
 cases d with
 | lst ds => obtain ⟨xs,h,r⟩:=t; exact ⟨xs,s _ _ h,r.mono (Ao s)⟩
 | dk ds => obtain ⟨xs,h,k,r⟩:=t; exact ⟨xs,s _ _ h,k,r.mono (Ao s)⟩
 | dt ds => obtain ⟨xs,h,k,r⟩:=t; exact ⟨xs,s _ _ h,k,r.mono (Ao s)⟩
 | ob c gs => obtain ⟨C,dx,xs,h,k,r⟩:=t; exact ⟨C,dx,xs,s _ _ h,k,r.mono (Ao s)⟩
 | _ => exact t.elim
structure Nt (x : Option HO) : Prop where
 ne : x ≠ none
 tup : ∀ xs,x ≠ some (.tup xs)
theorem Nt.mono {x y : Option HO} (h : Nt x) (k : ∀ u,x = some u->y = some u) : Nt y:=by
 cases x with
 | none => exact absurd rfl h.ne
 | some u => rw [k u rfl]; exact h
theorem Nt.lst {xs : List V} : Nt (some (.lst xs)):=⟨fun z => (nomatch z),fun _ z => (nomatch z)⟩
theorem Nt.dK {xs : List (Key × V)} : Nt (some (.dK xs)):=⟨fun z => (nomatch z),fun _ z => (nomatch z)⟩
theorem Nt.dT {xs : List (List Key × V)} : Nt (some (.dT xs)):=⟨fun z => (nomatch z),fun _ z => (nomatch z)⟩
theorem Nt.ins {C dx : Addr} {xs : List (Str × V)} : Nt (some (.ins C dx xs)):=⟨fun z => (nomatch z),fun _ z => (nomatch z)⟩
structure Okp (G : Gx) (A : List Addr) (σ : St) (H : Hp) (ρ : Rho) : Prop where
 len : σ.length = ρ.length
 live : ∀ a ∈ A,Nt (H a)
 fz : ∀ (i : Nat) (d : D),ρ[i]? = some (.fz d)->∃ v,σ[i]? = some (some v)/\Rep G (hid A H) v d
 ow : ∀ (i : Nat) (d : D),ρ[i]? = some (.ow d)->∃ a,σ[i]? = some (some (.ref a))/\a ∈ A/\Top G A H a d
 inj : ∀ (i j : Nat) (d e : D) (a : Addr),ρ[i]? = some (.ow d)->ρ[j]? = some (.ow e)->σ[i]? = some (some (.ref a))->σ[j]? = some (some (.ref a))->i = j
theorem Okp.mono {G : Gx} {A : List Addr} {σ : St} {H H' : Hp} {ρ : Rho} (o : Okp G A σ H ρ) (s : Same H H') : Okp G A σ H' ρ:=
 ⟨o.len,fun a ha => (o.live a ha).mono fun u e => s _ _ e,
  fun i d h => let ⟨v,h1,h2⟩:=o.fz i d h; ⟨v,h1,h2.mono (Ao s)⟩,fun i d h => let ⟨a,h1,h2,h3⟩:=o.ow i d h; ⟨a,h1,h2,h3.mono s⟩,o.inj⟩
def RepT (G : Gx) (A : List Addr) (H : Hp) (v : V) (d : D) : Prop:=Rep G (hid A H) v d ∨ ∃ a,v = .ref a/\Top G A H a d
theorem RepT.mono {G : Gx} {A : List Addr} {H H' : Hp} {v : V} {d : D} (r : RepT G A H v d) (s : Same H H') : RepT G A H' v d:=by
 rcases r with r | ⟨a,e,r⟩
 ·exact .inl (r.mono (Ao s))
 ·exact .inr ⟨a,e,r.mono s⟩
theorem RepT.lst {G : Gx} {A : List Addr} {H : Hp} {v : V} {ds : List D} (r : RepT G A H v (.lst ds)) : ∃ a xs,v = .ref a/\SqL G.K H a xs/\RepL G (hid A H) xs ds:=by
 rcases r with r | ⟨a,e,xs,h,r⟩
 ·cases r with
  | lst h l r => exact ⟨_,_,rfl,Az.seq h,l,r⟩
 ·exact ⟨a,xs,e,.of h,r⟩
theorem RepT.tup {G : Gx} {A : List Addr} {H : Hp} {v : V} {ds : List D} (r : RepT G A H v (.tup ds)) : ∃ a xs,v = .ref a/\SqT G.K H a xs/\RepL G (hid A H) xs ds:=by
 rcases r with r | ⟨a,e,r⟩
 ·cases r with
  | tup h l r => exact ⟨_,_,rfl,HY Az h,l,r⟩
 ·exact r.elim
theorem RepT.int {G : Gx} {A : List Addr} {H : Hp} {v : V} {i : Int} (r : RepT G A H v (.int i)) : v = .int i:=by
 rcases r with r | ⟨a,e,r⟩
 ·cases r; rfl
 ·exact r.elim
theorem RepT.str {G : Gx} {A : List Addr} {H : Hp} {v : V} {i : Str} (r : RepT G A H v (.str i)) : v = .str i:=by
 rcases r with r | ⟨a,e,r⟩
 ·cases r; rfl
 ·exact r.elim
theorem RepT.bl {G : Gx} {A : List Addr} {H : Hp} {v : V} {i : Bool} (r : RepT G A H v (.bl i)) : v = .bl i:=by
 rcases r with r | ⟨a,e,r⟩
 ·cases r; rfl
 ·exact r.elim
theorem RepT.non {G : Gx} {A : List Addr} {H : Hp} {v : V} (r : RepT G A H v .non) : v = .non:=by
 rcases r with r | ⟨a,e,r⟩
 ·cases r; rfl
 ·exact r.elim
theorem RepT.dk {G : Gx} {A : List Addr} {H : Hp} {v : V} {kds : List (Key × D)} (r : RepT G A H v (.dk kds)) : ∃ a kvs,v = .ref a/\Rd H a (.dK kvs)/\kvs.map (·.1) = kds.map (·.1)/\RepL G (hid A H) (kvs.map (·.2)) (kds.map (·.2)):=by
 rcases r with r | ⟨a,e,kvs,h,k,r⟩
 ·cases r with
  | dk h k r =>
   refine ⟨_,_,rfl,.inr ⟨_,Az _ _ h⟩,k,?_,r⟩
   have:=congrArg List.length k
   rw [List.length_map,List.length_map] at this ⊢
   exact this
 ·exact ⟨a,kvs,e,.of h,k,r⟩
theorem RJ {A : List Addr} {H : Hp} {p : Addr} (live : ∀ a ∈ A,Nt (H a)) (hp : H p = none) (o : HO) : hid A (upd H p o) p = some o:=by
 rw [Bv (fun z => (live p z).ne hp),Aj]
theorem Dm {G : Gx} {A : List Addr} {H : Hp} {p : Addr} {xs : List V} {ds : List D} (live : ∀ a ∈ A,Nt (H a)) (hp : H p = none) (r : RepL G (hid A H) xs ds) : Rep G (hid A (upd H p (.lst xs))) (.ref p) (.lst ds):=
 let q:=r.mono (Ao (Ar hp (.lst xs))); .lst (.of (RJ live hp _)) q.1 q.2
theorem J3 {G : Gx} {A : List Addr} {H : Hp} {p : Addr} {xs : List V} {ds : List D} (live : ∀ a ∈ A,Nt (H a)) (hp : H p = none) (r : RepL G (hid A H) xs ds) : Rep G (hid A (upd H p (.tup xs))) (.ref p) (.tup ds):=
 let q:=r.mono (Ao (Ar hp (.tup xs))); .tup (.of (RJ live hp _)) q.1 q.2
def tF (G : Gx) (A : List Addr) (f : FE) : TE:=fun σ H Q => ∃ ρ d,Okp G A σ H ρ/\f ρ = some d/\∀ v H',Same H H'->Rep G (hid A H') v d->Q v H'
def tT (G : Gx) (A : List Addr) (f : FE) : TE:=fun σ H Q => ∃ ρ d,Okp G A σ H ρ/\f ρ = some d/\∀ v H',Same H H'->RepT G A H' v d->Q v H'
def PF (X : Cx) (G : Gx) (e : Expr) (f : FE) : Prop:=∀ A,PE X e (tF G A f)
def PU (X : Cx) (G : Gx) (e : Expr) (f : FE) : Prop:=∀ A,PE X e (tT G A f)
theorem Ca {X : Cx} {e : Expr} {t t' : TE} (h : PE X e t) (w : ∀ σ H Q,t' σ H Q->t σ H Q) : PE X e t':=fun pins s σ H Q I q => h pins s σ H Q I (w σ H Q q)
theorem PF.pu {X : Cx} {G : Gx} {e : Expr} {f : FE} (h : PF X G e f) : PU X G e f:=fun A => Ca (h A) fun σ H Q ⟨ρ,d,o,e,k⟩ => ⟨ρ,d,o,e,fun v H' s r => k v H' s (.inl r)⟩
def tFA (G : Gx) (A : List Addr) (f : FA) : TA:=fun σ H Q => ∃ ρ ds,Okp G A σ H ρ/\f ρ = some ds/\∀ vs H',Same H H'->RepL G (hid A H') vs ds->Q vs H'
def PFA (X : Cx) (G : Gx) (es : List Expr) (f : FA) : Prop:=∀ A,PA X es (tFA G A f)
theorem j7 {X : Cx} {e : List Expr} {t t' : TA} (h : PA X e t) (w : ∀ σ H Q,t' σ H Q->t σ H Q) : PA X e t':=fun pos pins s σ H Q I q => h pos pins s σ H Q I (w σ H Q q)
def tFT (G : Gx) (A : List Addr) (f : FT) : TT:=fun σ H Q => ∃ ρ b,Okp G A σ H ρ/\f ρ = some b/\∀ H',Same H H'->Q b H'
def PFT (X : Cx) (G : Gx) (e : Expr) (f : FT) : Prop:=∀ A,PT X e (tFT G A f)
def PFW (X : Cx) (G : Gx) (e : Expr) (f : FT) : Prop:=∀ A,PW X e (tFT G A f)
theorem XD {X : Cx} {e : Expr} {t t' : TT} (h : PT X e t) (w : ∀ σ H Q,t' σ H Q->t σ H Q) : PT X e t':=fun pins s σ H Q I q => h pins s σ H Q I (w σ H Q q)
theorem bJ {X : Cx} {e : Expr} {t t' : TT} (h : PW X e t) (w : ∀ σ H Q,t' σ H Q->t σ H Q) : PW X e t':=fun wh pins s σ H Q I q => h wh pins s σ H Q I (w σ H Q q)
end PV
namespace PV
open PySem PySem.Spec L2
open PyProof.Rows hiding St
section
variable {X : Cx} {G : Gx} {a b c : Expr} {fa fb fc : FE} {pos : Pos}
theorem m7 (i : Nat) {x : Str} (h : PE X (.Name x pos) (tVar i)) : PF X G (.Name x pos) (vF i):=fun A => Ca h fun σ H Q ⟨ρ,d,o,e,k⟩ => by
 unfold vF at e
 split at e
 ·rename_i d' h'
  cases e
  obtain ⟨v,h1,h2⟩:=o.fz i _ h'
  exact ⟨v,h1,k v H (Same.refl H) h2⟩
 ·cases e
theorem m8 (i : Nat) {x : Str} (h : PE X (.Name x pos) (tVar i)) : PU X G (.Name x pos) (vU i):=fun A => Ca h fun σ H Q ⟨ρ,d,o,e,k⟩ => by
 unfold vU at e
 split at e
 ·rename_i d' h'
  cases e
  obtain ⟨v,h1,h2⟩:=o.fz i _ h'
  exact ⟨v,h1,k v H (Same.refl H) (.inl h2)⟩
 ·rename_i d' h'
  cases e
  obtain ⟨p,h1,_,h2⟩:=o.ow i _ h'
  exact ⟨.ref p,h1,k _ H (Same.refl H) (.inr ⟨p,rfl,h2⟩)⟩
 ·cases e
theorem Ey {v : V} {d : D} (h : PE X a (tC v)) (r : Rep G (fun _ => none) v d) : PF X G a (kF d):=fun A => Ca h fun σ H Q ⟨ρ,d',o,e,k⟩ => by
 cases e
 exact k v H (Same.refl H) (r.mono fun b o z => nomatch z)
theorem Cp {i j} : PF X G (.Constant (.int i) j pos) (kF (.int i)):=Ey lR (.int i)
theorem Tu {b j} : PF X G (.Constant (.bool b) j pos) (kF (.bl b)):=Ey o9 (.bl b)
theorem Cq {x j} : PF X G (.Constant (.str x) j pos) (kF (.str x)):=Ey lU (.str x)
def Cw (G : Gx) (r : R2) (g : D->D->Option D) : Prop:=∀ (A : List Addr) (H : Hp) (x y : V) (dx dy d : D) (Q : VK),(∀ a ∈ A,Nt (H a))->RepT G A H x dx->RepT G A H y dy->g dx dy = some d->(∀ v H',Same H H'->Rep G (hid A H') v d->Q v H')->r x y H Q
theorem R3 {g : D->D->Option D} {ρ : Rho} {d : D} (h : bF g fa fb ρ = some d) : ∃ x y,fa ρ = some x/\fb ρ = some y/\g x y = some d:=by
 unfold bF at h
 cases e1 : fa ρ with
 | none => rw [e1] at h; cases h
 | some x =>
  rw [e1] at h
  cases e2 : fb ρ with
  | none => simp [e2] at h
  | some y => simp [e2] at h; exact ⟨x,y,rfl,rfl,h⟩
theorem Px {r : R2} {g : D->D->Option D} (s : Cw G r g) {A : List Addr} {σ : St} {H : Hp} {Q : VK} (h : tF G A (bF g fa fb) σ H Q) : tOp r (tT G A fa) (tT G A fb) σ H Q:=by
 obtain ⟨ρ,d,o,e,k⟩:=h
 obtain ⟨x,y,e1,e2,e3⟩:=R3 e
 exact ⟨ρ,x,o,e1,fun v H1 s1 r1 => ⟨ρ,y,o.mono s1,e2,fun u H2 s2 r2 => s A H2 v u x y d Q ((o.mono s1).mono s2).live (r1.mono s2) r2 e3 fun w H3 s3 r3 => k w H3 (s1.trans (s2.trans s3)) r3⟩⟩
theorem Bw {op : Operator} {r : R2} {g : D->D->Option D} (ho : OpR X (binaryOp op) r) (s : Cw G r g) (ha : PU X G a fa) (hb : PU X G b fb) : PF X G (.BinOp a op b pos) (bF g fa fb):=
 fun A => Ca (pH ho (ha A) (hb A)) fun _ _ _ h => Px s h
theorem Vo {op : CmpOp} {r : R2} {g : D->D->Option D} (ho : OpR X (compareOp op) r) (s : Cw G r g) (ha : PU X G a fa) (hb : PU X G b fb) (hm : behindInMarks op b = false) : PF X G (.Compare a [op] [b] pos) (bF g fa fb):=
 fun A => Ca (fV ho (ha A) (hb A) hm) fun _ _ _ h => Px s h
theorem Tv {f : FE} {ρ : Rho} {b : Bool} (h : blF f ρ = some b) : f ρ = some (.bl b):=by
 unfold blF at h
 split at h
 ·rename_i e; cases h; exact e
 ·cases h
theorem Fj {op : CmpOp} {r : R2} {g : D->D->Option D} (ho : OpR X (compareOp op) r) (s : Cw G r g) (ha : PU X G a fa) (hb : PU X G b fb) (hm : behindInMarks op b = false) : PFT X G (.Compare a [op] [b] pos) (blF (bF g fa fb)):=
 fun A => XD (WX ho (ha A) (hb A) hm) fun σ H Q ⟨ρ,d,o,e,k⟩ => Px s ⟨ρ,.bl d,o,Tv e,fun v H' s' r' => by cases r'; exact ⟨d,rfl,k H' s'⟩⟩
theorem Mi {g : Int->Int->Option D} {x y d : D} (h : iiD g x y = some d) : ∃ i j,x = .int i/\y = .int j/\g i j = some d:=by
 unfold iiD at h
 split at h
 ·exact ⟨_,_,rfl,rfl,h⟩
 ·cases h
theorem Lk {g : Int->Int->V} {g' : Int->Int->D} (e : ∀ i j H,Rep G H (g i j) (g' i j)) : Cw G (rI0 g) (iiD fun i j => some (g' i j)):=by
 intro A H x y dx dy d Q lv rx ry h k
 obtain ⟨i,j,rfl,rfl,h⟩:=Mi h
 cases h
 exact ⟨i,j,rx.int,ry.int,k _ H (Same.refl H) (e i j _)⟩
theorem Nv {C : Int->Int->Prop} {g : Int->Int->V} {g' : Int->Int->D} [∀ i j,Decidable (C i j)] (e : ∀ i j H,Rep G H (g i j) (g' i j)) : Cw G (rI C g) (iiD fun i j => if C i j then some (g' i j) else none):=by
 intro A H x y dx dy d Q lv rx ry h k
 obtain ⟨i,j,rfl,rfl,h'⟩:=Mi h
 by_cases hc : C i j
 ·rw [if_pos hc] at h'
  cases h'
  exact ⟨i,j,rx.int,ry.int,hc,k _ H (Same.refl H) (e i j _)⟩
 ·rw [if_neg hc] at h'; cases h'
theorem gQ : Cw G (rI0 fun i j => .int (i - j)) subD:=Lk fun i j H => .int _
theorem K3.ok {i j : Int} (h : K3 i j) : IntMulOk i j:=by
 rcases h with h | h
 ·exact h.ok
 ·exact IntMulOk.of_le h.1 h.2 (by decide)
theorem gR : OpR X (binaryOp .Mult) (rI K3 fun i j => .int (i * j)):=opI fun _ _ _ _ _ _ _ hc q => mul_int q hc.ok
theorem Mj : OpR X (binaryOp .LShift) (rI CShl fun i j => .int (i * 2 ^ j.toNat)):=opI fun i j _ _ _ _ _ hc q => lshift_int hc.1 (by have h1:=hc.2.1; have h2:=hc.2.2; omega) q
theorem gU : Cw G (rI K3 fun i j => .int (i * j)) mulD:=Nv fun i j H => .int _
theorem bK : Cw G (rI CDiv fun i j => .int (i / j)) Ec:=Nv fun i j H => .int _
theorem gW : Cw G (rI (fun _ j => 0 < j) fun i j => .int (i % j)) modD:=Nv (C:=fun _ j => 0 < j) fun i j H => .int _
theorem gY : Cw G (rI CPow fun i j => .int (i ^ j.toNat)) powD:=Nv fun i j H => .int _
theorem Ml : Cw G (rI CShl fun i j => .int (i * 2 ^ j.toNat)) shlD:=Nv fun i j H => .int _
theorem R4 : Cw G (rI (fun _ j => 0<=j) fun i j => .int (i / 2 ^ j.toNat)) shrD:=Nv (C:=fun _ j => 0<=j) fun i j H => .int _
theorem JD : Cw G (rI0 fun i j => .int (Builtin.bitAnd i j)) K4:=Lk fun i j H => .int _
theorem O5 : Cw G (rI0 fun i j => .int (Builtin.bitOr i j)) borD:=Lk fun i j H => .int _
theorem bL : Cw G (rI0 fun i j => .int (Builtin.bitXor i j)) We:=Lk fun i j H => .int _
theorem m9 : Cw G (rI0 fun i j => .bl (decide (i < j))) ltD:=Lk fun i j H => .bl _
theorem m_ : Cw G (rI0 fun i j => .bl (decide (j < i))) gtD:=Lk fun i j H => .bl _
theorem nC : Cw G (rI0 fun i j => .bl (decide (j<=i))) geD:=Lk fun i j H => .bl _
def j8 (K : PySem.W.Frag) : R2:=fun x y H Q => ∃ l b xs zs,x = .ref l/\y = .ref b/\SqL K H l xs/\SqL K H b zs/\xs.length + zs.length<=sizeLine/\∀ p,H p = none->Q (.ref p) (upd H p (.lst (xs ++ zs)))
theorem gZ : OpR X (binaryOp .Add) (j8 X.K):=by
 intro pins s σ H x y v u Q I rx ry h
 obtain ⟨l,b,xs,zs,rfl,rfl,hl,hb,hz,q⟩:=h
 cases rx
 cases ry
 obtain ⟨its,r,pl,z⟩:=I.list hl
 obtain ⟨its2,r2,pl2,z2⟩:=I.list hb
 have e1:=r.length
 have e2:=r2.length
 obtain ⟨⟨cls,dd,data,sl⟩,ho,hc,n,hd⟩:=pl.isList
 obtain ⟨⟨cls2,dd2,data2,sl2⟩,ho2,hc2,n2,hd2⟩:=pl2.isList
 simp only at hc hd hc2 hd2
 subst hc hd hc2 hd2
 refine concat_meets ⟨_,ho,rfl⟩ ⟨_,ho2,rfl⟩ noFill_list_add seq_list_add PySem.F.slot_list_add PySem.F.entry_list_add (PySem.F.args_list_add_2 _ _) (list_addW l b its.toArray its2.toArray n n2 dd dd2 sl sl2 (by rw [List.size_toArray,List.size_toArray]; omega)) ⟨ho,ho2,?_⟩
 have ea : its.toArray ++ its2.toArray = (its ++ its2).toArray:=by simp
 rw [ea]
 exact ⟨.ref _,_,I.lnew (t':=s.toks) (r.append r2) (by rw [List.length_append]; omega),rfl,q _ I.fresh⟩
def rAdd (K : PySem.W.Frag) : R2:=fun x y H Q => (rI0 fun i j => .int (i + j)) x y H Q ∨ ((fun x y H Q => ∃ i j,x = .str i/\y = .str j/\i.length + j.length<=sizeLine/\Q (.str (i ++ j)) H) x y H Q ∨ j8 K x y H Q)
theorem gf : OpR X (binaryOp .Add) (rAdd X.K):=mG.or (VJ.or gZ)
theorem gj : Cw G (rAdd G.K) addD:=by
 intro A H x y dx dy d Q lv rx ry h k
 unfold addD at h
 split at h
 ·cases h; exact .inl ⟨_,_,rx.int,ry.int,k _ H (Same.refl H) (.int _)⟩
 ·split at h
  ·rename_i hz; cases h; exact .inr (.inl ⟨_,_,rx.str,ry.str,hz,k _ H (Same.refl H) (.str _)⟩)
  ·cases h
 ·split at h
  ·rename_i hz
   cases h
   obtain ⟨l,xs,rfl,h1,r1⟩:=rx.lst
   obtain ⟨m,zs,rfl,h2,r2⟩:=ry.lst
   exact .inr (.inr ⟨l,m,xs,zs,rfl,rfl,h1,h2,by rw [r1.1,r2.1]; exact hz,fun p hp => k _ _ (Ar hp _) (Dm lv hp (r1.append r2))⟩)
  ·cases h
 ·cases h
theorem bM {op : BoolOp} (h : PF X G a fa) : PF X G (.BoolOp op [a] pos) fa:=fun A => lZ (h A)
theorem bN {rest : List Expr} (ha : PF X G a fa) (hb : PF X G (.BoolOp .And (b :: rest) pos) fb) : PF X G (.BoolOp .And (a :: b :: rest) pos) (andF fa fb):=fun A => Ca (lu (ha A) (hb A)) fun σ H Q ⟨ρ,d,o,e,k⟩ => by
 unfold andF at e
 split at e
 ·rename_i e1
  refine ⟨ρ,_,o,e1,fun v H1 s1 r1 => ?_⟩
  cases r1
  refine ⟨true,rfl,?_⟩
  rw [if_pos rfl]
  exact ⟨ρ,d,o.mono s1,e,fun v H2 s2 r2 => k v H2 (s1.trans s2) r2⟩
 ·rename_i e1
  refine ⟨ρ,_,o,e1,fun v H1 s1 r1 => ?_⟩
  cases r1
  refine ⟨false,rfl,?_⟩
  rw [if_neg Bool.false_ne_true]
  cases e
  exact k _ H1 s1 (.bl false)
 ·cases e
theorem nF (ha : PF X G a fa) : PF X G (.UnaryOp .Not a pos) (notF fa):=fun A => Ca (lz (ha A)) fun σ H Q ⟨ρ,d,o,e,k⟩ => by
 unfold notF at e
 split at e
 ·rename_i b e1
  refine ⟨ρ,_,o,e1,fun v H1 s1 r1 => ?_⟩
  cases r1
  cases e
  exact ⟨b,rfl,k _ H1 s1 (.bl _)⟩
 ·cases e
variable {ga gb : FT}
theorem PFW.pt (h : PFW X G a ga) : PFT X G a ga:=fun A => (h A).pt
theorem Ge (h : PFT X G a ga) : PFW X G (.BoolOp .And [a] pos) ga:=fun A => fO (h A)
theorem Km (h : PFT X G a ga) : PFW X G (.BoolOp .Or [a] pos) ga:=fun A => Za (h A)
theorem Ko {rest : List Expr} (ha : PFT X G a ga) (hb : PFW X G (.BoolOp .And (b :: rest) pos) gb) : PFW X G (.BoolOp .And (a :: b :: rest) pos) (andT ga gb):=fun A => bJ (lX (ha A) (hb A)) fun σ H Q ⟨ρ,d,o,e,k⟩ => by
 unfold andT at e
 split at e
 ·rename_i e1
  exact ⟨ρ,_,o,e1,fun H1 s1 => iteT ⟨ρ,d,o.mono s1,e,fun H2 s2 => k H2 (s1.trans s2)⟩⟩
 ·rename_i e1
  cases e
  exact ⟨ρ,_,o,e1,fun H1 s1 => iteF (k H1 s1)⟩
 ·cases e
theorem Py {rest : List Expr} (ha : PFT X G a ga) (hb : PFW X G (.BoolOp .Or (b :: rest) pos) gb) : PFW X G (.BoolOp .Or (a :: b :: rest) pos) (orT ga gb):=fun A => bJ (jZ (ha A) (hb A)) fun σ H Q ⟨ρ,d,o,e,k⟩ => by
 unfold orT at e
 split at e
 ·rename_i e1
  cases e
  exact ⟨ρ,_,o,e1,fun H1 s1 => iteT (k H1 s1)⟩
 ·rename_i e1
  exact ⟨ρ,_,o,e1,fun H1 s1 => iteF ⟨ρ,d,o.mono s1,e,fun H2 s2 => k H2 (s1.trans s2)⟩⟩
 ·cases e
theorem O6 (ha : PFT X G a ga) : PFT X G (.UnaryOp .Not a pos) (notT ga):=fun A => XD (lY (ha A)) fun σ H Q ⟨ρ,d,o,e,k⟩ => by
 unfold notT at e
 cases e1 : ga ρ with
 | none => rw [e1] at e; cases e
 | some b => rw [e1] at e; cases e; exact ⟨ρ,b,o,e1,fun H1 s1 => k H1 s1⟩
theorem Oj {α β : Type} {xs : List α} {ys : List β} (h : xs.length = ys.length) : xs.isEmpty = ys.isEmpty:=by
 cases xs <;> cases ys <;> simp at h ⊢
theorem O7 (ha : PU X G a fa) (hG : G.K = X.K) (he : ∀ whole,isTrue a X.env whole = (do let v <-whole; standAt a.pos; holding [v] (truthy v)):=by intro _; rfl) : PFT X G a (fun ρ => (fa ρ).bind truD):=fun A => XD (Zj (ha A) he) fun σ H Q ⟨ρ,b,o,e,k⟩ => by
 cases e1 : fa ρ with
 | none => simp [e1] at e
 | some d =>
  have e' : truD d = some b:=by simpa [e1] using e
  refine ⟨ρ,d,o,e1,fun v H1 s1 r1 => ⟨b,?_,k H1 s1⟩⟩
  rw [<-hG]
  cases d with
  | non => rw [r1.non]; exact (Option.some.inj e').symm
  | bl b' => rw [r1.bl]; exact (Option.some.inj e').symm
  | int i => rw [r1.int]; exact (Option.some.inj e').symm
  | str y =>
   rw [r1.str]
   simp only [truD] at e'
   split at e'
   ·rename_i hz; exact ⟨hz,(Option.some.inj e').symm⟩
   ·cases e'
  | lst ds =>
   obtain ⟨p,xs,rfl,h1,h2⟩:=r1.lst
   refine .inl ⟨xs,h1,?_⟩
   rw [Oj h2.1]
   exact (Option.some.inj e').symm
  | tup ds =>
   obtain ⟨p,xs,rfl,h1,h2⟩:=r1.tup
   refine .inr (.inl ⟨xs,h1,?_⟩)
   rw [Oj h2.1]
   exact (Option.some.inj e').symm
  | _ => cases e'
theorem j9 (ht : PFT X G c ga) (ha : PF X G a fa) (hb : PF X G b fb) : PF X G (.IfExp c a b pos) (ifF ga fa fb):=fun A => Ca (Zb (ht A) (ha A) (hb A)) fun σ H Q ⟨ρ,d,o,e,k⟩ => by
 unfold ifF at e
 split at e
 ·rename_i e1
  exact ⟨ρ,_,o,e1,fun H1 s1 => iteT ⟨ρ,d,o.mono s1,e,fun v H2 s2 r2 => k v H2 (s1.trans s2) r2⟩⟩
 ·rename_i e1
  exact ⟨ρ,_,o,e1,fun H1 s1 => iteF ⟨ρ,d,o.mono s1,e,fun v H2 s2 r2 => k v H2 (s1.trans s2) r2⟩⟩
 ·cases e
variable {es : List Expr} {fs : FA}
theorem Ad : PFA X G [] nilA:=fun A => j7 Ga fun σ H Q ⟨ρ,ds,o,e,k⟩ => by cases e; exact k [] H (Same.refl H) RepL.nil
theorem Aa (ha : PF X G a fa) (hr : PFA X G es fs) (hs : starEach (a :: es) X.env = (false,eval a X.env) :: starEach es X.env:=by rfl) : PFA X G (a :: es) (Ab fa fs):=fun A => j7 (DK (ha A) (hr A) hs) fun σ H Q ⟨ρ,ds,o,e,k⟩ => by
 unfold Ab at e
 cases e1 : fa ρ with
 | none => simp [e1] at e
 | some d =>
  cases e2 : fs ρ with
  | none => simp [e1,e2] at e
  | some ds' =>
   simp [e1,e2] at e
   subst e
   exact ⟨ρ,d,o,e1,fun v H1 s1 r1 => ⟨ρ,ds',o.mono s1,e2,fun vs H2 s2 r2 => k _ H2 (s1.trans s2) (.cons (r1.mono (Ao s2)) r2)⟩⟩
theorem Fl {x1} (h : PFA X G es fs) : PF X G (.Tuple es x1 pos) (tupF fs):=fun A => Ca (Zo (h A)) fun σ H Q ⟨ρ,d,o,e,k⟩ => by
 unfold tupF at e
 cases e1 : fs ρ with
 | none => simp [e1] at e
 | some ds =>
  rw [e1] at e
  have e' : (if ds.length<=sizeLine then some (D.tup ds) else none) = some d:=e
  split at e'
  ·rename_i hz
   cases e'
   exact ⟨ρ,ds,o,e1,fun vs H1 s1 r1 => ⟨by rw [r1.1]; exact hz,fun p hp => k _ _ (s1.trans (Ar hp _)) (J3 (o.mono s1).live hp r1)⟩⟩
  ·cases e'
theorem Cy (h : PFA X G es fs) : PF X G (.List es pos) (lstF fs):=fun A => Ca (Zq (h A)) fun σ H Q ⟨ρ,d,o,e,k⟩ => by
 unfold lstF at e
 cases e1 : fs ρ with
 | none => simp [e1] at e
 | some ds =>
  rw [e1] at e
  have e' : (if ds.length<=sizeLine then some (D.lst ds) else none) = some d:=e
  split at e'
  ·rename_i hz
   cases e'
   exact ⟨ρ,ds,o,e1,fun vs H1 s1 r1 => ⟨by rw [r1.1]; exact hz,fun p hp => k _ _ (s1.trans (Ar hp _)) (Dm (o.mono s1).live hp r1)⟩⟩
  ·cases e'
theorem bO : Cw G (rIx G.K) ixD:=by
 intro A H x y dx dy d Q lv rx ry h k
 unfold ixD at h
 split at h
 ·obtain ⟨p,xs,rfl,h1,r1⟩:=rx.lst
  obtain ⟨v,h2,r2⟩:=r1.atI h
  exact .inl ⟨p,xs,_,v,rfl,ry.int,h1,h2,k v H (Same.refl H) r2⟩
 ·obtain ⟨p,xs,rfl,h1,r1⟩:=rx.tup
  obtain ⟨v,h2,r2⟩:=r1.atI h
  exact .inr (.inl ⟨p,xs,_,v,rfl,ry.int,h1,h2,k v H (Same.refl H) r2⟩)
 ·split at h
  ·rename_i z i hz
   cases e : atI z.cps.toList i with
   | none => rw [e] at h; cases h
   | some c =>
    rw [e] at h
    cases h
    exact .inr (.inr ⟨z,i,c,rx.str,ry.int,hz,e,k _ H (Same.refl H) (.str _)⟩)
  ·cases h
 ·cases h
theorem p7 (hG : G.K = X.K) (ha : PU X G a fa) (hb : PU X G b fb) (hs : MJ b) : PF X G (.Subscript a b pos) (bF ixD fa fb):=
 fun A => Ca (jd (r:=rIx X.K) Zv (ha A) (hb A) hs) fun _ _ _ h => Px (by rw [<-hG]; exact bO) h
def tFO (G : Gx) (A : List Addr) (f : FO) : TO:=fun σ H Q => ∃ ρ o,Okp G A σ H ρ/\f ρ = some o/\∀ H',Same H H'->Q o H'
def PFO (X : Cx) (G : Gx) (e : Option Expr) (f : FO) : Prop:=∀ A,PO X e (tFO G A f)
theorem j_ {e : Option Expr} {t t' : TO} (h : PO X e t) (w : ∀ σ H Q,t' σ H Q->t σ H Q) : PO X e t':=fun pins s σ H Q I q => h pins s σ H Q I (w σ H Q q)
theorem Ed : PFO X G none noO:=fun A => j_ gB fun σ H Q ⟨ρ,o,ok,e,k⟩ => by cases e; exact k H (Same.refl H)
theorem Dc (h : PU X G a fa) : PFO X G (some a) (someO fa):=fun A => j_ (gC (h A)) fun σ H Q ⟨ρ,o,ok,e,k⟩ => by
 unfold someO at e
 split at e
 ·rename_i i e1
  cases e
  exact ⟨ρ,_,ok,e1,fun v H1 s1 r1 => ⟨i,r1.int,k H1 s1⟩⟩
 ·cases e
theorem RepL.cut {H : Hp} {xs : List V} {ds : List D} (r : RepL G H xs ds) (lo hi : Option Int) : RepL G H (cutV xs lo hi) (cutD ds lo hi):=by
 unfold cutV cutD
 rw [r.1]
 exact (r.drop _).take _
end
end PV
namespace PV
open PySem PySem.Spec L2
open PyProof.Rows hiding St
section
variable {X : Cx} {G : Gx} {a b c : Expr} {fa fb fc : FE} {pos p2 : Pos}
section
open Builtin.Str
theorem Tw (n : Nat) (v : Option Int) (d : Nat) (hd : d<=n) : (match v with | none => (d : Int) | some i => max 0 (min (if i < 0 then i + (n : Int) else i) (n : Int))) = (HT.sIx n d v : Int):=by
 cases v with
 | none => rfl
 | some i =>
  simp only [HT.sIx]
  split <;> omega
theorem gk (n d : Nat) (v : Option Int) (hd : d<=n) : HT.sIx n d v<=n:=by
 cases v with
 | none => exact hd
 | some i => simp only [HT.sIx]; split <;> omega
theorem Vp (lo hi : Option Int) (n : Nat) : strSliceIndices lo hi 1 n = (List.range (HT.sIx n n hi - HT.sIx n 0 lo)).map (fun k => HT.sIx n 0 lo + k):=by
 have h1:=Tw n lo 0 (Nat.zero_le _)
 have h2:=Tw n hi n (Nat.le_refl _)
 have hp : ((1 : Int) > 0):=by decide
 have e : strSliceIndices lo hi 1 n = sliceRange (HT.sIx n 0 lo : Int) (HT.sIx n n hi : Int) 1:=by
  unfold strSliceIndices
  simp only [hp,if_true]
  exact congrFun (congr (congrArg sliceRange h1) h2) 1
 rw [e]
 unfold sliceRange
 simp only [hp,if_true]
 generalize HT.sIx n 0 lo = a
 generalize HT.sIx n n hi = b
 have hc : (if (a : Int) < (b : Int) then ((b : Int) - a + 1 - 1) / 1 else 0).toNat = b - a:=by
  split
  ·rw [Int.ediv_one]; omega
  ·omega
 rw [hc]
 apply List.map_congr_left
 intro k _
 omega
theorem Ys (x : Str) (lo hi : Option Int) : Txt.slice x lo hi = cutS x lo hi:=by
 have hb:=gk x.length x.length hi (Nat.le_refl _)
 have hn : x.cps.toList.length = x.length:=by simp [Str.length]
 unfold Txt.slice cutS cutD
 rw [Vp,hn]
 generalize HT.sIx x.length 0 lo = a at *
 generalize HT.sIx x.length x.length hi = b at *
 rw [List.length_map,List.length_range]
 split
 ·rename_i h
  simp only [Bool.and_eq_true,beq_iff_eq] at h
  have hab : b - a = x.length:=h.2
  by_cases h0 : x.length = 0
  ·have : x.cps.toList = []:=List.length_eq_zero_iff.mp (by omega)
   cases x with
   | mk c =>
    simp at this
    subst this
    simp
  ·have ha : a = 0:=by omega
   subst ha
   have : b = x.length:=by omega
   subst this
   rw [List.drop_zero,Nat.sub_zero,List.take_of_length_le (by omega)]
 ·congr 1
  apply congrArg
  apply List.ext_getElem?
  intro i
  rw [List.filterMap_map]
  have key : ∀ m,m<=b - a->(List.filterMap ((fun k => x.cps[k]?) ∘ fun k => a + k) (List.range m)) = ((x.cps.toList.drop a).take m):=by
   intro m
   induction m with
   | zero => intro _; simp
   | succ m ih =>
    intro hm
    rw [List.range_succ,List.filterMap_append,ih (by omega)]
    have hlt : a + m < x.cps.size:=by have : x.length = x.cps.size:=rfl; omega
    rw [List.take_succ_eq_append_getElem (by simp; omega)]
    simp [hlt]
  rw [key _ (Nat.le_refl _)]
end
def rSlS : V->Option Int->Option Int->Hp->VK->Prop:=fun x lo hi H Q => ∃ z,x = .str z/\z.length<=sizeLine/\Q (.str (Txt.slice z lo hi)) H
theorem nG : SlR X rSlS:=by
 intro pins s σ H x v vl vu lo hi sl Q I rx hs pl pu h
 obtain ⟨z,rfl,hz,q⟩:=h
 obtain ⟨t,rfl⟩:=rx
 obtain ⟨o,e1,e2,e3⟩:=hs
 have fin : ∀ t' k,EP X pins σ Q (.str (Txt.slice z lo hi) t') { s with toks:=k }:=fun t' k => ⟨.str _,H,I.tok _,⟨t',rfl⟩,q⟩
 have hl:=Nat.le_trans (Txt.slice_le z lo hi) hz
 refine ⟨"str",_,PySem.F.slot_str_getitem.lookup,typeIs_str _ _ _,?_⟩
 cases pl with
 | none =>
  cases pu with
  | none => exact wpAny_getItem_str_slice (l:=none) (u:=none) (st:=none) ⟨o,e1,e2,e3⟩ rfl (post_val_or_str ⟨hl,fin⟩)
  | int j uj => exact wpAny_getItem_str_slice (l:=none) (u:=some (j,uj)) (st:=none) ⟨o,e1,e2,e3⟩ rfl (post_val_or_str ⟨hl,fin⟩)
 | int i ui =>
  cases pu with
  | none => exact wpAny_getItem_str_slice (l:=some (i,ui)) (u:=none) (st:=none) ⟨o,e1,e2,e3⟩ rfl (post_val_or_str ⟨hl,fin⟩)
  | int j uj => exact wpAny_getItem_str_slice (l:=some (i,ui)) (u:=some (j,uj)) (st:=none) ⟨o,e1,e2,e3⟩ rfl (post_val_or_str ⟨hl,fin⟩)
def rSl (K : PySem.W.Frag) : V->Option Int->Option Int->Hp->VK->Prop:=fun x lo hi H Q => rSlL K x lo hi H Q ∨ (rSlT K x lo hi H Q ∨ rSlS x lo hi H Q)
theorem nH : SlR X (rSl X.K):=gF.or (mV.or nG)
theorem Dn {lo hi : Option Expr} {gl gh : FO} (hG : G.K = X.K) (ha : PU X G a fa) (hl : PFO X G lo gl) (hh : PFO X G hi gh) : PF X G (.Subscript a (.Slice lo hi none p2) pos) (slF fa gl gh):=fun A => Ca (Zu (nH (X:=X)) (ha A) (hl A) (hh A)) fun σ H Q ⟨ρ,d,o,e,k⟩ => by
 unfold slF at e
 cases e1 : fa ρ with
 | none => simp [e1] at e
 | some x =>
  cases e2 : gl ρ with
  | none => simp [e1,e2] at e
  | some l =>
   cases e3 : gh ρ with
   | none => simp [e1,e2,e3] at e
   | some h =>
    have e' : slD x l h = some d:=by simpa [e1,e2,e3] using e
    refine ⟨ρ,x,o,e1,fun v H1 s1 r1 => ⟨ρ,l,o.mono s1,e2,fun H2 s2 => ⟨ρ,h,(o.mono s1).mono s2,e3,fun H3 s3 => ?_⟩⟩⟩
    have r3:=(r1.mono s2).mono s3
    have o3:=((o.mono s1).mono s2).mono s3
    have s0:=s1.trans (s2.trans s3)
    unfold slD at e'
    split at e'
    ·cases e'
     obtain ⟨p,xs,rfl,h1,r⟩:=r3.lst
     exact .inl ⟨p,xs,rfl,by rw [<-hG]; exact h1,fun q hq => k _ _ (s0.trans (Ar hq _)) (Dm o3.live hq (r.cut _ _))⟩
    ·split at e'
     ·cases e'
     ·rename_i hw
      cases e'
      obtain ⟨p,xs,rfl,h1,r⟩:=r3.tup
      exact .inr (.inl ⟨p,xs,rfl,by rw [<-hG]; exact h1,by rw [r.1]; exact hw,fun q hq => k _ _ (s0.trans (Ar hq _)) (J3 o3.live hq (r.cut _ _))⟩)
    ·split at e'
     ·rename_i hz
      cases e'
      refine .inr (.inr ⟨_,r3.str,hz,?_⟩)
      rw [Ys]
      exact k _ _ s0 (.str _)
     ·cases e'
    ·cases e'
theorem R5 {A : List Addr} {H : Hp} {v u : V} {d : D} (r : RepT G A H v d) (h : flV d = some u) : v = u/\Jw v = true:=by
 cases d with
 | non => cases h; rw [r.non]; exact ⟨rfl,rfl⟩
 | bl b => cases h; rw [r.bl]; exact ⟨rfl,rfl⟩
 | int b => cases h; rw [r.int]; exact ⟨rfl,rfl⟩
 | str b => cases h; rw [r.str]; exact ⟨rfl,rfl⟩
 | _ => cases h
theorem Tz {H : Hp} : ∀ {ds : List D} {xs us : List V},RepL G H xs ds->flVs ds = some us->xs = us/\xs.all Jw = true
 | [],xs,us,r,h => by cases h; rw [r.nil_inv]; exact ⟨rfl,rfl⟩
 | d :: ds,xs,us,r,h => by
  obtain ⟨x,ys,rfl,r1,r2⟩:=r.uncons
  unfold flVs at h
  cases e1 : flV d with
  | none => simp [e1] at h
  | some v =>
   cases e2 : flVs ds with
   | none => simp [e1,e2] at h
   | some vs =>
    simp [e1,e2] at h
    subst h
    have q : Rep G (hid [] H) x d:=r1.mono fun b o z => z
    obtain ⟨z1,z2⟩:=R5 (A:=[]) (.inl q) e1
    obtain ⟨z3,z4⟩:=Tz r2 e2
    subst z1
    subst z3
    exact ⟨rfl,by rw [List.all_cons,z2,z4]; rfl⟩
def rInA (K : PySem.W.Frag) (neg : Bool) : R2:=fun x y H Q => rIn K neg x y H Q ∨ ∃ i j,x = .str i/\y = .str j/\Q (.bl (if neg then !(!(Builtin.Str.occurrences j i 0 j.length 1).isEmpty) else !(Builtin.Str.occurrences j i 0 j.length 1).isEmpty)) H
theorem Vq : OpR X (compareOp .In) (rInA X.K false):=Ym.or Yg
theorem Yt : OpR X (compareOp .NotIn) (rInA X.K true):=Rw.or Rr
theorem bQ (neg : Bool) : Cw G (rInA G.K neg) (inD neg):=by
 intro A H x y dx dy d Q lv rx ry h k
 have seq : ∀ {ds : List D} {p : Addr} {xs : List V},y = .ref p->(SqL G.K H p xs ∨ SqT G.K H p xs)->RepL G (hid A H) xs ds->((flV dx).bind fun v => (flVs ds).map fun vs => D.bl (if neg then !inV v vs else inV v vs)) = some d->rIn G.K neg x y H Q:=fun {ds p xs} ey hq r h => by
  cases e1 : flV dx with
  | none => simp [e1] at h
  | some v =>
   cases e2 : flVs ds with
   | none => simp [e1,e2] at h
   | some vs =>
    rw [e1,e2] at h
    cases h
    obtain ⟨z1,z2⟩:=R5 rx e1
    obtain ⟨z3,z4⟩:=Tz r e2
    subst z1
    subst z3
    exact ⟨p,xs,ey,hq,z2,z4,k _ H (Same.refl H) (.bl _)⟩
 unfold inD at h
 split at h
 ·cases h; exact .inr ⟨_,_,rx.str,ry.str,k _ H (Same.refl H) (.bl _)⟩
 ·obtain ⟨p,xs,e,h1,r⟩:=ry.lst
  exact .inl (seq e (.inl h1) r h)
 ·obtain ⟨p,xs,e,h1,r⟩:=ry.tup
  exact .inl (seq e (.inr h1) r h)
 ·cases h
def eAt (f : D->D->Option Bool) (xs ys : List D) (j : Nat) : Bool:=match xs[j]?,ys[j]? with | some x,some y => (f x y).getD false | _,_ => false
theorem Nx {f : D->D->Option Bool} : ∀ {xs ys : List D} {b : Bool},allO f xs ys = some b->xs.length = ys.length/\(∀ (j : Nat) x y,xs[j]? = some x->ys[j]? = some y->f x y = some (eAt f xs ys j))/\b = (List.range xs.length).all (eAt f xs ys)
 | [],[],b,h => by cases h; exact ⟨rfl,fun j x y h => by simp at h,rfl⟩
 | [],_ :: _,b,h => by cases h
 | _ :: _,[],b,h => by cases h
 | x :: xs,y :: ys,b,h => by
  unfold allO at h
  split at h
  ·rename_i a c e1 e2
   cases h
   obtain ⟨h1,h2,h3⟩:=Nx e2
   refine ⟨by simp [h1],fun j u v hu hv => ?_,?_⟩
   ·cases j with
    | zero => simp at hu hv; subst hu; subst hv; rw [e1]; simp [eAt,e1]
    | succ j =>
     have:=h2 j u v (by simpa using hu) (by simpa using hv)
     rw [this]
     simp [eAt]
   ·rw [List.length_cons,List.range_succ_eq_map,List.all_cons,List.all_map]
    have z : eAt f (x :: xs) (y :: ys) 0 = a:=by simp [eAt,e1]
    rw [z,h3]
    rfl
  ·cases h
theorem bR {u : V} (h : Jw u = true) : eqV u u = true:=by
 cases u <;> simp [eqV] <;> cases h
theorem O8 {H : Hp} {v : V} {d : D} {u : V} (r : Rep G H v d) (h : flV d = some u) : v = u/\Jw v = true:=R5 (A:=[]) (.inl (r.mono fun b o z => by rw [Bv List.not_mem_nil]; exact z)) h
section
variable {pins : List (Addr × Obj)} {σ : St} {H : Hp} {s : Shared}
theorem T3 (I : Inv X pins σ H s) (hG : G.K = X.K) : ∀ (n : Nat) {x y : D} {v : V} {b : Bool},eqK n x y = some b->Rep G H v x->Rep G H v y->b = true:=by
 have flat : ∀ {x y : D} {v : V} {b : Bool},flD x y = some b->Rep G H v x->Rep G H v y->b = true:=fun {x y v b} h rx ry => by
  unfold flD at h
  cases e1 : flV x with
  | none => simp [e1] at h
  | some u =>
   cases e2 : flV y with
   | none => simp [e1,e2] at h
   | some w =>
    simp [e1,e2] at h
    obtain ⟨z1,z2⟩:=O8 rx e1
    obtain ⟨z3,_⟩:=O8 ry e2
    rw [<-h,<-z1,<-z3]
    exact bR z2
 intro n
 induction n with
 | zero => intro x y v b h rx ry; exact flat h rx ry
 | succ n ih =>
  have items : ∀ {xs : List V} {ds es : List D} {b : Bool},allO (eqK n) ds es = some b->RepL G H xs ds->RepL G H xs es->b = true:=fun {xs ds es b} h r1 r2 => by
   obtain ⟨h1,h2,h3⟩:=Nx h
   rw [h3,List.all_eq_true]
   intro j hj
   have hj' : j < ds.length:=List.mem_range.mp hj
   have hx : xs[j]? = some (xs[j]'(by rw [r1.1]; exact hj')):=by simp [r1.1,hj']
   have hd : ds[j]? = some ds[j]:=by simp [hj']
   have he : es[j]? = some (es[j]'(by omega)):=List.getElem?_eq_getElem (by omega)
   exact ih (h2 j _ _ hd he) (r1.2 j _ _ hx hd) (r2.2 j _ _ hx he)
  intro x y v b h rx ry
  unfold eqK eqS at h
  split at h
  ·split at h
   ·cases rx with
    | lst h1 l1 r1 =>
     cases ry with
     | lst h2 l2 r2 =>
      have e:=I.list_inj (by rw [<-hG]; exact h1) (by rw [<-hG]; exact h2)
      subst e
      exact items h ⟨l1,r1⟩ ⟨l2,r2⟩
   ·rename_i hne
    cases rx with
    | lst h1 l1 r1 =>
     cases ry with
     | lst h2 l2 r2 =>
      have e:=I.list_inj (by rw [<-hG]; exact h1) (by rw [<-hG]; exact h2)
      subst e
      exact absurd (l1.symm.trans l2) hne
  ·split at h
   ·cases rx with
    | tup h1 l1 r1 =>
     cases ry with
     | tup h2 l2 r2 =>
      have e:=I.tuple_inj (by rw [<-hG]; exact h1) (by rw [<-hG]; exact h2)
      subst e
      exact items h ⟨l1,r1⟩ ⟨l2,r2⟩
   ·cases h
  ·exact flat h rx ry
theorem JF {A : Around} {n : Nat} {ds es : List D} {b : Bool} {xs ys : List V} {its jts : List Value} (ih : ∀ {x y : D} {v w : V} {u1 u2 : Value} {b : Bool},eqK n x y = some b->Rep G H v x->Rep G H w y->RelV v u1->RelV w u2->SeqAt.EqAt A s u1 u2 b)
  (h : allO (eqK n) ds es = some b) (r1 : RepL G H xs ds) (r2 : RepL G H ys es) (v1 : Vals xs its) (v2 : Vals ys jts) :
  its.toArray.size = jts.toArray.size/\b = (List.range its.toArray.size).all (eAt (eqK n) ds es)/\∀ j (h1 : j < its.toArray.size) (h2 : j < jts.toArray.size),SeqAt.EqAt A s its.toArray[j] jts.toArray[j] (eAt (eqK n) ds es j):=by
 obtain ⟨h1,h2,h3⟩:=Nx h
 have l1:=v1.length
 have l2:=v2.length
 have q1:=r1.1
 have q2:=r2.1
 have z1 : its.toArray.size = ds.length:=by rw [List.size_toArray]; omega
 refine ⟨by rw [List.size_toArray,List.size_toArray]; omega,by rw [z1]; exact h3,fun j j1 j2 => ?_⟩
 rw [List.size_toArray] at j1 j2
 have jx : j < xs.length:=by omega
 have jy : j < ys.length:=by omega
 have hx : xs[j]? = some xs[j]:=by simp [jx]
 have hy : ys[j]? = some ys[j]:=by simp [jy]
 have hd : ds[j]? = some (ds[j]'(by omega)):=List.getElem?_eq_getElem (by omega)
 have he : es[j]? = some (es[j]'(by omega)):=List.getElem?_eq_getElem (by omega)
 obtain ⟨u,eu,ru⟩:=v1.get hx
 obtain ⟨w,ew,rw'⟩:=v2.get hy
 have a1 : its.toArray[j] = u:=by simpa [List.getElem?_eq_getElem j1] using eu
 have a2 : jts.toArray[j] = w:=by simpa [List.getElem?_eq_getElem j2] using ew
 rw [a1,a2]
 exact ih (h2 j _ _ hd he) (r1.2 j _ _ hx hd) (r2.2 j _ _ hy he) ru rw'
theorem R6 {ds es : List D} {xs ys : List V} {its jts : List Value} (h : ds.length ≠ es.length) (r1 : RepL G H xs ds) (r2 : RepL G H ys es) (v1 : Vals xs its) (v2 : Vals ys jts) : (its.toArray.size != jts.toArray.size) = true:=by
 have l1:=v1.length
 have l2:=v2.length
 have q1:=r1.1
 have q2:=r2.1
 rw [List.size_toArray,List.size_toArray]
 exact bne_iff_ne.mpr (by omega)
theorem Ny (I : Inv X pins σ H s) (hG : G.K = X.K) : ∀ (n : Nat) (A : Around),A.units + n < cLine->∀ {x y : D} {v w : V} {u1 u2 : Value} {b : Bool},eqK n x y = some b->Rep G H v x->Rep G H w y->RelV v u1->RelV w u2->SeqAt.EqAt A s u1 u2 b:=by
 have flat : ∀ {A : Around} {x y : D} {v w : V} {u1 u2 : Value} {b : Bool},flD x y = some b->Rep G H v x->Rep G H w y->RelV v u1->RelV w u2->SeqAt.EqAt A s u1 u2 b:=fun {A x y v w u1 u2 b} h rx ry q1 q2 => by
  unfold flD at h
  cases e1 : flV x with
  | none => simp [e1] at h
  | some u =>
   cases e2 : flV y with
   | none => simp [e1,e2] at h
   | some w =>
    simp [e1,e2] at h
    obtain ⟨z1,z2⟩:=O8 rx e1
    obtain ⟨z3,z4⟩:=O8 ry e2
    rw [<-h,<-z1,<-z3]
    exact Zw q1 q2 z2 z4
 intro n
 induction n with
 | zero => intro A hu x y v w u1 u2 b h rx ry q1 q2; exact flat h rx ry q1 q2
 | succ n ih =>
  intro A hu x y v w u1 u2 b h rx ry q1 q2
  have h':=h
  have hu1 : A.in1.units + n < cLine:=by show A.units + 1 + n < cLine; omega
  have hu0 : A.units < cLine:=by omega
  unfold eqK eqS at h
  split at h
  ·cases rx with
   | @lst a _ _ h1 l1 r1 =>
    cases ry with
    | @lst c _ _ h2 l2 r2 =>
     obtain rfl : u1 = .ref a:=q1
     obtain rfl : u2 = .ref c:=q2
     obtain ⟨its,v1,p1,_⟩:=I.list (by rw [<-hG]; exact h1)
     obtain ⟨jts,v2,p2,_⟩:=I.list (by rw [<-hG]; exact h2)
     by_cases hac : a = c
     ·subst hac
      have:=T3 I hG (n + 1) h' (.lst h1 l1 r1) (.lst h2 l2 r2)
      subst this
      exact SeqAt.EqAt.same _
     ·split at h
      ·obtain ⟨z1,z2,z3⟩:=JF (fun q => ih A.in1 hu1 q) h ⟨l1,r1⟩ ⟨l2,r2⟩ v1 v2
       rw [z2]
       exact SeqAt.EqAt.of_refs hac (SeqAt.RcAt.lists p1.isList p2.isList z1 hu0 z3)
      ·rename_i hne
       cases h
       exact SeqAt.EqAt.of_refs hac (SeqAt.RcAt.lists_lengths p1.isList p2.isList (R6 hne ⟨l1,r1⟩ ⟨l2,r2⟩ v1 v2) hu0)
  ·cases rx with
   | @tup a _ _ h1 l1 r1 =>
    cases ry with
    | @tup c _ _ h2 l2 r2 =>
     obtain rfl : u1 = .ref a:=q1
     obtain rfl : u2 = .ref c:=q2
     obtain ⟨its,v1,p1,_⟩:=I.tuple (by rw [<-hG]; exact h1)
     obtain ⟨jts,v2,p2,_⟩:=I.tuple (by rw [<-hG]; exact h2)
     by_cases hac : a = c
     ·subst hac
      have:=T3 I hG (n + 1) h' (.tup h1 l1 r1) (.tup h2 l2 r2)
      subst this
      exact SeqAt.EqAt.same _
     ·split at h
      ·obtain ⟨z1,z2,z3⟩:=JF (fun q => ih A.in1 hu1 q) h ⟨l1,r1⟩ ⟨l2,r2⟩ v1 v2
       have q:=SeqAt.RcAt.tuples (show s.heap.IsTuple a its.toArray from p1) (show s.heap.IsTuple c jts.toArray from p2) hu0 z3
       rw [z1,Nat.min_self,beq_self_eq_true,Bool.and_true,<-z1,<-z2] at q
       exact SeqAt.EqAt.of_refs hac q
      ·cases h
  ·exact flat h rx ry q1 q2
end
def rEqP (G : Gx) (neg : Bool) : R2:=fun x y H Q => ∃ (A : List Addr) (ds es : List D) (b : Bool),eqvD (.lst ds) (.lst es) = some b/\((RepT G A H x (.lst ds)/\RepT G A H y (.lst es)) ∨ (ds.length = es.length/\RepT G A H x (.tup ds)/\RepT G A H y (.tup es)))/\Q (.bl (if neg then !b else b)) H
theorem nJ (hG : G.K = X.K) (hu : X.A.units + 64 < cLine) : OpR X (compareOp .Eq) (rEqP G false):=by
 intro pins s σ H x y v u Q I rx ry h
 obtain ⟨A,ds,es,b,e,hr,k⟩:=h
 have fin : EP X pins σ Q (.bool b) s:=⟨.bl b,H,I,rfl,k⟩
 simp only [eqvD] at e
 rcases hr with ⟨r1,r2⟩ | ⟨hl,r1,r2⟩
 ·obtain ⟨a,xs,rfl,h1,q1⟩:=r1.lst
  obtain ⟨c,ys,rfl,h2,q2⟩:=r2.lst
  cases rx
  cases ry
  obtain ⟨its,v1,p1,_⟩:=I.list (by rw [<-hG]; exact h1)
  obtain ⟨jts,v2,p2,_⟩:=I.list (by rw [<-hG]; exact h2)
  split at e
  ·obtain ⟨z1,z2,z3⟩:=JF (fun q => Ny I hG 62 X.A.in1 (by show X.A.units + 1 + 62 < cLine; omega) q) e (q1.mono Az) (q2.mono Az) v1 v2
   exact SeqAt.RcAt.lists p1.isList p2.isList z1 (by omega) z3 _ _ _ _ (by rw [<-z2]; exact fin)
  ·rename_i hne
   cases e
   exact SeqAt.RcAt.lists_lengths p1.isList p2.isList (R6 hne q1 q2 v1 v2) (by omega) _ _ _ _ fin
 ·obtain ⟨a,xs,rfl,h1,q1⟩:=r1.tup
  obtain ⟨c,ys,rfl,h2,q2⟩:=r2.tup
  cases rx
  cases ry
  obtain ⟨its,v1,p1,_⟩:=I.tuple (by rw [<-hG]; exact h1)
  obtain ⟨jts,v2,p2,_⟩:=I.tuple (by rw [<-hG]; exact h2)
  rw [if_pos hl] at e
  obtain ⟨z1,z2,z3⟩:=JF (fun q => Ny I hG 62 X.A.in1 (by show X.A.units + 1 + 62 < cLine; omega) q) e (q1.mono Az) (q2.mono Az) v1 v2
  have q:=SeqAt.RcAt.tuples (show s.heap.IsTuple a its.toArray from p1) (show s.heap.IsTuple c jts.toArray from p2) (by omega) z3
  rw [z1,Nat.min_self,beq_self_eq_true,Bool.and_true,<-z1,<-z2] at q
  exact q _ _ _ _ fin
theorem nM (hG : G.K = X.K) (hu : X.A.units + 64 < cLine) : OpR X (compareOp .NotEq) (rEqP G true):=by
 intro pins s σ H x y v u Q I rx ry h
 obtain ⟨A,ds,es,b,e,hr,k⟩:=h
 have fin : EP X pins σ Q (.bool (!b)) s:=⟨.bl (!b),H,I,rfl,k⟩
 simp only [eqvD] at e
 rcases hr with ⟨r1,r2⟩ | ⟨hl,r1,r2⟩
 ·obtain ⟨a,xs,rfl,h1,q1⟩:=r1.lst
  obtain ⟨c,ys,rfl,h2,q2⟩:=r2.lst
  cases rx
  cases ry
  obtain ⟨its,v1,p1,_⟩:=I.list (by rw [<-hG]; exact h1)
  obtain ⟨jts,v2,p2,_⟩:=I.list (by rw [<-hG]; exact h2)
  split at e
  ·obtain ⟨z1,z2,z3⟩:=JF (fun q => Ny I hG 62 X.A.in1 (by show X.A.units + 1 + 62 < cLine; omega) q) e (q1.mono Az) (q2.mono Az) v1 v2
   exact SeqAt.RcNeAt.lists p1.isList p2.isList z1 (by omega) z3 _ _ _ _ (by rw [<-z2]; exact fin)
  ·rename_i hne
   cases e
   exact SeqAt.RcNeAt.lists_lengths p1.isList p2.isList (R6 hne q1 q2 v1 v2) (by omega) _ _ _ _ fin
 ·obtain ⟨a,xs,rfl,h1,q1⟩:=r1.tup
  obtain ⟨c,ys,rfl,h2,q2⟩:=r2.tup
  cases rx
  cases ry
  obtain ⟨its,v1,p1,_⟩:=I.tuple (by rw [<-hG]; exact h1)
  obtain ⟨jts,v2,p2,_⟩:=I.tuple (by rw [<-hG]; exact h2)
  rw [if_pos hl] at e
  obtain ⟨z1,z2,z3⟩:=JF (fun q => Ny I hG 62 X.A.in1 (by show X.A.units + 1 + 62 < cLine; omega) q) e (q1.mono Az) (q2.mono Az) v1 v2
  have q:=SeqAt.RcNeAt.tuples (show s.heap.IsTuple a its.toArray from p1) (show s.heap.IsTuple c jts.toArray from p2) (by omega) z3
  rw [z1,Nat.min_self,beq_self_eq_true,Bool.and_true,<-z1,<-z2] at q
  exact q _ _ _ _ fin
def rEqA (G : Gx) (neg : Bool) : R2:=fun x y H Q => (fun x y H Q => scal x y = true/\Q (.bl (if neg then !decide (x = y) else decide (x = y))) H) x y H Q ∨ rEqP G neg x y H Q
theorem R7 (hG : G.K = X.K) (hu : X.A.units + 64 < cLine) : OpR X (compareOp .Eq) (rEqA G false):=pJ.or (nJ hG hu)
theorem nO (hG : G.K = X.K) (hu : X.A.units + 64 < cLine) : OpR X (compareOp .NotEq) (rEqA G true):=pK.or (nM hG hu)
theorem R8 {α β : Type} [DecidableEq α] [DecidableEq β] {f : α->β} (h : ∀ a b,f a = f b->a = b) (a b : α) : decide (f a = f b) = decide (a = b):=by
 by_cases e : a = b
 ·subst e; simp
 ·rw [decide_eq_false e,decide_eq_false fun z => e (h a b z)]
theorem R9 (neg : Bool) : Cw G (rEqA G neg) (eqD neg):=by
 intro A H x y dx dy d Q lv rx ry h k
 unfold eqD at h
 cases e : eqvD dx dy with
 | none => simp [e] at h
 | some b =>
  simp only [e,Option.map_some] at h
  cases h
  unfold eqvD at e
  split at e
  ·cases e
   rw [rx.int,ry.int]
   refine .inl ⟨rfl,?_⟩
   rw [R8 (f:=V.int) (fun a b z => by cases z; rfl)]
   exact k _ H (Same.refl H) (.bl _)
  ·cases e
   rw [rx.str,ry.str]
   refine .inl ⟨rfl,?_⟩
   rw [R8 (f:=V.str) (fun a b z => by cases z; rfl)]
   exact k _ H (Same.refl H) (.bl _)
  ·cases e
   rw [rx.bl,ry.bl]
   refine .inl ⟨rfl,?_⟩
   rw [R8 (f:=V.bl) (fun a b z => by cases z; rfl)]
   exact k _ H (Same.refl H) (.bl _)
  ·exact .inr ⟨A,_,_,b,e,.inl ⟨rx,ry⟩,k _ H (Same.refl H) (.bl _)⟩
  ·split at e
   ·rename_i hl
    exact .inr ⟨A,_,_,b,(by simp only [eqvD]; rw [if_pos hl]; exact e),.inr ⟨hl,rx,ry⟩,k _ H (Same.refl H) (.bl _)⟩
   ·cases e
  ·cases e
def SndC (G : Gx) (r : List V->Hp->VK->Prop) (g : D->Option D) : Prop:=∀ (A : List Addr) (H : Hp) (x : V) (dx d : D) (Q : VK),(∀ a ∈ A,Nt (H a))->RepT G A H x dx->g dx = some d->(∀ v H',Same H H'->Rep G (hid A H') v d->Q v H')->r [x] H Q
def XF (G : Gx) (r : List V->Hp->VK->Prop) (g : D->D->Option D) : Prop:=∀ (A : List Addr) (H : Hp) (x y : V) (dx dy d : D) (Q : VK),(∀ a ∈ A,Nt (H a))->RepT G A H x dx->RepT G A H y dy->g dx dy = some d->(∀ v H',Same H H'->Rep G (hid A H') v d->Q v H')->r [x,y] H Q
theorem Ja {g : D->Option D} {ρ : Rho} {d : D} (h : uF g fa ρ = some d) : ∃ x,fa ρ = some x/\g x = some d:=by
 unfold uF at h
 cases e : fa ρ with
 | none => simp [e] at h
 | some x => exact ⟨x,rfl,by simpa [e] using h⟩
theorem bT {r : List V->Hp->VK->Prop} {g : D->Option D} (s : SndC G r g) {A : List Addr} {σ : St} {H : Hp} {Q : VK} (h : tF G A (uF g fa) σ H Q) : tCB r (WY (tT G A fa) tNil) σ H Q:=by
 obtain ⟨ρ,d,o,e,k⟩:=h
 obtain ⟨x,e1,e2⟩:=Ja e
 exact ⟨ρ,x,o,e1,fun v H1 s1 r1 => s A H1 v x d Q (o.mono s1).live r1 e2 fun w H2 s2 r2 => k w H2 (s1.trans s2) r2⟩
theorem gm {r : List V->Hp->VK->Prop} {g : D->D->Option D} (s : XF G r g) {A : List Addr} {σ : St} {H : Hp} {Q : VK} (h : tF G A (bF g fa fb) σ H Q) : tCB r (WY (tT G A fa) (WY (tT G A fb) tNil)) σ H Q:=by
 obtain ⟨ρ,d,o,e,k⟩:=h
 obtain ⟨x,y,e1,e2,e3⟩:=R3 e
 exact ⟨ρ,x,o,e1,fun v H1 s1 r1 => ⟨ρ,y,o.mono s1,e2,fun u H2 s2 r2 => s A H2 v u x y d Q ((o.mono s1).mono s2).live (r1.mono s2) r2 e3 fun w H3 s3 r3 => k w H3 (s1.trans (s2.trans s3)) r3⟩⟩
theorem BP {x : Str} {p : Pos} {id : String} {r : List V->Hp->VK->Prop} {g : D->Option D} (hc : Dh X (.builtin id) r) (s : SndC G r g) (hg : Gl X x) (hm : X.mg x = none) (hv : bootBuiltins x = some (.builtin id)) (ha : PU X G a fa)
  (hn : x ≠ "__name__":=by decide) (hdb : (x == ("__debug__" : Str)) = false:=by decide) (he : starEach [a] X.env = [(false,eval a X.env)]:=by rfl) : PF X G (.Call (.Name x p) [a] [] pos) (uF g fa):=
 fun A => Ca (L_ hc hg hm hv (DK (ha A) Ga he) hn hdb he rfl) fun _ _ _ h => bT s h
theorem Mm {x : Str} {p : Pos} {id : String} {r : List V->Hp->VK->Prop} {g : D->D->Option D} (hc : Dh X (.builtin id) r) (s : XF G r g) (hg : Gl X x) (hm : X.mg x = none) (hv : bootBuiltins x = some (.builtin id)) (ha : PU X G a fa) (hb : PU X G b fb)
  (hn : x ≠ "__name__":=by decide) (hdb : (x == ("__debug__" : Str)) = false:=by decide) (he : starEach [a,b] X.env = (false,eval a X.env) :: starEach [b] X.env:=by rfl) (he2 : starEach [b] X.env = [(false,eval b X.env)]:=by rfl) : PF X G (.Call (.Name x p) [a,b] [] pos) (bF g fa fb):=
 fun A => Ca (L_ hc hg hm hv (DK (ha A) (DK (hb A) Ga he2) he) hn hdb he (by rw [he2]; rfl)) fun _ _ _ h => gm s h
theorem Gf {x : Str} {p : Pos} {T : String} {r : List V->Hp->VK->Prop} {g : D->Option D} (hc : Dh X (.type T) r) (s : SndC G r g) (hg : Gl X x) (hm : X.mg x = none) (hv : bootBuiltins x = some (.type T)) (ha : PU X G a fa)
  (hn : x ≠ "__name__":=by decide) (hdb : (x == ("__debug__" : Str)) = false:=by decide) (he : starEach [a] X.env = [(false,eval a X.env)]:=by rfl) : PF X G (.Call (.Name x p) [a] [] pos) (uF g fa):=
 fun A => Ca (Nj hc hg hm hv (DK (ha A) Ga he) hn hdb he rfl) fun _ _ _ h => bT s h
theorem Hu : SndC G (fun xs H Q => ∃ x n,xs = [x]/\LenV G.K x H n/\Q (.int n) H) lenD:=by
 intro A H x dx d Q lv rx h k
 unfold lenD at h
 split at h
 ·split at h
  ·rename_i hz; cases h; rw [rx.str]; exact ⟨_,_,rfl,⟨hz,rfl⟩,k _ H (Same.refl H) (.int _)⟩
  ·cases h
 ·cases h
  obtain ⟨p,xs,rfl,h1,r⟩:=rx.lst
  exact ⟨_,_,rfl,.inl ⟨xs,h1,rfl⟩,by rw [r.1]; exact k _ H (Same.refl H) (.int _)⟩
 ·cases h
  obtain ⟨p,xs,rfl,h1,r⟩:=rx.tup
  exact ⟨_,_,rfl,.inr ⟨xs,h1,rfl⟩,by rw [r.1]; exact k _ H (Same.refl H) (.int _)⟩
 ·cases h
theorem BX (hG : G.K = X.K) : Dh X (.builtin "len") (fun xs H Q => ∃ x n,xs = [x]/\LenV G.K x H n/\Q (.int n) H):=by rw [hG]; exact Zk
theorem Pz : XF G (fun xs H Q => ∃ i j,xs = [.int i,.int j]/\Q (.int (if j > i then j else i)) H) maxD:=by
 intro A H x y dx dy d Q lv rx ry h k
 obtain ⟨i,j,rfl,rfl,h⟩:=Mi h
 cases h
 exact ⟨i,j,by rw [rx.int,ry.int],k _ H (Same.refl H) (.int _)⟩
theorem bU : XF G (fun xs H Q => ∃ i j,xs = [.int i,.int j]/\Q (.int (if j < i then j else i)) H) minD:=by
 intro A H x y dx dy d Q lv rx ry h k
 obtain ⟨i,j,rfl,rfl,h⟩:=Mi h
 cases h
 exact ⟨i,j,by rw [rx.int,ry.int],k _ H (Same.refl H) (.int _)⟩
theorem bV : SndC G (fun xs H Q => ∃ p ys,xs = [.ref p]/\(SqL G.K H p ys ∨ SqT G.K H p ys)/\∀ l,H l = none->Q (.ref l) (upd H l (.lst ys))) aA:=by
 intro A H x dx d Q lv rx h k
 unfold aA at h
 split at h
 ·cases h
  obtain ⟨p,xs,rfl,h1,r⟩:=rx.lst
  exact ⟨p,xs,rfl,.inl h1,fun l hl => k _ _ (Ar hl _) (Dm lv hl r)⟩
 ·cases h
  obtain ⟨p,xs,rfl,h1,r⟩:=rx.tup
  exact ⟨p,xs,rfl,.inr h1,fun l hl => k _ _ (Ar hl _) (Dm lv hl r)⟩
 ·cases h
theorem XH : SndC G (fun xs H Q => (∃ i,xs = [.int i]/\Q (.int i) H) ∨ ∃ k,xs = [.bl k]/\Q (.int (if k then 1 else 0)) H) intD:=by
 intro A H x dx d Q lv rx h k
 unfold intD at h
 split at h
 ·cases h; exact .inl ⟨_,by rw [rx.int],k _ H (Same.refl H) (.int _)⟩
 ·cases h; exact .inr ⟨_,by rw [rx.bl],k _ H (Same.refl H) (.int _)⟩
 ·cases h
theorem Ih (ha : PU X G a fa) : PF X G (.UnaryOp .USub a pos) (uF negD fa):=fun A => Ca (pI mO (ha A)) fun σ H Q ⟨ρ,d,o,e,k⟩ => by
 obtain ⟨x,e1,e2⟩:=Ja e
 refine ⟨ρ,x,o,e1,fun v H1 s1 r1 => ?_⟩
 unfold negD at e2
 split at e2
 ·cases e2; exact ⟨_,r1.int,k _ H1 s1 (.int _)⟩
 ·cases e2
end
end PV
namespace PV
open PySem PySem.Spec L2
open PyProof.Rows hiding St
def kE (G : Gx) (F2 H H' : Hp) (x : V) (d : D) : Prop:=Same H H'/\∀ B : List Addr,(∀ a ∈ B,Nt (H a))->Same F2 (hid B H)->Rep G (hid B H') x d
theorem Nz {G : Gx} {F2 H H' : Hp} {x : V} {d : D} (h : H' = H/\Rep G F2 x d) : kE G F2 H H' x d:=by
 obtain ⟨rfl,r⟩:=h
 exact ⟨Same.refl _,fun B _ sm => r.mono sm⟩
structure Src (G : Gx) (J : It) (ds : List D) (F1 F2 : Hp) : Prop where
 go : ∀ i H,Same F1 H->i < ds.length->J.go i H
 yld : ∀ i H x H' d,Same F1 H->ds[i]? = some d->J.yld i H x H'->kE G F2 H H' x d
 stop : ∀ i H,Same F1 H->ds.length<=i->J.stop i H
def tI (G : Gx) (A : List Addr) (top : Bool) (f : FI) : TI:=fun σ H R => ∃ ρ ds,Okp G A σ H ρ/\f ρ = some ds/\∀ J H1,Same H H1->Src G J ds (if top then H1 else hid A H1) (hid A H1)->R J H1
def PFI (X : Cx) (G : Gx) (top : Bool) (tg e : Expr) (f : FI) : Prop:=∀ A,PI X tg e (tI G A top f)
theorem P0 {X : Cx} {tg e : Expr} {t t' : TI} (h : PI X tg e t) (w : ∀ σ H Q,t' σ H Q->t σ H Q) : PI X tg e t':=fun pins s σ H Q I q => h pins s σ H Q I (w σ H Q q)
theorem piOr {X : Cx} {tg e : Expr} {t t' : TI} (h : PI X tg e t) (h' : PI X tg e t') : PI X tg e (fun σ H R => t σ H R ∨ t' σ H R):=fun pins s σ H Q I q => by
 rcases q with q | q
 ·exact h pins s σ H Q I q
 ·exact h' pins s σ H Q I q
section
variable {X : Cx} {G : Gx} {a b c tg : Expr} {fa fb fc : FE} {pos p2 : Pos}
theorem XJ {F1 F2 : Hp} {p : Addr} {xs : List V} {ds : List D} (h : SqT G.K F1 p xs) (r : RepL G F2 xs ds) : Src G (Itt G.K p) ds F1 F2 where
 go:=fun i H s hi => ⟨xs,xs[i]'(by rw [r.1]; exact hi),HY s h,by simp [r.1,hi]⟩
 yld:=fun i H x H' d s hd y => Nz ⟨y.1,r.2 i x d (y.2 xs (HY s h)) hd⟩
 stop:=fun i H s hi => ⟨xs,HY s h,by rw [r.1]; exact hi⟩
theorem gn (hG : G.K = X.K) (h : PF X G a fa) : PFI X G false tg a (seqI fa):=fun A => P0 (piOr (WP (h A)) (Zf (h A))) fun σ H R ⟨ρ,ds,o,e,k⟩ => by
 unfold seqI at e
 split at e
 ·rename_i ds' e1
  cases e
  refine .inl ⟨ρ,_,o,e1,fun v H1 s1 r1 => ?_⟩
  cases r1 with
  | lst h l r => exact ⟨_,rfl,⟨_,by rw [<-hG]; exact Az.seq h⟩,by rw [<-hG]; exact k _ H1 s1 { go:=fun i H s hi => ⟨_,_,s.seq h,by simp [l,hi]; rfl⟩,yld:=fun i H x H' d s hd y => Nz ⟨y.1,r i x d (y.2 _ (s.seq h)) hd⟩,stop:=fun i H s hi => ⟨_,s.seq h,by rw [l]; exact hi⟩ }⟩
 ·rename_i ds' e1
  cases e
  refine .inr ⟨ρ,_,o,e1,fun v H1 s1 r1 => ?_⟩
  cases r1 with
  | tup h l r => exact ⟨_,rfl,⟨_,by rw [<-hG]; exact HY Az h⟩,by rw [<-hG]; exact k _ H1 s1 (XJ h ⟨l,r⟩)⟩
 ·cases e
theorem R_ (hG : G.K = X.K) (h : PU X G a fa) : PFI X G true tg a (seqI fa):=fun A => P0 (piOr (WP (h A)) (Zf (h A))) fun σ H R ⟨ρ,ds,o,e,k⟩ => by
 unfold seqI at e
 split at e
 ·rename_i ds' e1
  cases e
  refine .inl ⟨ρ,_,o,e1,fun v H1 s1 r1 => ?_⟩
  obtain ⟨p,xs,rfl,h,r⟩:=r1.lst
  exact ⟨_,rfl,⟨_,by rw [<-hG]; exact h⟩,by rw [<-hG]; exact k _ H1 s1 { go:=fun i H s hi => ⟨xs,xs[i]'(by rw [r.1]; exact hi),s.seq h,by simp [r.1,hi]⟩,yld:=fun i H x H' d s hd y => Nz ⟨y.1,r.2 i x d (y.2 _ (s.seq h)) hd⟩,stop:=fun i H s hi => ⟨_,s.seq h,by rw [r.1]; exact hi⟩ }⟩
 ·rename_i ds' e1
  cases e
  refine .inr ⟨ρ,_,o,e1,fun v H1 s1 r1 => ?_⟩
  obtain ⟨p,xs,rfl,h,r⟩:=r1.tup
  exact ⟨_,rfl,⟨_,by rw [<-hG]; exact h⟩,by rw [<-hG]; exact k _ H1 s1 (XJ h r)⟩
 ·cases e
theorem bW {n i : Nat} {d : D} (h : (rngD n)[i]? = some d) : d = .int i:=by
 unfold rngD at h
 rw [List.getElem?_map] at h
 cases e : (List.range n)[i]? with
 | none => rw [e] at h; cases h
 | some j =>
  rw [e] at h
  have:=(List.getElem?_eq_some_iff.mp e)
  obtain ⟨hi,ej⟩:=this
  rw [List.getElem_range] at ej
  subst ej
  exact (Option.some.inj h).symm
theorem gr {n : Nat} {F1 F2 : Hp} : Src G (Itr 0 n) (rngD n) F1 F2 where
 go:=fun i H s hi => by unfold rngD at hi; show i < n; simpa using hi
 yld:=fun i H x H' d s hd y => by
  obtain ⟨y1,y2⟩:=y
  rw [bW hd,y2,Int.zero_add]
  exact Nz ⟨y1,.int _⟩
 stop:=fun i H s hi => by unfold rngD at hi; show n<=i; simpa using hi
theorem CW {top : Bool} {p : Pos} (hg : Gl X "range") (hm : X.mg "range" = none) (h : PU X G a fa) (hs : starEach [a] X.env = [(false,eval a X.env)]:=by rfl) : PFI X G top tg (.Call (.Name "range" p) [a] [] pos) (rngI fa):=fun A => P0 (Yd hg hm (DK (h A) Ga hs) hs) fun σ H R ⟨ρ,ds,o,e,k⟩ => by
 unfold rngI at e
 split at e
 ·rename_i j e1
  split at e
  ·rename_i hj
   cases e
   exact ⟨ρ,_,o,e1,fun v H1 s1 r1 => ⟨j,by rw [r1.int],hj.1,hj.2,k _ H1 s1 gr⟩⟩
  ·cases e
 ·cases e
end
structure OkW (G : Gx) (A0 : List Addr) (He : Hp) (A : List Addr) (σ : St) (H : Hp) (ρ : Rho) : Prop where
 same : Same He H
 sub : ∀ a ∈ A0,a ∈ A
 fr : ∀ a ∈ A,a ∈ A0 ∨ He a = none
 l0 : ∀ a ∈ A0,He a ≠ none
 ok : Okp G A σ H ρ
 ow0 : ∀ (i : Nat) (d : D) (a : Addr),ρ[i]? = some (.ow d)->σ[i]? = some (some (.ref a))->a ∉ A0
 lt : ∀ (x : Addr) (d : D),G.lent = some x->ρ[0]? = some (.ow d)->σ[0]? = some (some (.ref x))
def OkS (G : Gx) (A0 : List Addr) (He : Hp) (σ : St) (H : Hp) (ρ : Rho) : Prop:=∃ A,OkW G A0 He A σ H ρ
def RK (G : Gx) (A0 : List Addr) (He : Hp) (D : Ends) : Out->Prop
 | .nx ρ => ∀ σ H,OkS G A0 He σ H ρ->D.nx σ H
 | .rt d ρ => ∀ v σ H A,OkW G A0 He A σ H ρ->Rep G (hid A H) v d->D.rt v H
 | .bk ρ => ∀ σ H,OkS G A0 He σ H ρ->D.bk σ H
 | .ct ρ => ∀ σ H,OkS G A0 He σ H ρ->D.ct σ H
def tS (G : Gx) (A0 : List Addr) (He : Hp) (g : FS) : TS:=fun D σ H => ∃ ρ o,OkS G A0 He σ H ρ/\g ρ = some o/\RK G A0 He D o
def PSD (X : Cx) (G : Gx) (st : Stmt) (g : FS) : Prop:=∀ A0 He,PS X st (tS G A0 He g)
def PSDs (X : Cx) (G : Gx) (st : List Stmt) (g : FS) : Prop:=∀ A0 He,PSs X st (tS G A0 He g)
theorem Okp.set {G : Gx} {A : List Addr} {σ : St} {H : Hp} {ρ : Rho} {v : V} {d : D} (o : Okp G A σ H ρ) (r : Rep G (hid A H) v d) (i : Nat) : Okp G A (σ.set i (some v)) H (ρ.set i (.fz d)):=by
 have key : ∀ (j : Nat) (z : Slot),(ρ.set i (.fz d))[j]? = some z->(j = i/\z = .fz d/\i < ρ.length) ∨ (j ≠ i/\ρ[j]? = some z):=fun j z h => by
  by_cases hj : j = i
  ·subst hj
   by_cases hl : j < ρ.length
   ·rw [List.getElem?_set_self hl] at h
    exact .inl ⟨rfl,(Option.some.inj h).symm,hl⟩
   ·rw [List.getElem?_eq_none (by simpa using Nat.not_lt.mp hl)] at h
    cases h
  ·rw [List.getElem?_set_ne (Ne.symm hj)] at h
   exact .inr ⟨hj,h⟩
 have keyS : ∀ (j : Nat),j ≠ i->(σ.set i (some v))[j]? = σ[j]?:=fun j hj => List.getElem?_set_ne (Ne.symm hj)
 refine ⟨by rw [List.length_set,List.length_set]; exact o.len,o.live,fun j e h => ?_,fun j e h => ?_,fun j k e f p h1 h2 h3 h4 => ?_⟩
 ·rcases key j _ h with ⟨hj,hz,hl⟩ | ⟨hj,hz⟩
  ·cases hz
   subst hj
   exact ⟨v,by rw [List.getElem?_set_self (by rw [o.len]; exact hl)],r⟩
  ·obtain ⟨u,q1,q2⟩:=o.fz j e hz
   exact ⟨u,by rw [keyS j hj]; exact q1,q2⟩
 ·rcases key j _ h with ⟨hj,hz,hl⟩ | ⟨hj,hz⟩
  ·cases hz
  ·obtain ⟨u,q1,q2⟩:=o.ow j e hz
   exact ⟨u,by rw [keyS j hj]; exact q1,q2⟩
 ·rcases key j _ h1 with ⟨_,hz,_⟩ | ⟨hj,hz⟩
  ·cases hz
  ·rcases key k _ h2 with ⟨_,hz',_⟩ | ⟨hk,hz'⟩
   ·cases hz'
   ·rw [keyS j hj] at h3
    rw [keyS k hk] at h4
    exact o.inj j k e f p hz hz' h3 h4
theorem OkW.mono {G : Gx} {A0 : List Addr} {He : Hp} {A : List Addr} {σ : St} {H H' : Hp} {ρ : Rho} (o : OkW G A0 He A σ H ρ) (s : Same H H') : OkW G A0 He A σ H' ρ:=⟨o.same.trans s,o.sub,o.fr,o.l0,o.ok.mono s,o.ow0,o.lt⟩
theorem OkW.set {G : Gx} {A0 : List Addr} {He : Hp} {A : List Addr} {σ : St} {H : Hp} {ρ : Rho} {v : V} {d : D} (o : OkW G A0 He A σ H ρ) (r : Rep G (hid A H) v d) (i : Nat) : OkW G A0 He A (σ.set i (some v)) H (ρ.set i (.fz d)):=⟨o.same,o.sub,o.fr,o.l0,o.ok.set r i,fun j e a h1 h2 => by
  have hj : j ≠ i:=by
   intro z
   subst z
   by_cases hl : j < ρ.length
   ·rw [List.getElem?_set_self hl] at h1; cases h1
   ·rw [List.getElem?_eq_none (by simpa using Nat.not_lt.mp hl)] at h1; cases h1
  rw [List.getElem?_set_ne (Ne.symm hj)] at h1 h2
  exact o.ow0 j e a h1 h2,fun x e hx h0 => by
  by_cases hi : i = 0
  ·subst hi
   cases ρ with
   | nil => cases h0
   | cons a r => cases h0
  ·rw [List.getElem?_set_ne hi] at h0 ⊢
   exact o.lt x e hx h0⟩
theorem OkW.base {G : Gx} {A0 : List Addr} {He Hf : Hp} {A : List Addr} {σ : St} {H : Hp} {ρ : Rho} (o : OkW G A0 Hf A σ H ρ) (s : Same He Hf) (l0 : ∀ a ∈ A0,He a ≠ none) : OkW G A0 He A σ H ρ:=
 ⟨s.trans o.same,o.sub,fun a ha => (o.fr a ha).imp id fun z => s.free z,l0,o.ok,o.ow0,o.lt⟩
theorem OkW.here {G : Gx} {A0 : List Addr} {He : Hp} {A : List Addr} {σ : St} {H : Hp} {ρ : Rho} (o : OkW G A0 He A σ H ρ) : Same He (hid (A.filter fun a => decide (a ∉ A0)) H)/\OkW G A0 (hid (A.filter fun a => decide (a ∉ A0)) H) A σ H ρ:=by
 have hb : ∀ b,b ∈ (A.filter fun a => decide (a ∉ A0)) ↔ b ∈ A/\b ∉ A0:=fun b => by simp [List.mem_filter]
 have s1 : Same He (hid (A.filter fun a => decide (a ∉ A0)) H):=fun b u h => by
  rw [Bv]
  ·exact o.same b u h
  ·intro z
   obtain ⟨z1,z2⟩:=(hb b).mp z
   rcases o.fr b z1 with q | q
   ·exact z2 q
   ·rw [q] at h; cases h
 refine ⟨s1,Az,o.sub,fun a ha => ?_,fun a ha h => ?_,o.ok,o.ow0,o.lt⟩
 ·by_cases hz : a ∈ A0
  ·exact .inl hz
  ·right
   unfold hid
   rw [if_pos ((hb a).mpr ⟨ha,hz⟩)]
 ·rw [Bv (fun z => ((hb a).mp z).2 ha)] at h
  exact (o.ok.live a (o.sub a ha)).ne h
theorem OkW.plain {G : Gx} {A0 : List Addr} {A B : List Addr} {σ : St} {H1 H : Hp} {ρ : Rho} (sub : ∀ a ∈ A0,a ∈ B) (o : OkW G A0 (hid (B.filter fun a => decide (a ∉ A0)) H1) A σ H ρ) : Same (hid B H1) (hid A H):=fun b u h => by
 unfold hid at h
 split at h
 ·cases h
 ·rename_i hb
  have e : hid (B.filter fun a => decide (a ∉ A0)) H1 b = some u:=by
   rw [Bv (fun z => hb (List.mem_filter.mp z).1)]; exact h
  rw [Bv]
  ·exact o.same b u e
  ·intro z
   rcases o.fr b z with q | q
   ·exact hb (sub b q)
   ·rw [q] at e; cases e
section
variable {X : Cx} {G : Gx} {a b c tg : Expr} {fa fb fc : FE} {ga : FT} {pos p2 : Pos} {st : Stmt} {rest body : List Stmt} {g gs gb : FS}
theorem Aq : PSDs X G [] nxF:=fun A0 He pins s σ H D I ⟨ρ,o,ok,e,k⟩ => by
 cases e
 exact Rq pins s σ H D I (k σ H ok)
theorem Ac (h1 : PSD X G st g) (h2 : PSDs X G rest gs) : PSDs X G (st :: rest) (seqF g gs):=fun A0 He pins s σ H D I ⟨ρ,o,ok,e,k⟩ => by
 refine PX (h1 A0 He) (h2 A0 He) pins s σ H D I ?_
 unfold seqF at e
 split at e
 ·rename_i ρ' e1
  exact ⟨ρ,_,ok,e1,fun σ' H' ok' => ⟨ρ',o,ok',e,k⟩⟩
 ·rename_i hno
  refine ⟨ρ,o,ok,e,?_⟩
  cases o with
  | nx ρ' => exact absurd e (hno ρ')
  | rt d ρ' => exact k
  | bk ρ' => exact k
  | ct ρ' => exact k
theorem Ae (h1 : PSD X G st g) : PSDs X G [st] g:=fun A0 He => WN (h1 A0 He)
theorem A_ {s1 s2 : List Stmt} (ht : PFT X G c ga) (h1 : PSDs X G s1 g) (h2 : PSDs X G s2 gs) : PSD X G (.If c s1 s2 pos) (ifS ga g gs):=fun A0 He pins s σ H D I ⟨ρ,o,⟨A,w⟩,e,k⟩ => by
 refine jb (ht A) (h1 A0 He) (h2 A0 He) pins s σ H D I ?_
 unfold ifS at e
 split at e
 ·rename_i e1
  exact ⟨ρ,_,w.ok,e1,fun H1 s1 => iteT ⟨ρ,o,⟨A,w.mono s1⟩,e,k⟩⟩
 ·rename_i e1
  exact ⟨ρ,_,w.ok,e1,fun H1 s1 => iteF ⟨ρ,o,⟨A,w.mono s1⟩,e,k⟩⟩
 ·cases e
theorem bY {A0 : List Addr} {He : Hp} {A : List Addr} {σ : St} {H : Hp} {ρ : Rho} {o : Out} {D : Ends} {i : Nat} (w : OkW G A0 He A σ H ρ) (e : setF i fa ρ = some o) (k : RK G A0 He D o) : tAsg (tF G A fa) (Jv i) D σ H:=by
 unfold setF at e
 cases e1 : fa ρ with
 | none => simp [e1] at e
 | some d =>
  simp only [e1,Option.map_some] at e
  cases e
  exact ⟨ρ,d,w.ok,e1,fun v H1 s1 r1 => k _ _ ⟨A,(w.mono s1).set r1 i⟩⟩
theorem gw {i : Nat} {x : Str} {p : Pos} (h : ∀ te,PE X a te->PS X (.Assign [.Name x p] a pos) (tAsg te (Jv i))) (ha : PF X G a fa) : PSD X G (.Assign [.Name x p] a pos) (setF i fa):=fun A0 He pins s σ H D I ⟨ρ,o,⟨A,w⟩,e,k⟩ =>
 h _ (ha A) pins s σ H D I (bY w e k)
theorem Ah (ha : PF X G a fa) : PSD X G (.Return (some a) pos) (retF fa):=fun A0 He pins s σ H D I ⟨ρ,o,⟨A,w⟩,e,k⟩ => by
 refine l_ (ha A) pins s σ H D I ?_
 unfold retF at e
 cases e1 : fa ρ with
 | none => simp [e1] at e
 | some d =>
  simp only [e1,Option.map_some] at e
  cases e
  exact ⟨ρ,d,w.ok,e1,fun v H1 s1 r1 => k v σ H1 A (w.mono s1) r1⟩
theorem Eg (ha : PF X G a fa) (hs : swapsWith a none pos.line X.env = pure false:=by rfl) : PSD X G (.Expr a pos) (GZ fa):=fun A0 He pins s σ H D I ⟨ρ,o,⟨A,w⟩,e,k⟩ => by
 refine Lz (ha A) hs pins s σ H D I ?_
 unfold GZ at e
 cases e1 : fa ρ with
 | none => simp [e1] at e
 | some d =>
  simp only [e1,Option.map_some] at e
  cases e
  exact ⟨ρ,d,w.ok,e1,fun v H1 s1 r1 => k _ _ ⟨A,w.mono s1⟩⟩
theorem Gg : PSD X G st badF:=fun A0 He pins s σ H D I ⟨ρ,o,ok,e,k⟩ => by cases e
def tGD (G : Gx) (A0 : List Addr) (He : Hp) (g : FG) : TG:=fun v σ H Q => ∃ A ρ d ρ',OkW G A0 He A σ H ρ/\Rep G (hid A H) v d/\g d ρ = some ρ'/\∀ σ' H',OkS G A0 He σ' H' ρ'->Q σ' H'
def PGD (X : Cx) (G : Gx) (tg : Expr) (g : FG) : Prop:=∀ A0 He,PG X tg (tGD G A0 He g)
theorem Bb {i : Nat} (h : PG X tg (Jv i)) : PGD X G tg (BW i):=fun A0 He pins s σ H v u Q I r ⟨A,ρ,d,ρ',w,rv,e,k⟩ => by
 cases e
 exact h pins s σ H v u Q I r (k _ _ ⟨A,w.set rv i⟩)
theorem RK.base {A0 : List Addr} {He Hf : Hp} {D : Ends} {o : Out} (k : RK G A0 He D o) (s : Same He Hf) (l0 : ∀ a ∈ A0,He a ≠ none) : RK G A0 Hf D o:=by
 cases o with
 | nx ρ => exact fun σ H ⟨A,w⟩ => k σ H ⟨A,w.base s l0⟩
 | rt d ρ => exact fun v σ H A w r => k v σ H A (w.base s l0) r
 | bk ρ => exact fun σ H ⟨A,w⟩ => k σ H ⟨A,w.base s l0⟩
 | ct ρ => exact fun σ H ⟨A,w⟩ => k σ H ⟨A,w.base s l0⟩
theorem Bp {it : Expr} {src : FI} {fg : FG} (hp : PassesOwn (model X.prog X.w) X.A X.env X.xe) (hc : X.calm = true) (hi : PFI X G false tg it src) (hg : PGD X G tg fg) (hb : PSDs X G body gb)
  (hs : ∀ x,foldedSetIterable it X.env x = pure x:=by intro _; rfl) : PSD X G (.For tg it body [] pos) (forS src fg gb):=fun A0 He pins s σ H D I ⟨ρ,o,⟨A,w⟩,e,k⟩ => by
 cases e1 : src ρ with
 | none => simp [forS,e1] at e
 | some ds =>
  have e' : forF (fun d ρ => (fg d ρ).bind gb) ds ρ = some o:=by
   have e2 : forF (tgB fg gb) ds ρ = some o:=by simpa [forS,e1] using e
   exact e2
  have hb' : PSs X body (fun D σ H => ∃ A0 He,tS G A0 He gb D σ H):=fun pins s σ H D I ⟨A0,He,q⟩ => hb A0 He pins s σ H D I q
  have hg' : PG X tg (fun v σ H Q => ∃ A0 He,tGD G A0 He fg v σ H Q):=fun pins s σ H v u Q I r ⟨A0,He,q⟩ => hg A0 He pins s σ H v u Q I r q
  refine Zh hp hc (hi A) hg' hb' hs pins s σ H D I ⟨ρ,ds,w.ok,e1,fun J H1 s1 sr => ?_⟩
  obtain ⟨sHe,w2⟩:=(w.mono s1).here
  have k2:=k.base sHe w.l0
  generalize hHf : hid (A.filter fun a => decide (a ∉ A0)) H1 = Hf at sHe w2 k2
  refine ⟨fun i m σ' H' => m = ds.length - i/\i<=ds.length/\∃ ρ',OkS G A0 Hf σ' H' ρ'/\forF (fun d ρ => (fg d ρ).bind gb) (ds.drop i) ρ' = some o,⟨ds.length,by simp,Nat.zero_le _,ρ,⟨A,w2⟩,by simpa using e'⟩,?_⟩
  rintro i m σ3 H3 ⟨rfl,hil,ρ3,⟨B,w3⟩,e3⟩
  have pl : Same (hid A H1) (hid B H3):=by rw [<-hHf] at w3; exact OkW.plain w.sub w3
  by_cases hlt : i < ds.length
  ·right
   have hd : ds[i]? = some ds[i]:=by simp [hlt]
   have ed : ds.drop i = ds[i] :: ds.drop (i + 1):=List.drop_eq_getElem_cons hlt
   rw [ed] at e3
   unfold forF at e3
   refine ⟨sr.go i H3 (pl.trans Az) hlt,fun σ' H' => ∃ ρ',OkS G A0 Hf σ' H' ρ'/\forF (fun d ρ => (fg d ρ).bind gb) (ds.drop (i + 1)) ρ' = some o,fun σ' H' q => ⟨ds.length - (i + 1),by omega,rfl,hlt,q⟩,fun x H' y => ?_⟩
   obtain ⟨sy,rx⟩:=sr.yld i H3 x H' _ (pl.trans Az) hd y
   refine ⟨A0,Hf,B,ρ3,ds[i],?_⟩
   cases e4 : fg ds[i] ρ3 with
   | none => simp [e4] at e3
   | some ρ4 =>
    refine ⟨ρ4,w3.mono sy,rx B w3.ok.live pl,rfl,fun σ5 H5 ok5 => ⟨A0,Hf,ρ4,?_⟩⟩
    cases e5 : gb ρ4 with
    | none => simp [e4,e5] at e3
    | some o5 =>
     refine ⟨o5,ok5,rfl,?_⟩
     cases o5 with
     | nx ρ5 =>
      simp only [e4,e5,Option.bind_some] at e3
      exact fun σ' H' ok' => ⟨ρ5,ok',e3⟩
     | ct ρ5 =>
      simp only [e4,e5,Option.bind_some] at e3
      exact fun σ' H' ok' => ⟨ρ5,ok',e3⟩
     | bk ρ5 =>
      simp only [e4,e5,Option.bind_some] at e3
      cases e3
      exact fun σ' H' ok' => k2 σ' H' ok'
     | rt d5 ρ5 =>
      simp only [e4,e5,Option.bind_some] at e3
      cases e3
      exact k2
  ·left
   have ei : i = ds.length:=by omega
   subst ei
   rw [List.drop_length] at e3
   cases e3
   exact ⟨sr.stop _ H3 (pl.trans Az) (Nat.le_refl _),k2 σ3 H3 ⟨B,w3⟩⟩
theorem Yu (n : Nat) (hp : PassesOwn (model X.prog X.w) X.A X.env X.xe) (ht : PFT X G c ga) (hb : PSDs X G body gb) : PSD X G (.While c body [] pos) (Ie ga gb n):=fun A0 He pins s σ H D I ⟨ρ,o,ok,e,k⟩ => by
 have ht' : PT X c (fun σ H Q => ∃ A,tFT G A ga σ H Q):=fun pins s σ H Q I ⟨A,q⟩ => ht A pins s σ H Q I q
 refine Ze hp ht' (hb A0 He) pins s σ H D I ⟨fun m σ' H' => ∃ ρ',OkS G A0 He σ' H' ρ'/\Ie ga gb m ρ' = some o,⟨n,ρ,ok,e⟩,?_⟩
 rintro m σ1 H1 ⟨ρ1,⟨A,w1⟩,e1⟩
 cases m with
 | zero => cases e1
 | succ m =>
  unfold Ie at e1
  cases e2 : ga ρ1 with
  | none => simp [e2] at e1
  | some t =>
   refine ⟨A,ρ1,t,w1.ok,e2,fun H2 s2 => ?_⟩
   cases t with
   | false =>
    refine iteF ?_
    simp only [e2] at e1
    cases e1
    exact k σ1 H2 ⟨A,w1.mono s2⟩
   | true =>
    refine iteT ⟨fun σ' H' => ∃ ρ',OkS G A0 He σ' H' ρ'/\Ie ga gb m ρ' = some o,fun σ' H' q => ⟨m,Nat.lt_succ_self m,q⟩,ρ1,?_⟩
    simp only [e2] at e1
    cases e3 : gb ρ1 with
    | none => simp [e3] at e1
    | some o3 =>
     refine ⟨o3,⟨A,w1.mono s2⟩,rfl,?_⟩
     cases o3 with
     | nx ρ5 => simp only [e3] at e1; exact fun σ' H' ok' => ⟨ρ5,ok',e1⟩
     | ct ρ5 => simp only [e3] at e1; exact fun σ' H' ok' => ⟨ρ5,ok',e1⟩
     | bk ρ5 => simp only [e3] at e1; cases e1; exact fun σ' H' ok' => k σ' H' ok'
     | rt d5 ρ5 => simp only [e3] at e1; cases e1; exact k
end
def spD (G : Gx) (g : List D->Option D) : Sp:=fun vs H Q _ => ∃ A ds d,(∀ a ∈ A,Nt (H a))/\RepL G (hid A H) vs ds/\g ds = some d/\∀ v H',Same H H'->Rep G (hid A H') v d->Q v H'
section
variable {X : Cx} {G : Gx} {a : Expr} {es : List Expr} {fs : FA} {pos p : Pos}
theorem p8 {k : Nat} {f : Addr} {fd : FuncData} {ps : List Str} {g : List D->Option D} {x : Str} (F : FnOk X.prog X.w X.K X.mg X.base CX0 k f fd ps (spD G g)) (hr : Room k X.A) (hg : Gl X x) (hm : X.mg x = some (.ref f)) (hk : PySem.W.keepIn X.K (.ref f) = true)
  (hb : Binds X.K fd ps []) (ha : PFA X G (a :: es) fs) (hdb : (x == ("__debug__" : Str)) = false:=by decide) (he : starEach (a :: es) X.env = (false,eval a X.env) :: starEach es X.env:=by rfl) (hpl : (backTo pos (starEach es X.env)).any (·.1) = false:=by rfl) :
  PF X G (.Call (.Name x p) (a :: es) [] pos) (Ai g fs):=fun A => Ca (fj F hr hg hm hk hb .nil jf (ha A) hdb he hpl) fun σ H Q ⟨ρ,d,o,e,k⟩ => by
 unfold Ai at e
 cases e1 : fs ρ with
 | none => simp [e1] at e
 | some ds =>
  have e' : g ds = some d:=by simpa [e1] using e
  refine ⟨ρ,ds,o,e1,fun vs H1 s1 r1 => ⟨A,ds,d,(o.mono s1).live,by rw [List.append_nil]; exact r1,e',fun v H2 s2 r2 => k v H2 (s1.trans s2) r2⟩⟩
end
theorem T4 {G : Gx} {A : List Addr} {H : Hp} {N : List Str} {vs : List V} {ds : List D} (live : ∀ a ∈ A,Nt (H a)) (r : RepL G (hid A H) vs ds) (hn : vs.length<=N.length) : OkS G A H (start N vs) H (Fb N.length ds):=by
 have key : ∀ (i : Nat) (z : Slot),(Fb N.length ds)[i]? = some z->(∃ d,z = .fz d/\ds[i]? = some d) ∨ z = .un:=fun i z h => by
  unfold Fb at h
  by_cases hi : i < ds.length
  ·rw [List.getElem?_append_left (by simpa using hi),List.getElem?_map] at h
   cases e : ds[i]? with
   | none => rw [e] at h; cases h
   | some d => rw [e] at h; exact .inl ⟨d,(Option.some.inj h).symm,rfl⟩
  ·rw [List.getElem?_append_right (by simpa using Nat.not_lt.mp hi),List.getElem?_replicate] at h
   split at h
   ·exact .inr (Option.some.inj h).symm
   ·cases h
 refine ⟨A,Same.refl H,fun _ h => h,fun a h => .inl h,fun a ha => (live a ha).ne,⟨?_,live,fun i d h => ?_,fun i d h => ?_,fun i j d e a h _ _ _ => ?_⟩,fun i d a h _ => ?_,fun x d _ h => ?_⟩
 ·unfold L2.start Fb
  rw [List.length_append,List.length_append,List.length_map,List.length_map,List.length_replicate,List.length_replicate,r.1]
 ·rcases key i _ h with ⟨d',e,hd⟩ | e
  ·cases e
   obtain ⟨v,h1,h2⟩:=r.get hd
   refine ⟨v,?_,h2⟩
   unfold L2.start
   rw [List.getElem?_append_left (by rw [List.length_map]; exact (List.getElem?_eq_some_iff.mp h1).1),List.getElem?_map,h1]
   rfl
  ·cases e
 ·rcases key i _ h with ⟨d',e,hd⟩ | e
  ·cases e
  ·cases e
 ·rcases key i _ h with ⟨d',e,hd⟩ | e
  ·cases e
  ·cases e
 ·rcases key i _ h with ⟨d',e,hd⟩ | e
  ·cases e
  ·cases e
 ·rcases key 0 _ h with ⟨d',e,hd⟩ | e
  ·cases e
  ·cases e
end PV
namespace PV
open PySem PySem.Spec L2
open PyProof.Rows hiding St
section
variable {X : Cx} {G : Gx} {a b c : Expr} {fa fb fc : FE} {pos p2 px : Pos} {scope : Scope} {t : Str} {elt iter : Expr} {ifs : List Expr} {ga : FT} {fe : FE} {src : FI}
def PFTs (X : Cx) (G : Gx) (ifs : List Expr) (f : FT) : Prop:=∀ A,PTs X ifs (tFT G A f)
theorem Cd : PFTs X G [] allT:=fun A pins s σ H Q I ⟨ρ,b,o,e,k⟩ => by
 cases e
 exact gK pins s σ H Q I (k H (Same.refl H))
theorem Mp (h : PFT X G a ga) : PFTs X G [a] ga:=fun A => gM (h A)
theorem Okp.fill {A : List Addr} {σ : St} {H Hc : Hp} {ρ : Rho} {p : Addr} (o : Okp G A σ H ρ) (s : Same H Hc) (hp : H p = none) (hc : Nt (Hc p)) : Okp G (p :: A) σ Hc ρ:=by
 have sm : Same (hid A H) (hid (p :: A) Hc):=fun b u h => by
  unfold hid at h
  split at h
  ·cases h
  ·rename_i hb
   rw [Bv]
   ·exact s b u h
   ·intro z
    rcases List.mem_cons.mp z with z | z
    ·rw [z,hp] at h; cases h
    ·exact hb z
 refine ⟨o.len,fun a ha => ?_,fun i d h => ?_,fun i d h => ?_,o.inj⟩
 ·rcases List.mem_cons.mp ha with z | z
  ·rw [z]; exact hc
  ·exact (o.mono s).live a z
 ·obtain ⟨v,h1,h2⟩:=o.fz i d h
  exact ⟨v,h1,h2.mono sm⟩
 ·obtain ⟨a,h1,h2,h3⟩:=o.ow i d h
  refine ⟨a,h1,List.mem_cons_of_mem _ h2,?_⟩
  cases d with
  | lst ds => obtain ⟨xs,q1,q2⟩:=h3; exact ⟨xs,s _ _ q1,q2.mono sm⟩
  | dk ds => obtain ⟨xs,q1,q2,q3⟩:=h3; exact ⟨xs,s _ _ q1,q2,q3.mono sm⟩
  | dt ds => obtain ⟨xs,q1,q2,q3⟩:=h3; exact ⟨xs,s _ _ q1,q2,q3.mono sm⟩
  | ob c gs => obtain ⟨C,dx,xs,q1,q2,q3⟩:=h3; exact ⟨C,dx,xs,s _ _ q1,q2,q3.mono sm⟩
  | _ => exact h3.elim
theorem Okp.snoc {A : List Addr} {σ : St} {H : Hp} {ρ : Rho} {v : V} {d : D} (o : Okp G A σ H ρ) (r : Rep G (hid A H) v d) : Okp G A (σ ++ [some v]) H (ρ ++ [.fz d]):=by
 have key : ∀ (j : Nat) (z : Slot),(ρ ++ [.fz d])[j]? = some z->(j = ρ.length/\z = .fz d) ∨ (j < ρ.length/\ρ[j]? = some z):=fun j z h => by
  by_cases hj : j < ρ.length
  ·rw [List.getElem?_append_left hj] at h; exact .inr ⟨hj,h⟩
  ·rw [List.getElem?_append_right (Nat.not_lt.mp hj)] at h
   cases q : j - ρ.length with
   | zero => rw [q] at h; exact .inl ⟨by omega,(Option.some.inj h).symm⟩
   | succ n => rw [q] at h; cases h
 have keyS : ∀ (j : Nat),j < ρ.length->(σ ++ [some v])[j]? = σ[j]?:=fun j hj => List.getElem?_append_left (by rw [o.len]; exact hj)
 refine ⟨by rw [List.length_append,List.length_append,o.len]; rfl,o.live,fun j e h => ?_,fun j e h => ?_,fun j k e f p h1 h2 h3 h4 => ?_⟩
 ·rcases key j _ h with ⟨hj,hz⟩ | ⟨hj,hz⟩
  ·cases hz
   subst hj
   exact ⟨v,by rw [List.getElem?_append_right (by rw [o.len]; exact Nat.le_refl _),o.len,Nat.sub_self]; rfl,r⟩
  ·obtain ⟨u,q1,q2⟩:=o.fz j e hz
   exact ⟨u,by rw [keyS j hj]; exact q1,q2⟩
 ·rcases key j _ h with ⟨hj,hz⟩ | ⟨hj,hz⟩
  ·cases hz
  ·obtain ⟨u,q1,q2⟩:=o.ow j e hz
   exact ⟨u,by rw [keyS j hj]; exact q1,q2⟩
 ·rcases key j _ h1 with ⟨_,hz⟩ | ⟨hj,hz⟩
  ·cases hz
  ·rcases key k _ h2 with ⟨_,hz'⟩ | ⟨hk,hz'⟩
   ·cases hz'
   ·rw [keyS j hj] at h3
    rw [keyS k hk] at h4
    exact o.inj j k e f p hz hz' h3 h4
theorem XM {A : List Addr} {σ : St} {H : Hp} {Q : VK} (h : tF G A (Av src ga fe) σ H Q) : W_ (tI G A true src) (fun σ H Q => ∃ A,tFT G A ga σ H Q) (fun σ H Q => ∃ A,tF G A fe σ H Q) σ H Q:=by
 obtain ⟨ρ,d,o,e,k⟩:=h
 unfold Av at e
 cases e1 : src ρ with
 | none => simp [e1] at e
 | some ds =>
  rw [e1] at e
  have e' : (if ds.length<=sizeLine then (Bh ρ ga fe ds).map D.lst else none) = some d:=e
  split at e'
  ·rename_i hz
   cases e2 : Bh ρ ga fe ds with
   | none => simp [e2] at e'
   | some out =>
    simp only [e2,Option.map_some] at e'
    cases e'
    refine ⟨ρ,ds,o,e1,fun J H1 s1 sr p hp => ?_⟩
    have o1:=o.mono s1
    have npA : p ∉ A:=fun z => (o1.live p z).ne hp
    refine ⟨fun i m ys Hc => m = ds.length - i/\i<=ds.length/\Hc p = some (.lst ys)/\Same H1 Hc/\ys.length<=i/\∃ es rest,RepL G (hid (p :: A) Hc) ys es/\Bh ρ ga fe (ds.drop i) = some rest/\es ++ rest = out,
     ⟨ds.length,by simp,Nat.zero_le _,Aj,Ar hp _,Nat.le_refl _,[],out,RepL.nil,by simpa using e2,rfl⟩,?_⟩
    rintro i m ys Hc ⟨rfl,hil,hpc,sc,hy,es,rest,rr,er,eo⟩
    by_cases hlt : i < ds.length
    ·right
     have hd : ds[i]? = some ds[i]:=by simp [hlt]
     have ed : ds.drop i = ds[i] :: ds.drop (i + 1):=List.drop_eq_getElem_cons hlt
     rw [ed] at er
     unfold Bh at er
     refine ⟨sr.go i Hc sc hlt,fun x H' y => ?_⟩
     obtain ⟨sy,rx⟩:=sr.yld i Hc x H' _ sc hd y
     have okc : Okp G (p :: A) σ Hc ρ:=o1.fill sc hp (by rw [hpc]; exact Nt.lst)
     have sm : Same (hid A H1) (hid (p :: A) Hc):=fun b u h => by
      unfold hid at h
      split at h
      ·cases h
      ·rename_i hb
       rw [Bv]
       ·exact sc b u h
       ·intro z
        rcases List.mem_cons.mp z with z | z
        ·rw [z,hp] at h; cases h
        ·exact hb z
     have ok2:=(okc.mono sy).snoc (rx _ okc.live sm)
     have hpc:=sy _ _ hpc
     have rr:=rr.mono (Ao sy)
     have sc:=sc.trans sy
     cases eg : ga (ρ ++ [.fz ds[i]]) with
     | none => simp [eg] at er
     | some b =>
      refine ⟨p :: A,_,b,ok2,eg,fun H2 s2 => ?_⟩
      cases b with
      | false =>
       refine iteF ⟨ds.length - (i + 1),by omega,rfl,hlt,s2 _ _ hpc,sc.trans s2,Nat.le_succ_of_le hy,es,rest,rr.mono (Ao s2),by simpa [eg] using er,eo⟩
      | true =>
       simp only [eg] at er
       cases ee : fe (ρ ++ [.fz ds[i]]) with
       | none => simp [ee] at er
       | some yd =>
        cases ec : Bh ρ ga fe (ds.drop (i + 1)) with
        | none => simp [ee,ec] at er
        | some rest' =>
         simp only [ee,ec,Option.bind_some,Option.map_some] at er
         cases er
         refine iteT ⟨p :: A,_,yd,ok2.mono s2,ee,fun yv H3 s3 r3 => ?_⟩
         have hp3:=s3 _ _ (s2 _ _ hpc)
         refine ⟨hp3,by omega,ds.length - (i + 1),by omega,rfl,hlt,Aj,fun b u q => ?_,by rw [List.length_append]; simp; omega,es ++ [yd],rest',?_,ec,by rw [List.append_assoc]; exact eo⟩
         ·have hb : b ≠ p:=Ck q hp
          rw [Al hb]
          exact s3 _ _ (s2 _ _ (sc _ _ q))
         ·rw [Ba List.mem_cons_self]
          exact (rr.mono (Ao (s2.trans s3))).append (.cons r3 .nil)
    ·left
     have ei : i = ds.length:=by omega
     subst ei
     rw [List.drop_length] at er
     simp only [Bh] at er
     cases er
     rw [List.append_nil] at eo
     subst eo
     refine ⟨sr.stop _ Hc sc (Nat.le_refl _),k _ Hc (s1.trans sc) ?_⟩
     have q:=rr.mono (Gk (A:=A) fun a ha => List.mem_cons_of_mem _ ha)
     exact .lst (.of (by rw [Bv npA]; exact hpc)) q.1 q.2
  ·cases e'
theorem Dy (N' : List Str) (eN : Bm t X.N ++ [t] = N') (c : CompOk X scope t) (hc : X.calm = true) (hi : PFI X G true (.Name t px) iter src) (hI : ∀ s2 H2 fp,PFTs { Ex X scope t s2 H2 fp with N:=N' } G ifs ga) (hE : ∀ s2 H2 fp,PF { Ex X scope t s2 H2 fp with N:=N' } G elt fe)
  (hs : ∀ x,foldedSetIterable iter X.env x = pure x:=by intro _; rfl) : PF X G (.ListComp elt [⟨.Name t px,iter,ifs,0⟩] scope pos) (Av src ga fe):=by
 subst eN
 intro A
 refine Ca (gO (tc:=fun σ H Q => ∃ A,tFT G A ga σ H Q) (te:=fun σ H Q => ∃ A,tF G A fe σ H Q) c hc (hi A) (fun s2 H2 fp => ?_) (fun s2 H2 fp => ?_) hs) fun _ _ _ h => XM h
 ·exact fun pins s σ H Q I ⟨A,q⟩ => hI s2 H2 fp A pins s σ H Q I q
 ·exact fun pins s σ H Q I ⟨A,q⟩ => hE s2 H2 fp A pins s σ H Q I q
theorem P_ {i : Nat} {y : Str} {py spos : Pos} (N' : List Str) (eN : Bm t X.N ++ [t] = N') (c : CompOk X scope t) (hc : X.calm = true) (hN : X.N.Nodup) (hi' : X.N[i]? = some y) (hx : Loc X.env.scope y) (hi : PFI X G true (.Name t px) iter src)
  (hI : ∀ s2 H2 fp,PFTs { Ex X scope t s2 H2 fp with N:=N' } G ifs ga) (hE : ∀ s2 H2 fp,PF { Ex X scope t s2 H2 fp with N:=N' } G elt fe) (hsw : swapsWith (.ListComp elt [⟨.Name t px,iter,ifs,0⟩] scope pos) (some (.Name y py)) spos.line X.env = pure true:=by rfl)
  (hf : X.fn y = true ∨ X.env.scope.names.lookup y = some .local:=by first | exact .inl rfl | exact .inr rfl | assumption) (hs : ∀ x,foldedSetIterable iter X.env x = pure x:=by intro _; rfl) :
  PSD X G (.Assign [.Name y py] (.ListComp elt [⟨.Name t px,iter,ifs,0⟩] scope pos) spos) (setF i (Av src ga fe)):=by
 subst eN
 intro A0 He pins s σ H D I ⟨ρ,o,⟨A,w⟩,e,k⟩
 refine XC (tc:=fun σ H Q => ∃ A,tFT G A ga σ H Q) (te:=fun σ H Q => ∃ A,tF G A fe σ H Q) c hc hN hi' hx (hi A) (fun s2 H2 fp => ?_) (fun s2 H2 fp => ?_) hsw hf hs pins s σ H D I (XM (bY w e k))
 ·exact fun pins s σ H Q I ⟨A,q⟩ => hI s2 H2 fp A pins s σ H Q I q
 ·exact fun pins s σ H Q I ⟨A,q⟩ => hE s2 H2 fp A pins s σ H Q I q
end
end PV
namespace PV
open PySem PySem.Spec L2
open PyProof.Rows hiding St
section
variable {prog : Program} {w : World} {A : Around} {R : Result->Shared->Prop} {I : Addr} {fp wr : List Addr} {n : Nat} {P : Nat->Value->Prop} {Sx : Nat->Heap->Prop} {kw : List (Str × Value)}
end
section
variable {prog : Program} {w : World} {A : Around} {E : Value->Shared->Prop} {s : Shared} {l : Addr} {xs : Array (Int × Tok)}
end
section
variable {X : Cx} {G : Gx} {a b : Expr} {fa fb : FE} {pos p kpos : Pos}
theorem Mq {H : Hp} : ∀ {ds : List D} {xs : List V} {ns : List Str},RepL G H xs ds->G3 ds = some ns->xs = ns.map V.str
 | [],xs,ns,r,h => by cases h; rw [r.nil_inv]; rfl
 | d :: ds,xs,ns,r,h => by
  obtain ⟨x,ys,rfl,r1,r2⟩:=r.uncons
  cases d with
  | str i =>
   simp only [G3] at h
   cases e : G3 ds with
   | none => simp [e] at h
   | some ms =>
    simp only [e,Option.map_some] at h
    cases h
    cases r1
    rw [Mq r2 e]
    rfl
  | _ => simp [G3] at h
theorem QB {ns : List Str} : ∀ {us : List Value},Vals (ns.map V.str) us->StrsAre us ns:=by
 induction ns with
 | nil => intro us r; cases r; exact .nil
 | cons n ns ih =>
  intro us r
  rw [List.map_cons] at r
  cases r with
  | cons r1 r2 =>
   obtain ⟨tk,rfl⟩:=r1
   exact .cons n tk (ih r2)
theorem g_ : MtR X "str.join" (fun x vs H Q => ∃ z p ys,x = .str z/\vs = [.ref p]/\(SqL X.K H p (ys.map V.str) ∨ SqT X.K H p (ys.map V.str))/\(ys.map (·.length)).sum + ys.length * z.length<=16777216/\Q (.str (Txt.join z ys)) H):=by
 intro pins s σ H x xs v us Q I rx rs h
 obtain ⟨z,p,ys,rfl,rfl,hs,hz,k⟩:=h
 obtain ⟨t,rfl⟩:=rx
 obtain ⟨u,rfl,ru⟩:=vals1 rs
 cases ru
 rcases hs with hs | hs
 ·obtain ⟨its,rv,pl,_⟩:=I.list hs
  exact join_list pl.isList (by simpa using QB rv) hz fun t' tk => ⟨.str _,H,I.tok _,⟨t',rfl⟩,k⟩
 ·obtain ⟨its,rv,pl,_⟩:=I.tuple hs
  exact join_tuple (show s.heap.IsTuple p its.toArray from pl) (by simpa using QB rv) hz fun t' tk => ⟨.str _,H,I.tok _,⟨t',rfl⟩,k⟩
theorem h_ {apos : Pos} (hG : G.K = X.K) (ha : PU X G a fa) (hb : PU X G b fb) (hbase : attributeBase a "join" X.env (eval a X.env) = eval a X.env:=by rfl)
  (hfew : ((backTo pos (starEach [b] X.env)).all (fun x => !x.1) && (backToKw pos (keywordEach [] X.env)).all (fun x => x.1.isSome) && decide ([b].length + ([] : List Keyword).length + (if ([] : List Keyword).isEmpty then 0 else 1) < 30)) = true:=by rfl)
  (hline : (apos.endLine == pos.line) = true:=by rfl) (hs : starEach [b] X.env = [(false,eval b X.env)]:=by rfl) :
  PF X G (.Call (.Attribute a "join" apos) [b] [] pos) (bF Wf fa fb):=fun A => Ca (Wc PySem.F.plainAttrs_str PySem.F.slot_str_join PySem.F.type_str_join g_ (ha A) (DK (hb A) Ga hs) hbase hfew hline hs rfl) fun σ H Q ⟨ρ,d,o,e,k⟩ => by
 obtain ⟨dx,dy,e1,e2,e3⟩:=R3 e
 unfold Wf at e3
 split at e3
 ·rename_i z ds
  cases ei : G3 ds with
  | none => simp [ei] at e3
  | some ys =>
   simp only [ei,Option.bind_some] at e3
   split at e3
   ·rename_i hz
    cases e3
    refine ⟨ρ,_,o,e1,fun v H1 s1 r1 => ?_⟩
    cases r1.str
    refine ⟨rfl,ρ,_,o.mono s1,e2,fun u H2 s2 r2 => ?_⟩
    obtain ⟨q,xs,rfl,h1,rr⟩:=r2.lst
    have ex:=Mq rr ei
    subst ex
    exact ⟨z,q,ys,rfl,rfl,by rw [<-hG]; exact .inl h1,hz,by rw [show Txt.join z ys = Str.join z ys from StrLaws.glued_eq_join z ys]; exact k _ H2 (s1.trans s2) (.str _)⟩
   ·cases e3
 ·rename_i z ds
  cases ei : G3 ds with
  | none => simp [ei] at e3
  | some ys =>
   simp only [ei,Option.bind_some] at e3
   split at e3
   ·rename_i hz
    cases e3
    refine ⟨ρ,_,o,e1,fun v H1 s1 r1 => ?_⟩
    cases r1.str
    refine ⟨rfl,ρ,_,o.mono s1,e2,fun u H2 s2 r2 => ?_⟩
    obtain ⟨q,xs,rfl,h1,rr⟩:=r2.tup
    have ex:=Mq rr ei
    subst ex
    exact ⟨z,q,ys,rfl,rfl,by rw [<-hG]; exact .inr h1,hz,by rw [show Txt.join z ys = Str.join z ys from StrLaws.glued_eq_join z ys]; exact k _ H2 (s1.trans s2) (.str _)⟩
   ·cases e3
 ·cases e3
theorem iB (K : PySem.W.Frag) (n T : String) : PySem.W.kitOne K (.type n) (.type T) = PySem.W.kitOne [] (.type n) (.type T):=rfl
def TyX (K : PySem.W.Frag) (H : Hp) (x : V) (n : String) : Prop:=
 TyOf K H x (.type n) ∨ (n = "list"/\∃ a xs,x = .ref a/\SqL K H a xs) ∨ (n = "tuple"/\∃ a xs,x = .ref a/\SqT K H a xs)
theorem nP {A : List Addr} {H : Hp} {v : V} {d : D} {n : String} (r : RepT G A H v d) (h : tyD d = some n) : TyX G.K H v n:=by
 cases d with
 | non => cases h; rw [r.non]; exact .inl .non
 | bl b => cases h; rw [r.bl]; exact .inl (.bl b)
 | int b => cases h; rw [r.int]; exact .inl (.int b)
 | str b => cases h; rw [r.str]; exact .inl (.str b)
 | lst ds => cases h; obtain ⟨a,xs,e,q,_⟩:=r.lst; exact .inr (.inl ⟨rfl,a,xs,e,q⟩)
 | tup ds => cases h; obtain ⟨a,xs,e,q,_⟩:=r.tup; exact .inr (.inr ⟨rfl,a,xs,e,q⟩)
 | _ => cases h
theorem bZ (T : String) : Dh X (.builtin "isinstance") (fun xs H Q => ∃ x n b,xs = [x,.ty T]/\TyX X.K H x n/\PySem.W.kitOne X.K (.type n) (.type T) = some b/\Q (.bl b) H):=by
 intro pins s σ H xs us Q I r h
 obtain ⟨x,n,b,rfl,ty,e,k⟩:=h
 obtain ⟨u,c,rfl,ru,rc⟩:=vals2 r
 cases rc
 rcases ty with ty | ⟨rfl,a,ys,rfl,q⟩ | ⟨rfl,a,ys,rfl,q⟩
 ·exact Yk I ru ty e fun tk => ⟨.bl b,H,I.tok _,rfl,k⟩
 ·cases ru
  obtain ⟨its,_,p,_⟩:=I.list q
  obtain ⟨o,ho,hc,_⟩:=p.isList
  exact PySem.W.kia_one PySem.W.kitx_list I.kIn ⟨o,ho,hc⟩ e (fun z => nomatch z) fun tk => ⟨.bl b,H,I.tok _,rfl,k⟩
 ·cases ru
  obtain ⟨its,_,p,_⟩:=I.tuple q
  obtain ⟨o,ho,hc,_⟩:=(show s.heap.IsTuple a its.toArray from p)
  exact PySem.W.kia_one PySem.W.kitx_tuple I.kIn ⟨o,ho,hc⟩ e (fun z => nomatch z) fun tk => ⟨.bl b,H,I.tok _,rfl,k⟩
def SJ (T : String) : Bool:=(["NoneType", "bool", "int", "str", "list", "tuple"] : List String).all fun n => PySem.W.kitOne [] (.type n) (.type T) == some (n == T || (n == "bool" && T == "int"))
theorem Yv {T : String} (h : SJ T = true) {d : D} {n : String} (e : tyD d = some n) : PySem.W.kitOne [] (.type n) (.type T) = some (n == T || (n == "bool" && T == "int")):=by
 unfold SJ at h
 rw [List.all_eq_true] at h
 have m : n ∈ (["NoneType", "bool", "int", "str", "list", "tuple"] : List String):=by
  cases d <;> simp [tyD] at e <;> subst e <;> simp
 simpa using h n m
theorem nQ {x t : Str} {T : String} {tp : Pos} (hT : SJ T = true) (hG : G.K = X.K) (hg : Gl X x) (hm : X.mg x = none) (hv : bootBuiltins x = some (.builtin "isinstance")) (ht : Gl X t) (hmt : X.mg t = none) (hvt : bootBuiltins t = some (.type T)) (ha : PU X G a fa)
  (hn : x ≠ "__name__":=by decide) (hdb : (x == ("__debug__" : Str)) = false:=by decide) (hnt : t ≠ "__name__":=by decide) (hdt : (t == ("__debug__" : Str)) = false:=by decide) (he : starEach [a,.Name t tp] X.env = (false,eval a X.env) :: starEach [.Name t tp] X.env:=by rfl) (he2 : starEach [.Name t tp] X.env = [(false,eval (.Name t tp) X.env)]:=by rfl) :
  PF X G (.Call (.Name x p) [a,.Name t tp] [] pos) (uF (isiD T) fa):=fun A => Ca (L_ (bZ T) hg hm hv (DK (ha A) (DK (fL (v:=.ty T) ht hmt hvt rfl hnt hdt) Ga he2) he) hn hdb he (by rw [he2]; rfl)) fun σ H Q ⟨ρ,d,o,e,k⟩ => by
 obtain ⟨dx,e1,e2⟩:=Ja e
 unfold isiD at e2
 cases et : tyD dx with
 | none => simp [et] at e2
 | some n =>
  simp only [et,Option.map_some] at e2
  cases e2
  exact ⟨ρ,dx,o,e1,fun v H1 s1 r1 => ⟨v,n,_,rfl,by rw [<-hG]; exact nP r1 et,by rw [iB]; exact Yv hT et,k _ H1 s1 (.bl _)⟩⟩
theorem bc : SJ "bool" = true:=by decide +kernel
end
end PV
namespace PV
open PySem PySem.Spec L2
open PyProof.Rows hiding St
theorem Do : bootBuiltins "len" = some (.builtin "len"):=by decide +kernel
theorem Vr : bootBuiltins "max" = some (.builtin "max"):=by decide +kernel
theorem nR : bootBuiltins "min" = some (.builtin "min"):=by decide +kernel
theorem Qo : bootBuiltins "isinstance" = some (.builtin "isinstance"):=by decide +kernel
theorem RL : bootBuiltins "sorted" = some (.builtin "sorted"):=by decide +kernel
theorem bf : bootBuiltins "int" = some (.type "int"):=by decide +kernel
theorem iC : bootBuiltins "bool" = some (.type "bool"):=by decide +kernel
theorem Mr : bootBuiltins "list" = some (.type "list"):=by decide +kernel
theorem SM : bootBuiltins "dict" = some (.type "dict"):=by decide +kernel
theorem bh : bootBuiltins "set" = some (.type "set"):=by decide +kernel
def SN (N : List Str) (sc scope : Scope) (t : Str) : Bool:=
 scope.names.all (fun y => y.2 != .cell) && scope.kind == .function && scope.names.all (fun y => y.2 != .local || scope.names.lookup y.1 == some .local) && scope.names.lookup t == some .local
  && scope.names.all (fun y => y.2 != .local || y.1 == t || !N.contains y.1) && scope.names.all (fun y => y.2 != .free || sc.names.lookup y.1 == some .cell || sc.names.lookup y.1 == some .free) && scope.names.all (fun y => y.1 != Str.empty) && decide (Bm t N ++ [t]).Nodup
theorem Yw {X : Cx} {N : List Str} {sc scope : Scope} {t : Str} (hN : X.N = N) (hs : X.env.scope = sc) (h : SN N sc scope t = true) : CompOk X scope t:=by
 unfold SN at h
 simp only [Bool.and_eq_true,List.all_eq_true,decide_eq_true_eq,beq_iff_eq,bne_iff_ne,Bool.or_eq_true,ne_eq] at h
 obtain ⟨⟨⟨⟨⟨⟨⟨h1,h2⟩,h3⟩,h4⟩,h5⟩,h6⟩,h7⟩,h8⟩:=h
 refine ⟨h1,h2,fun y hy e => ?_,h4,fun y hy e => ?_,fun y hy e => ?_,h7,by rw [hN]; exact h8⟩
 ·rcases h3 y hy with z | z
  ·exact absurd e z
  ·exact z
 ·rcases h5 y hy with (z | z) | z
  ·exact absurd e z
  ·exact .inl z
  ·right
   rw [hN]
   simpa using z
 ·have hk : ∀ x,X.env.kindOf x = sc.names.lookup x:=fun x => by rw [<-hs]; rfl
  rw [hk]
  rcases h6 y hy with (z | z) | z
  ·exact absurd e z
  ·exact .inl z
  ·exact .inr z
theorem O9 {P : Program} {w : World} {K : PySem.W.Frag} {mg : Str->Option Value} {base : Heap} {G : Gx} {k : Nat} {f : Addr} {fd : FuncData} {ps : List Str} : FnOk P w K mg base CX0 k f fd ps (spD G fun _ => none):=by
 have no : ∀ vs H Q E,¬ spD G (fun _ => none) vs H Q E:=fun vs H Q E ⟨_,_,_,_,_,e,_⟩ => nomatch e
 exact ⟨fun vs H Q E h => absurd h (no vs H Q E),fun A outer s H args us vs Q E _ _ _ _ h => absurd h (no vs H Q E)⟩
theorem Yx {G : Gx} {a : Addr} {od : Option Addr} {n : Nat} {sl : Array (Option Value)} {its : Array Value} {xs : List Str} (h : G.K.lookup a = some ⟨.type "tuple",od,.seq its n,sl⟩) (hz : its.size<=sizeLine) (r : Vals (xs.map V.str) its.toList) : Rep G (fun _ => none) (.ref a) (.tup (xs.map .str)):=by
 refine .tup (xs:=xs.map V.str) (.inr ⟨_,its,n,h,rfl,rfl,hz,r⟩) (by simp) fun i x d h1 h2 => ?_
 rw [List.getElem?_map] at h1 h2
 cases e : xs[i]? with
 | none => rw [e] at h1; cases h1
 | some z => rw [e] at h1 h2; cases h1; cases h2; exact .str z
end PV
namespace PySem
theorem SQ (l : Addr) (items : Array Value) (n : Nat) (b : Addr) (items2 : Array Value) (n2 : Nat) (dd2 : Option Addr) (sl2 : Array (Option Value)) (hc0 : ¬(!items.isEmpty && Builtin.List.listTooLong (items.size + items2.size)) = true) (hc1 : items.size<=sizeLine) (hs2 : items.size + items2.size<=sizeLine + 1) :
  Meets (Builtin.«list.extend» ⟨[.ref l,.ref b],[]⟩) (fun _ R s => s.heap.get? l = some { cls:=.type "list",dict:=none,data:=.seq items n,slots:=#[] }/\s.heap.get? b = some { cls:=.type "list",dict:=dd2,data:=.seq items2 n2,slots:=sl2 }/\R (.ok (.ret Value.none)) { s with heap:=s.heap.update l (Obj.mapSeq fun x => x ++ items2),toks:=s.toks }):=
 .of_wp fun prog w A R s h => by
  obtain ⟨hp,g,d,tk,os⟩:=s; obtain ⟨hl,hb,h⟩:=h; have f1:=AutoSeq1.idx_int; have f2:=AutoSeq1.sub_tuple_tuple; have f3:=AutoSeq1.sub_list_list; have f4:=AutoSeq1.sub_tuple_list; have f5:=AutoSeq1.sub_list_tuple
  have both:=(Array.size_append (xs:=items) (ys:=items2)) ▸ hs2
  wp_walk using (wpAny_updateSeq hl rfl (hz:=hc1) (_hz':=both)),AutoSeq1.wpAny_loadPart' hl,AutoSeq1.wpAny_loadPart' hb; exact ⟨_,rfl,h⟩
end PySem
namespace PV
open PySem PySem.Spec L2
open PyProof.Rows hiding St
section
variable {X : Cx} {G : Gx} {a b c : Expr} {fa fb fc : FE} {pos p2 px : Pos} {es : List Expr} {fs : FA}
def tN (G : Gx) (A : List Addr) (f : FE) : TE:=fun σ H Q => ∃ ρ d,Okp G A σ H ρ/\f ρ = some d/\∀ p H',Same H H'->H p = none->Top G (p :: A) H' p d->Q (.ref p) H'
def PN (X : Cx) (G : Gx) (e : Expr) (f : FE) : Prop:=∀ A,PE X e (tN G A f)
theorem JG {A : List Addr} {H H' : Hp} {p : Addr} (s : Same H H') (hp : H p = none) : Same (hid A H) (hid (p :: A) H'):=fun b u h => by
 unfold hid at h
 split at h
 ·cases h
 ·rename_i hb
  rw [Bv]
  ·exact s b u h
  ·intro z
   rcases List.mem_cons.mp z with z | z
   ·rw [z,hp] at h; cases h
   ·exact hb z
theorem Vs (h : PFA X G es fs) : PN X G (.List es pos) (lstF fs):=fun A => Ca (Zq (h A)) fun σ H Q ⟨ρ,d,o,e,k⟩ => by
 unfold lstF at e
 cases e1 : fs ρ with
 | none => simp [e1] at e
 | some ds =>
  rw [e1] at e
  have e' : (if ds.length<=sizeLine then some (D.lst ds) else none) = some d:=e
  split at e'
  ·rename_i hz
   cases e'
   exact ⟨ρ,ds,o,e1,fun vs H1 s1 r1 => ⟨by rw [r1.1]; exact hz,fun p hp => k p _ (s1.trans (Ar hp _)) (s1.free hp) ⟨vs,Aj,r1.mono (JG (Ar hp _) hp)⟩⟩⟩
  ·cases e'
theorem Top.fill {A : List Addr} {H H' : Hp} {p q : Addr} {d : D} (t : Top G A H q d) (s : Same H H') (hp : H p = none) : Top G (p :: A) H' q d:=by
 have sm:=JG (A:=A) s hp
 cases d with
 | lst ds => obtain ⟨xs,q1,q2⟩:=t; exact ⟨xs,s _ _ q1,q2.mono sm⟩
 | dk ds => obtain ⟨xs,q1,q2,q3⟩:=t; exact ⟨xs,s _ _ q1,q2,q3.mono sm⟩
 | dt ds => obtain ⟨xs,q1,q2,q3⟩:=t; exact ⟨xs,s _ _ q1,q2,q3.mono sm⟩
 | ob c gs => obtain ⟨C,dx,xs,q1,q2,q3⟩:=t; exact ⟨C,dx,xs,s _ _ q1,q2,q3.mono sm⟩
 | _ => exact t.elim
theorem Top.live {A : List Addr} {H : Hp} {q : Addr} {d : D} (t : Top G A H q d) : Nt (H q):=by
 cases d with
 | lst ds => obtain ⟨xs,q1,q2⟩:=t; rw [q1]; exact Nt.lst
 | dk ds => obtain ⟨xs,q1,q2,q3⟩:=t; rw [q1]; exact Nt.dK
 | dt ds => obtain ⟨xs,q1,q2,q3⟩:=t; rw [q1]; exact Nt.dT
 | ob c gs => obtain ⟨C,dx,xs,q1,q2,q3⟩:=t; rw [q1]; exact Nt.ins
 | _ => exact t.elim
theorem Ce {α : Type} {l : List α} {i j : Nat} {x z : α} (h : (l.set i x)[j]? = some z) : (j = i/\z = x/\i < l.length) ∨ (j ≠ i/\l[j]? = some z):=by
 by_cases hj : j = i
 ·subst hj
  by_cases hl : j < l.length
  ·rw [List.getElem?_set_self hl] at h
   exact .inl ⟨rfl,(Option.some.inj h).symm,hl⟩
  ·rw [List.getElem?_eq_none (by simpa using Nat.not_lt.mp hl)] at h
   cases h
 ·rw [List.getElem?_set_ne (Ne.symm hj)] at h
  exact .inr ⟨hj,h⟩
theorem OkW.setW {A0 : List Addr} {He : Hp} {A : List Addr} {σ : St} {H H' : Hp} {ρ : Rho} {p : Addr} {d : D} (w : OkW G A0 He A σ H ρ) (s : Same H H') (hp : H p = none) (t : Top G (p :: A) H' p d) (i : Nat) (hi0 : i ≠ 0) : OkW G A0 He (p :: A) (σ.set i (some (.ref p))) H' (ρ.set i (.ow d)):=by
 have hf:=w.ok.fill (Hc:=H') s hp t.live
 have hep : He p = none:=w.same.free hp
 have npA : p ∉ A:=fun z => (w.ok.live p z).ne hp
 refine ⟨w.same.trans s,fun a ha => List.mem_cons_of_mem _ (w.sub a ha),fun a ha => ?_,w.l0,⟨by rw [List.length_set,List.length_set]; exact hf.len,hf.live,fun j e h => ?_,fun j e h => ?_,fun j k e f q h1 h2 h3 h4 => ?_⟩,fun j e q h1 h2 => ?_,fun x e hx h0 => by rw [List.getElem?_set_ne hi0] at h0 ⊢; exact w.lt x e hx h0⟩
 ·rcases List.mem_cons.mp ha with z | z
  ·rw [z]; exact .inr hep
  ·exact w.fr a z
 ·rcases Ce h with ⟨_,hz,_⟩ | ⟨hj,hz⟩
  ·cases hz
  ·obtain ⟨v,q1,q2⟩:=hf.fz j e hz
   exact ⟨v,by rw [List.getElem?_set_ne (Ne.symm hj)]; exact q1,q2⟩
 ·rcases Ce h with ⟨hj,hz,hl⟩ | ⟨hj,hz⟩
  ·cases hz
   subst hj
   exact ⟨p,by rw [List.getElem?_set_self (by rw [w.ok.len]; exact hl)],List.mem_cons_self,t⟩
  ·obtain ⟨v,q1,q2,q3⟩:=hf.ow j e hz
   exact ⟨v,by rw [List.getElem?_set_ne (Ne.symm hj)]; exact q1,q2,q3⟩
 ·have no : ∀ (m : Nat) (g : D),ρ[m]? = some (.ow g)->σ[m]? = some (some (.ref q))->q ≠ p:=fun m g a1 a2 z => by
   obtain ⟨v,b1,b2,_⟩:=w.ok.ow m g a1
   rw [a2] at b1
   cases b1
   exact npA (z ▸ b2)
  rcases Ce h1 with ⟨hj,_,hl⟩ | ⟨hj,hz⟩
  ·rcases Ce h2 with ⟨hk,_,_⟩ | ⟨hk,hz'⟩
   ·rw [hj,hk]
   ·exfalso
    subst hj
    rw [List.getElem?_set_self (by rw [w.ok.len]; exact hl)] at h3
    cases h3
    rw [List.getElem?_set_ne (Ne.symm hk)] at h4
    exact no k f hz' h4 rfl
  ·rcases Ce h2 with ⟨hk,_,hl⟩ | ⟨hk,hz'⟩
   ·exfalso
    subst hk
    rw [List.getElem?_set_self (by rw [w.ok.len]; exact hl)] at h4
    cases h4
    rw [List.getElem?_set_ne (Ne.symm hj)] at h3
    exact no j e hz h3 rfl
   ·rw [List.getElem?_set_ne (Ne.symm hj)] at h3
    rw [List.getElem?_set_ne (Ne.symm hk)] at h4
    exact w.ok.inj j k e f q hz hz' h3 h4
 ·rcases Ce h1 with ⟨hj,_,hl⟩ | ⟨hj,hz⟩
  ·subst hj
   rw [List.getElem?_set_self (by rw [w.ok.len]; exact hl)] at h2
   cases h2
   exact fun z => w.l0 p z hep
  ·rw [List.getElem?_set_ne (Ne.symm hj)] at h2
   exact w.ow0 j e q hz h2
theorem XN {A0 : List Addr} {He : Hp} {A : List Addr} {σ : St} {H : Hp} {ρ : Rho} {o : Out} {D : Ends} {i : Nat} (hi0 : i ≠ 0) (w : OkW G A0 He A σ H ρ) (e : setW i fa ρ = some o) (k : RK G A0 He D o) : tAsg (tN G A fa) (Jv i) D σ H:=by
 unfold setW at e
 cases e1 : fa ρ with
 | none => simp [e1] at e
 | some d =>
  simp only [e1,Option.map_some] at e
  cases e
  exact ⟨ρ,d,w.ok,e1,fun p H1 s1 hp t => k _ _ ⟨p :: A,w.setW s1 hp t i hi0⟩⟩
theorem bu {i : Nat} {x : Str} {p : Pos} (h : ∀ te,PE X a te->PS X (.Assign [.Name x p] a pos) (tAsg te (Jv i))) (ha : PN X G a fa) (hi0 : i ≠ 0:=by decide) : PSD X G (.Assign [.Name x p] a pos) (setW i fa):=fun A0 He pins s σ H D I ⟨ρ,o,⟨A,w⟩,e,k⟩ =>
 h _ (ha A) pins s σ H D I (XN hi0 w e k)
theorem OkW.wr {A0 : List Addr} {He : Hp} {A : List Addr} {σ : St} {H : Hp} {ρ : Rho} {i : Nat} {d0 d : D} {p : Addr} {o : HO} (w : OkW G A0 He A σ H ρ) (hi : ρ[i]? = some (.ow d0)) (hs : σ[i]? = some (some (.ref p))) (t : Top G A (upd H p o) p d) : OkW G A0 He A σ (upd H p o) (ρ.set i (.ow d)):=by
 obtain ⟨q,h1,hA,_⟩:=w.ok.ow i d0 hi
 rw [hs] at h1
 cases h1
 have hep : He p = none:=by
  rcases w.fr p hA with z | z
  ·exact absurd z (w.ow0 i d0 p hi hs)
  ·exact z
 have eh : hid A (upd H p o) = hid A H:=Ba hA
 refine ⟨fun b u h => by rw [Al (Ck h hep)]; exact w.same b u h,w.sub,w.fr,w.l0,⟨by rw [List.length_set]; exact w.ok.len,fun b hb => ?_,fun j e h => ?_,fun j e h => ?_,fun j k e f q g1 g2 g3 g4 => ?_⟩,fun j e q g1 g2 => ?_,fun x e hx h0 => ?_⟩
 ·by_cases z : b = p
  ·rw [z]; exact t.live
  ·rw [Al z]; exact w.ok.live b hb
 ·rcases Ce h with ⟨_,hz,_⟩ | ⟨hj,hz⟩
  ·cases hz
  ·rw [eh]; exact w.ok.fz j e hz
 ·rcases Ce h with ⟨hj,hz,hl⟩ | ⟨hj,hz⟩
  ·cases hz
   subst hj
   exact ⟨p,hs,hA,t⟩
  ·obtain ⟨q,q1,q2,q3⟩:=w.ok.ow j e hz
   have nq : q ≠ p:=fun z => hj (w.ok.inj j i e d0 p hz hi (z ▸ q1) hs)
   refine ⟨q,q1,q2,?_⟩
   cases e with
   | lst ds => obtain ⟨xs,a1,a2⟩:=q3; exact ⟨xs,by rw [Al nq]; exact a1,by rw [eh]; exact a2⟩
   | dk ds => obtain ⟨xs,a1,a2,a3⟩:=q3; exact ⟨xs,by rw [Al nq]; exact a1,a2,by rw [eh]; exact a3⟩
   | dt ds => obtain ⟨xs,a1,a2,a3⟩:=q3; exact ⟨xs,by rw [Al nq]; exact a1,a2,by rw [eh]; exact a3⟩
   | ob c gs => obtain ⟨C,dx,xs,a1,a2,a3⟩:=q3; exact ⟨C,dx,xs,by rw [Al nq]; exact a1,a2,by rw [eh]; exact a3⟩
   | _ => exact q3.elim
 ·have up : ∀ (m : Nat) (g : D),(ρ.set i (.ow d))[m]? = some (.ow g)->∃ g',ρ[m]? = some (.ow g'):=fun m g z => by
   rcases Ce z with ⟨hm,_,_⟩ | ⟨_,hz⟩
   ·exact ⟨d0,by rw [hm]; exact hi⟩
   ·exact ⟨g,hz⟩
  obtain ⟨e',z1⟩:=up j e g1
  obtain ⟨f',z2⟩:=up k f g2
  exact w.ok.inj j k e' f' q z1 z2 g3 g4
 ·rcases Ce g1 with ⟨hj,_,_⟩ | ⟨hj,hz⟩
  ·subst hj
   exact w.ow0 j d0 q hi g2
  ·exact w.ow0 j e q hz g2
 ·rcases Ce h0 with ⟨hj,_,_⟩ | ⟨_,hz⟩
  ·exact w.lt x d0 hx (by rw [hj]; exact hi)
  ·exact w.lt x e hx hz
theorem N5 {ρ : Rho} {i : Nat} {d : D} (h : ownO ρ i = some d) : ρ[i]? = some (.ow d):=by
 unfold ownO at h
 split at h
 ·rename_i e; cases h; exact e
 ·cases h
theorem N6 {g : D->D->Option D} {i : Nat} {ρ : Rho} {o : Out} (h : mutF g i fa ρ = some o) : ∃ v x y,fa ρ = some v/\ρ[i]? = some (.ow x)/\g x v = some y/\o = .nx (ρ.set i (.ow y)):=by
 unfold mutF at h
 cases e1 : fa ρ with
 | none => simp [e1] at h
 | some v =>
  cases e2 : ownO ρ i with
  | none => simp [e1,e2] at h
  | some x =>
   cases e3 : g x v with
   | none => simp [e1,e2,e3] at h
   | some y =>
    simp [e1,e2,e3] at h
    exact ⟨v,x,y,rfl,N5 e2,e3,h.symm⟩
theorem XQ {i : Nat} {x : Str} {xpos apos : Pos} (hv : PE X (.Name x xpos) (tVar i)) (ha : PF X G a fa)
  (hbase : attributeBase (.Name x xpos) "append" X.env (eval (.Name x xpos) X.env) = eval (.Name x xpos) X.env:=by rfl)
  (hfew : ((backTo pos (starEach [a] X.env)).all (fun x => !x.1) && (backToKw pos (keywordEach [] X.env)).all (fun x => x.1.isSome) && decide ([a].length + ([] : List Keyword).length + (if ([] : List Keyword).isEmpty then 0 else 1) < 30)) = true:=by rfl)
  (hline : (apos.endLine == pos.line) = true:=by rfl) (hs : starEach [a] X.env = [(false,eval a X.env)]:=by rfl) (hsw : swapsWith (.Call (.Attribute (.Name x xpos) "append" apos) [a] [] pos) none p2.line X.env = pure false:=by rfl) :
  PSD X G (.Expr (.Call (.Attribute (.Name x xpos) "append" apos) [a] [] pos) p2) (mutF appL i fa):=fun A0 He pins s σ H D I ⟨ρ,o,⟨A,w⟩,e,k⟩ => by
 obtain ⟨v,x0,y,e1,hi,e2,rfl⟩:=N6 e
 refine Lz (Wc PySem.F.plainAttrs_list PySem.F.slot_list_append PySem.F.type_list_append Q7 hv (DK (ha A) Ga hs) hbase hfew hline hs rfl) hsw pins s σ H D I ?_
 unfold appL at e2
 split at e2
 ·rename_i ds
  split at e2
  ·rename_i hz
   cases e2
   obtain ⟨p,h1,hA,xs,h2,r⟩:=w.ok.ow i _ hi
   refine ⟨_,h1,.inl ⟨rfl,xs,.of h2⟩,ρ,v,w.ok,e1,fun u H1 s1 r1 => ⟨p,xs,u,rfl,rfl,s1 _ _ h2,by rw [r.1]; exact hz,?_⟩⟩
   have w1:=w.mono s1
   refine k _ _ ⟨A,w1.wr hi h1 ⟨xs ++ [u],Aj,?_⟩⟩
   rw [Ba hA]
   exact (r.mono (Ao s1)).append (.cons r1 .nil)
  ·cases e2
 ·cases e2
theorem Vt : MtM X "list.extend" (fun x vs H Q => ∃ l b xs zs,x = .ref l/\vs = [.ref b]/\H l = some (.lst xs)/\SqL X.K H b zs/\xs.length + zs.length<=sizeLine/\Q .non (upd H l (.lst (xs ++ zs)))):=by
 intro pins s σ H x vs v us Q I rx rv h
 obtain ⟨l,b,xs,zs,rfl,rfl,hH,hB,hz,q⟩:=h
 cases rx
 obtain ⟨u,rfl,ru⟩:=rv.one
 cases ru
 obtain ⟨z,its,n,r,hl,e⟩:=I.lstM hH
 obtain ⟨its2,r2,pl2,z2⟩:=I.list hB
 obtain ⟨⟨cls2,dd2,data2,sl2⟩,ho2,hc2,n2,hd2⟩:=pl2.isList
 simp only at hc2 hd2
 subst hc2 hd2
 have e1:=r.length
 have e2:=r2.length
 have hsz : its.toArray.size + its2.toArray.size<=sizeLine:=by rw [List.size_toArray,List.size_toArray]; omega
 have hlong : ¬ (!its.toArray.isEmpty && Builtin.List.listTooLong (its.toArray.size + its2.toArray.size)) = true:=by
  rw [Z0 hsz,Bool.and_false]
  exact Bool.false_ne_true
 refine call_meets F.slot_list_extend ⟨_,e,rfl⟩ F.entry_list_extend (F.args_list_extend_2 _ _)
  (SQ l its.toArray n b its2.toArray n2 dd2 sl2 hlong (by rw [List.size_toArray]; omega) (by omega)) ⟨e,ho2,?_⟩
 refine ⟨.non,_,I.lset (its':=its ++ its2) hH e (by simp) (r.append r2) ?_,rfl,q⟩
 rw [List.length_append]
 omega
theorem iG (hG : G.K = X.K) {i : Nat} {x : Str} {xpos apos : Pos} (hv : PE X (.Name x xpos) (tVar i)) (ha : PF X G a fa)
  (hbase : attributeBase (.Name x xpos) "extend" X.env (eval (.Name x xpos) X.env) = eval (.Name x xpos) X.env:=by rfl)
  (hfew : ((backTo pos (starEach [a] X.env)).all (fun x => !x.1) && (backToKw pos (keywordEach [] X.env)).all (fun x => x.1.isSome) && decide ([a].length + ([] : List Keyword).length + (if ([] : List Keyword).isEmpty then 0 else 1) < 30)) = true:=by rfl)
  (hline : (apos.endLine == pos.line) = true:=by rfl) (hs : starEach [a] X.env = [(false,eval a X.env)]:=by rfl) (hsw : swapsWith (.Call (.Attribute (.Name x xpos) "extend" apos) [a] [] pos) none p2.line X.env = pure false:=by rfl) :
  PSD X G (.Expr (.Call (.Attribute (.Name x xpos) "extend" apos) [a] [] pos) p2) (mutF extL i fa):=fun A0 He pins s σ H D I ⟨ρ,o,⟨A,w⟩,e,k⟩ => by
 obtain ⟨v,x0,y,e1,hi,e2,rfl⟩:=N6 e
 refine Lz (Wc PySem.F.plainAttrs_list PySem.F.slot_list_extend PySem.F.type_list_extend Vt hv (DK (ha A) Ga hs) hbase hfew hline hs rfl) hsw pins s σ H D I ?_
 unfold extL at e2
 split at e2
 ·rename_i ds es'
  split at e2
  ·rename_i hz
   cases e2
   obtain ⟨p,h1,hA,xs,h2,r⟩:=w.ok.ow i _ hi
   refine ⟨_,h1,.inl ⟨rfl,xs,.of h2⟩,ρ,_,w.ok,e1,fun u H1 s1 r1 => ?_⟩
   cases r1 with
   | @lst q zs _ hq lq rq =>
    refine ⟨p,q,xs,zs,rfl,rfl,s1 _ _ h2,by rw [<-hG]; exact Az.seq hq,by rw [r.1,lq]; exact hz,?_⟩
    have w1:=w.mono s1
    refine k _ _ ⟨A,w1.wr hi h1 ⟨xs ++ zs,Aj,?_⟩⟩
    rw [Ba hA]
    exact (r.mono (Ao s1)).append ⟨lq,rq⟩
  ·cases e2
 ·cases e2
theorem Inv.frzK {pins : List (Addr × Obj)} {σ : St} {H : Hp} {s : Shared} {p : Addr} {kvs : List (Key × V)} (I : Inv X pins σ H s) (e : H p = some (.dK kvs)) : ∃ o,Inv X pins σ (upd H p (.frz o (.dK kvs))) s:=by
 obtain ⟨z,hd,vs,rel,dd⟩:=Z3 I.hok e
 obtain ⟨o,es,ep,ho,h2⟩:=id dd
 exact ⟨o,MT (h':=s.heap) (t':=s.toks) I (by rw [e]; exact True.intro) ⟨rfl,fun _ _ => rfl⟩ ⟨o,ho⟩ ⟨ho,z,hd,vs,rel,dd⟩⟩
theorem Inv.frzT {pins : List (Addr × Obj)} {σ : St} {H : Hp} {s : Shared} {p : Addr} {kvs : List (List Key × V)} (I : Inv X pins σ H s) (e : H p = some (.dT kvs)) : ∃ o,Inv X pins σ (upd H p (.frz o (.dT kvs))) s:=by
 obtain ⟨z,hd,vs,rel,o,es,ep,ho,h3,h4,h5,h6⟩:=I.hok p _ e
 refine ⟨o,MT (h':=s.heap) (t':=s.toks) I (by rw [e]; exact True.intro) ⟨rfl,fun _ _ => rfl⟩ ⟨o,ho⟩ ⟨ho,z,hd,vs,KT.keeps rel fun c ys ec => ?_,o,es,ep,ho,h3,h4,h5,h6⟩⟩
 rw [Al (jY ec e (fun z => nomatch z))]
 exact ec
theorem OkW.frzC {A0 : List Addr} {He : Hp} {A : List Addr} {σ : St} {H H' : Hp} {ρ : Rho} {i : Nat} {d : D} {p : Addr} (w : OkW G A0 He A σ H ρ) (hi : ρ[i]? = some (.ow d)) (h1 : σ[i]? = some (some (.ref p))) (hA : p ∈ A) (hh : ∀ b,b ≠ p->H' b = H b)
  (rp : Same (hid A H) (hid (A.filter fun b => decide (b ≠ p)) H')->hid (A.filter fun b => decide (b ≠ p)) H' p = H' p->Rep G (hid (A.filter fun b => decide (b ≠ p)) H') (.ref p) d) : OkS G A0 He σ H' (ρ.set i (.fz d)):=by
 have hn:=w.ow0 i d p hi h1
 have hmem : ∀ b,b ∈ A.filter (fun b => decide (b ≠ p)) ↔ b ∈ A/\b ≠ p:=fun b => by simp [List.mem_filter]
 have sm : Same (hid A H) (hid (A.filter fun b => decide (b ≠ p)) H'):=fun b o h => by
  unfold hid at h ⊢
  split at h
  ·cases h
  ·rename_i hb
   have hbp : b ≠ p:=fun z => hb (z ▸ hA)
   rw [if_neg (fun z => hb ((hmem b).mp z).1),hh b hbp]
   exact h
 have rp:=rp sm (Bv fun z => ((hmem p).mp z).2 rfl)
 have hep : He p = none:=(w.fr p hA).resolve_left hn
 refine ⟨A.filter fun b => decide (b ≠ p),fun b o h => ?_,fun b hb => (hmem b).mpr ⟨w.sub b hb,fun z => hn (z ▸ hb)⟩,fun b hb => w.fr b ((hmem b).mp hb).1,w.l0,⟨by rw [List.length_set]; exact w.ok.len,fun b hb => ?_,fun j e h => ?_,fun j e h => ?_,fun j k e f q g1 g2 g3 g4 => ?_⟩,fun j e q g1 g2 => ?_,fun x e hx h0 => ?_⟩
 ·have hbp : b ≠ p:=fun z => by rw [z,hep] at h; cases h
  rw [hh b hbp]
  exact w.same b o h
 ·obtain ⟨z1,z2⟩:=(hmem b).mp hb
  rw [hh b z2]
  exact w.ok.live b z1
 ·rcases Ce h with ⟨hj,hz,_⟩ | ⟨hj,hz⟩
  ·cases hz; subst hj; exact ⟨_,h1,rp⟩
  ·obtain ⟨v,q1,q2⟩:=w.ok.fz j e hz
   exact ⟨v,q1,q2.mono sm⟩
 ·rcases Ce h with ⟨_,hz,_⟩ | ⟨hj,hz⟩
  ·cases hz
  ·obtain ⟨q,q1,q2,q3⟩:=w.ok.ow j e hz
   have nq : q ≠ p:=fun z => hj (w.ok.inj j i e d p hz hi (z ▸ q1) h1)
   refine ⟨q,q1,(hmem q).mpr ⟨q2,nq⟩,?_⟩
   cases e with
   | lst ds => obtain ⟨xs,a1,a2⟩:=q3; exact ⟨xs,by rw [hh q nq]; exact a1,a2.mono sm⟩
   | dk ds => obtain ⟨xs,a1,a2,a3⟩:=q3; exact ⟨xs,by rw [hh q nq]; exact a1,a2,a3.mono sm⟩
   | dt ds => obtain ⟨xs,a1,a2,a3⟩:=q3; exact ⟨xs,by rw [hh q nq]; exact a1,a2,a3.mono sm⟩
   | ob c gs => obtain ⟨C,dx,xs,a1,a2,a3⟩:=q3; exact ⟨C,dx,xs,by rw [hh q nq]; exact a1,a2,a3.mono sm⟩
   | _ => exact q3.elim
 ·rcases Ce g1 with ⟨_,hz,_⟩ | ⟨_,z1⟩
  ·cases hz
  ·rcases Ce g2 with ⟨_,hz,_⟩ | ⟨_,z2⟩
   ·cases hz
   ·exact w.ok.inj j k e f q z1 z2 g3 g4
 ·rcases Ce g1 with ⟨_,hz,_⟩ | ⟨_,z1⟩
  ·cases hz
  ·exact w.ow0 j e q z1 g2
 ·rcases Ce h0 with ⟨_,hz,_⟩ | ⟨_,z1⟩
  ·cases hz
  ·exact w.lt x e hx z1
theorem OkS.frz {pins : List (Addr × Obj)} {s : Shared} {A0 : List Addr} {He : Hp} {σ : St} {H : Hp} {ρ : Rho} (I : Inv X pins σ H s) (w : OkS G A0 He σ H ρ) (i : Nat) : ∃ H',Inv X pins σ H' s/\OkS G A0 He σ H' (frz1 ρ i):=by
 unfold frz1
 split
 ·rename_i d hi
  obtain ⟨A,w⟩:=w
  obtain ⟨p,h1,hA,t⟩:=w.ok.ow i d hi
  cases d with
  | lst ds =>
   obtain ⟨xs,a1,a2⟩:=t
   exact ⟨H,I,w.frzC hi h1 hA (fun _ _ => rfl) fun sm hp => .lst (.of (by rw [hp]; exact a1)) (a2.mono sm).1 (a2.mono sm).2⟩
  | dk ds =>
   obtain ⟨xs,a1,a2,a3⟩:=t
   obtain ⟨o,I'⟩:=Inv.frzK I a1
   exact ⟨_,I',w.frzC hi h1 hA (fun b hb => Al hb) fun sm hp => .dk (by rw [hp]; exact Aj) a2 (a3.mono sm).2⟩
  | dt ds =>
   obtain ⟨xs,a1,a2,a3⟩:=t
   obtain ⟨o,I'⟩:=Inv.frzT I a1
   exact ⟨_,I',w.frzC hi h1 hA (fun b hb => Al hb) fun sm hp => .dt (by rw [hp]; exact Aj) a2 (a3.mono sm).2⟩
  | ob c gs =>
   obtain ⟨C,dx,xs,a1,a2,a3⟩:=t
   exact ⟨H,I,w.frzC hi h1 hA (fun _ _ => rfl) fun sm hp => .ob a2.1 (by rw [hp]; exact a1) a2.2 (a3.mono sm).2⟩
  | _ => exact t.elim
 ·exact ⟨H,I,w⟩
theorem XR {pins : List (Addr × Obj)} {s : Shared} {A0 : List Addr} {He : Hp} {σ : St} : ∀ (is : List Nat) {H : Hp} {ρ : Rho},Inv X pins σ H s->OkS G A0 He σ H ρ->∃ H',Inv X pins σ H' s/\OkS G A0 He σ H' (is.foldl frz1 ρ)
 | [],H,_,I,w => ⟨H,I,w⟩
 | i :: r,_,_,I,w => let ⟨_,I1,w1⟩:=w.frz I i; XR r I1 w1
theorem Jb {st : Stmt} {g : FS} (is : List Nat) (h : PSD X G st g) : PSD X G st (fzS is g):=fun A0 He pins s σ H D I ⟨ρ,o,ok,e,k⟩ =>
 let ⟨H',I',ok'⟩:=XR is I ok
 h A0 He pins s σ H' D I' ⟨is.foldl frz1 ρ,o,ok',e,k⟩
end
section
variable {X : Cx} {G : Gx} {a b c : Expr} {fa fb fc : FE} {pos p2 px : Pos} {scope : Scope} {t : Str} {elt iter : Expr} {ifs : List Expr} {ga : FT} {fe : FE} {src : FI}
theorem bw {A : List Addr} {σ : St} {H : Hp} {Q : VK} (h : tN G A (Av src ga fe) σ H Q) : W_ (tI G A true src) (fun σ H Q => ∃ A,tFT G A ga σ H Q) (fun σ H Q => ∃ A,tF G A fe σ H Q) σ H Q:=by
 obtain ⟨ρ,d,o,e,k⟩:=h
 unfold Av at e
 cases e1 : src ρ with
 | none => simp [e1] at e
 | some ds =>
  rw [e1] at e
  have e' : (if ds.length<=sizeLine then (Bh ρ ga fe ds).map D.lst else none) = some d:=e
  split at e'
  ·rename_i hz
   cases e2 : Bh ρ ga fe ds with
   | none => simp [e2] at e'
   | some out =>
    simp only [e2,Option.map_some] at e'
    cases e'
    refine ⟨ρ,ds,o,e1,fun J H1 s1 sr p hp => ?_⟩
    have o1:=o.mono s1
    have npA : p ∉ A:=fun z => (o1.live p z).ne hp
    refine ⟨fun i m ys Hc => m = ds.length - i/\i<=ds.length/\Hc p = some (.lst ys)/\Same H1 Hc/\ys.length<=i/\∃ es rest,RepL G (hid (p :: A) Hc) ys es/\Bh ρ ga fe (ds.drop i) = some rest/\es ++ rest = out,
     ⟨ds.length,by simp,Nat.zero_le _,Aj,Ar hp _,Nat.le_refl _,[],out,RepL.nil,by simpa using e2,rfl⟩,?_⟩
    rintro i m ys Hc ⟨rfl,hil,hpc,sc,hy,es,rest,rr,er,eo⟩
    by_cases hlt : i < ds.length
    ·right
     have hd : ds[i]? = some ds[i]:=by simp [hlt]
     have ed : ds.drop i = ds[i] :: ds.drop (i + 1):=List.drop_eq_getElem_cons hlt
     rw [ed] at er
     unfold Bh at er
     refine ⟨sr.go i Hc sc hlt,fun x H' y => ?_⟩
     obtain ⟨sy,rx⟩:=sr.yld i Hc x H' _ sc hd y
     have okc : Okp G (p :: A) σ Hc ρ:=o1.fill sc hp (by rw [hpc]; exact Nt.lst)
     have sm : Same (hid A H1) (hid (p :: A) Hc):=fun b u h => by
      unfold hid at h
      split at h
      ·cases h
      ·rename_i hb
       rw [Bv]
       ·exact sc b u h
       ·intro z
        rcases List.mem_cons.mp z with z | z
        ·rw [z,hp] at h; cases h
        ·exact hb z
     have ok2:=(okc.mono sy).snoc (rx _ okc.live sm)
     have hpc:=sy _ _ hpc
     have rr:=rr.mono (Ao sy)
     have sc:=sc.trans sy
     cases eg : ga (ρ ++ [.fz ds[i]]) with
     | none => simp [eg] at er
     | some b =>
      refine ⟨p :: A,_,b,ok2,eg,fun H2 s2 => ?_⟩
      cases b with
      | false =>
       refine iteF ⟨ds.length - (i + 1),by omega,rfl,hlt,s2 _ _ hpc,sc.trans s2,Nat.le_succ_of_le hy,es,rest,rr.mono (Ao s2),by simpa [eg] using er,eo⟩
      | true =>
       simp only [eg] at er
       cases ee : fe (ρ ++ [.fz ds[i]]) with
       | none => simp [ee] at er
       | some yd =>
        cases ec : Bh ρ ga fe (ds.drop (i + 1)) with
        | none => simp [ee,ec] at er
        | some rest' =>
         simp only [ee,ec,Option.bind_some,Option.map_some] at er
         cases er
         refine iteT ⟨p :: A,_,yd,ok2.mono s2,ee,fun yv H3 s3 r3 => ?_⟩
         have hp3:=s3 _ _ (s2 _ _ hpc)
         refine ⟨hp3,by omega,ds.length - (i + 1),by omega,rfl,hlt,Aj,fun b u q => ?_,by rw [List.length_append]; simp; omega,es ++ [yd],rest',?_,ec,by rw [List.append_assoc]; exact eo⟩
         ·have hb : b ≠ p:=Ck q hp
          rw [Al hb]
          exact s3 _ _ (s2 _ _ (sc _ _ q))
         ·rw [Ba List.mem_cons_self]
          exact (rr.mono (Ao (s2.trans s3))).append (.cons r3 .nil)
    ·left
     have ei : i = ds.length:=by omega
     subst ei
     rw [List.drop_length] at er
     simp only [Bh] at er
     cases er
     rw [List.append_nil] at eo
     subst eo
     exact ⟨sr.stop _ Hc sc (Nat.le_refl _),k p Hc (s1.trans sc) (s1.free hp) ⟨ys,hpc,rr⟩⟩
  ·cases e'
theorem RM {i : Nat} {y : Str} {py spos : Pos} (N' : List Str) (eN : Bm t X.N ++ [t] = N') (c : CompOk X scope t) (hc : X.calm = true) (hN : X.N.Nodup) (hi' : X.N[i]? = some y) (hx : Loc X.env.scope y) (hi : PFI X G true (.Name t px) iter src)
  (hI : ∀ s2 H2 fp,PFTs { Ex X scope t s2 H2 fp with N:=N' } G ifs ga) (hE : ∀ s2 H2 fp,PF { Ex X scope t s2 H2 fp with N:=N' } G elt fe) (hsw : swapsWith (.ListComp elt [⟨.Name t px,iter,ifs,0⟩] scope pos) (some (.Name y py)) spos.line X.env = pure true:=by rfl)
  (hf : X.fn y = true ∨ X.env.scope.names.lookup y = some .local:=by first | exact .inl rfl | exact .inr rfl | assumption) (hs : ∀ x,foldedSetIterable iter X.env x = pure x:=by intro _; rfl) (hi0 : i ≠ 0:=by decide) :
  PSD X G (.Assign [.Name y py] (.ListComp elt [⟨.Name t px,iter,ifs,0⟩] scope pos) spos) (setW i (Av src ga fe)):=by
 subst eN
 intro A0 He pins s σ H D I ⟨ρ,o,⟨A,w⟩,e,k⟩
 refine XC (tc:=fun σ H Q => ∃ A,tFT G A ga σ H Q) (te:=fun σ H Q => ∃ A,tF G A fe σ H Q) c hc hN hi' hx (hi A) (fun s2 H2 fp => ?_) (fun s2 H2 fp => ?_) hsw hf hs pins s σ H D I (bw (XN hi0 w e k))
 ·exact fun pins s σ H Q I ⟨A,q⟩ => hI s2 H2 fp A pins s σ H Q I q
 ·exact fun pins s σ H Q I ⟨A,q⟩ => hE s2 H2 fp A pins s σ H Q I q
end
end PV
namespace PV
open PySem PySem.Spec
section
variable {prog : Program} {w : World} {A : Around} {E : Value->Shared->Prop} {s : Shared}
def btx (w : World) : Bool:=w.params.followText "set-order"
def keyOf (e : Int × Value) : Str:=match e.2 with | .str k _ => k | _ => Str.empty
def EntS (w : World) (e : Int × Value) (k : Str) : Prop:=e.1 = hashStr w k/\∃ t,e.2 = .str k t
abbrev kS (prog : Program) (w : World):=PySem.strKind prog w
structure FX (w : World) (es : Array (Int × Value)) (t : SetTable) (ks : List Str) : Prop where
 ent : ∀ e ∈ es.toList,EntS w e (keyOf e)
 perm : (es.toList.map keyOf).Perm ks
 nd : ks.Nodup
 sz : es.size < scanBound
 fits : t.fits es.size = true
 led : btx w = false->t.led = true
 plain : es.size ≠ 0->t.plain = false
def ObX (h : Heap) (a : Addr) (es : Array (Int × Value)) (t : SetTable) : Prop:=∃ o ep,h.get? a = some o/\o.ExactSet/\o.data = .set es ep t
def SetX (w : World) (h : Heap) (a : Addr) (ks : List Str) : Prop:=∃ es t,ObX h a es t/\FX w es t ks
theorem SetX.keep {h h' : Heap} {a : Addr} {ks : List Str} (x : SetX w h a ks) (e : ∀ o,h.get? a = some o->h'.get? a = some o) : SetX w h' a ks:=by
 obtain ⟨es,t,⟨o,ep,g,q⟩,f⟩:=x
 exact ⟨es,t,⟨o,ep,e o g,q⟩,f⟩
theorem SetX.typeIs {a : Addr} {ks : List Str} (x : SetX w s.heap a ks) : s.TypeIs (.ref a) "set":=
 let ⟨_,_,⟨o,_,g,q,_⟩,_⟩:=x; ⟨o,g,q.1⟩
theorem QC {k : Str} {v : Value} : (kS prog w).is k v = true ↔ ∃ t,v = .str k t:=
 ⟨fun h => Value.isStrOf_shape h,fun ⟨t,q⟩ => by subst q; show Value.isStrOf k (.str k t) = true; simp [Value.isStrOf,Value.isStr]⟩
theorem FX.elems {es : Array (Int × Value)} {t : SetTable} {ks : List Str} (f : FX w es t ks) : ElemsOf (kS prog w) es.toList:=fun e m =>
 let ⟨q1,u,q2⟩:=f.ent e m; ⟨⟨keyOf e,QC.mpr ⟨u,q2⟩,q1⟩,by rw [q2]; rfl⟩
theorem FX.len {es : Array (Int × Value)} {t : SetTable} {ks : List Str} (f : FX w es t ks) : es.size = ks.length:=by simpa using f.perm.length_eq
theorem key_is {e : Int × Value} {k : Str} {u : Tok} (h : e.2 = .str k u) : keyOf e = k:=by unfold keyOf; rw [h]
theorem Yy (t : SetTable) (es : Array (Int × Value)) (n : Int) (x : Value) : (layNew t es n x).2.1.led = t.led/\(t.plain = false->(layNew t es n x).2.1.plain = false):=by
 unfold layNew
 cases t.freeSlot n with
 | none => exact ⟨rfl,fun _ => rfl⟩
 | some p =>
  obtain ⟨j,b⟩:=p
  simp only [SetTable.orStandIn]
  by_cases q : ((t.put j).1.fits (SetTable.insertAt es (t.put j).2 (n,x)).size) = true
  ·rw [if_pos q]; exact ⟨rfl,id⟩
  ·rw [if_neg q]; exact ⟨rfl,fun _ => rfl⟩
theorem T5 (t : SetTable) (es : Array (Int × Value)) (n : Nat) : (relayAll t es n).2.1.led = t.led/\(t.plain = false->(relayAll t es n).2.1.plain = false):=by
 have inner : ∀ t' ord,t.relaid (es.map (·.1)) n = some (t',ord)->t'.led = t.led/\t'.plain = t.plain:=fun t' ord z => by
  unfold SetTable.relaid SetTable.laid at z
  cases q : SetTable.layClean (SetTable.sizeAbove n - 1) (es.map (·.1)) with
  | none => simp [q] at z
  | some ow => simp [q] at z; rw [<-z.1]; exact ⟨rfl,rfl⟩
 unfold relayAll
 cases q : t.relaid (es.map (·.1)) n with
 | none => exact ⟨rfl,fun _ => rfl⟩
 | some p =>
  obtain ⟨t',ord⟩:=p
  obtain ⟨i1,i2⟩:=inner t' ord q
  by_cases z : (coversAll ord es.size && t'.fits (ord.filterMap (es[·]?)).size) = true
  ·simp only [z,if_true]; exact ⟨i1,fun y => i2.trans y⟩
  ·simp only [z,if_false]; exact ⟨rfl,fun _ => rfl⟩
theorem FX.relay {es : Array (Int × Value)} {t : SetTable} {ks : List Str} (f : FX w es t ks) (n : Nat) : FX w (relayAll t es n).1 (relayAll t es n).2.1 ks:=by
 have p:=relayAll_perm t es n
 have l : (relayAll t es n).1.size = es.size:=by simpa using p.length_eq
 obtain ⟨m1,m2⟩:=T5 t es n
 exact ⟨fun e m => f.ent e (p.mem_iff.mp m),(p.map keyOf).trans f.perm,f.nd,l ▸ f.sz,relayAll_fits t es n,fun b => m1.trans (f.led b),fun z => m2 (f.plain (l ▸ z))⟩
theorem bx {a : Addr} {es es' : Array (Int × Value)} {t t' : SetTable} {Q : Unit->Shared->Prop} (x : ObX s.heap a es t) (z : es'.size < scanBound) (k : ∀ h',Heap.SameBut a s.heap h'->ObX h' a es' t'->Q () { s with heap:=h' }) : wpAny (model prog w) A (storeSet a es' t') Q E s:=by
 obtain ⟨o,ep,g,q,d⟩:=x
 refine wpAny_storeSet_of g d (k _ (Heap.SameBut.update _ _ _) ⟨{ o with data:=.set es' (ep + 1) t' },ep + 1,?_,q,rfl⟩) (fits_of_scanBound z)
 have u:=Heap.get?_update_self (Obj.putSet es' t') g (by rw [putSet_of es' t' d]; rfl)
 rwa [putSet_of es' t' d] at u
def addK (ks : List Str) (k : Str) : List Str:=if k ∈ ks then ks else ks ++ [k]
theorem FX.more {es es1 : Array (Int × Value)} {t t1 : SetTable} {ks : List Str} {k : Str} {u : Tok} (f : FX w es t ks) (nk : k ∉ ks) (p : es1.toList.Perm (es.toList ++ [(hashStr w k,.str k u)])) (r : ks.length + 1 < scanBound) (q1 : t1.fits es1.size = true) (q2 : t1.led = t.led) (q3 : t1.plain = false) : FX w es1 t1 (addK ks k):=by
 have l : es1.size = es.size + 1:=by simpa using p.length_eq
 unfold addK
 rw [if_neg nk]
 refine ⟨fun e m => (List.mem_append.mp (p.mem_iff.mp m)).elim (f.ent e) fun m => ?_,?_,List.nodup_append.mpr ⟨f.nd,by simp,fun x hx y hy e => nk ?_⟩,by rw [l,f.len]; exact r,q1,fun b => q2.trans (f.led b),fun _ => q3⟩
 ·cases List.mem_singleton.mp m; exact ⟨rfl,u,rfl⟩
 ·have:=p.map keyOf; rw [List.map_append] at this; exact this.trans (f.perm.append_right _)
 ·cases List.mem_singleton.mp hy; rw [<-e]; exact hx
theorem addX {a : Addr} {ks : List Str} {k : Str} {u : Tok} {Q : Bool->Shared->Prop} (x : SetX w s.heap a ks) (r : ks.length + 1 < scanBound) (c : ∀ b h',Heap.SameBut a s.heap h'->SetX w h' a (addK ks k)->Q b { s with heap:=h' }) : wpAny (model prog w) A (setAddHashed a (.str k u) (hashStr w k)) Q E s:=by
  obtain ⟨es,t,ob,f⟩:=x
  obtain ⟨o,ep,g,ex,d⟩:=id ob
  have el : ElemsOf (kS prog w) es.toList:=f.elems
  have iss : (kS prog w).is k (.str k u) = true:=QC.mpr ⟨u,rfl⟩
  show wpAny _ A (setAddHashed a (.str k u) ((kS prog w).hash k)) Q E s
  unfold setAddHashed setAddHashedIn setAddByScan
  refine wpAny_holding (wpAny_bind (wpAny_setState_of g d f.fits ?_))
  dsimp only
  rw [if_pos (show byScan (.str k u) es = true from byScan_of rfl f.sz el)]
  refine wpAny_bind (wpAny_bind (wpAny_rule (wpAny_bind (wpAny_setScan_of iss g d f.fits el ?_))))
  rcases Option.eq_none_or_eq_some (es.toList.findIdx? fun e => (kS prog w).is k e.2) with no | ⟨j,yes⟩
  · have nk : k ∉ ks:=fun m => by
      obtain ⟨e,m,ek⟩:=List.mem_map.mp (f.perm.mem_iff.mpr m)
      obtain ⟨_,v,ev⟩:=f.ent e m
      have z:=List.findIdx?_eq_none_iff.mp no e m
      rw [QC.mpr ⟨v,ek ▸ ev⟩] at z
      cases z
    rw [no]
    have p:=layNew_perm t es ((kS prog w).hash k) (.str k u)
    have q:=layNew_fits t es ((kS prog w).hash k) (.str k u)
    obtain ⟨m1,m2⟩:=Yy t es ((kS prog w).hash k) (.str k u)
    dsimp only
    generalize layNew t es ((kS prog w).hash k) (.str k u) = y at p q m1 m2 ⊢
    obtain ⟨es1,t1,du,gv⟩:=y
    rw [Array.toList_push] at p
    have quiet : ∀ (b : Bool) (z : Shared) (R : Unit->Shared->Prop),R () z->wpAny (model prog w) A (match b with | true => rule "set.scan.the-table-gave-way" | false => pure ()) R E z:=fun b z R y => match b with
      | true => wpAny_rule y
      | false => wpAny_pure y
    refine wpAny_bind (quiet gv _ _ ?_)
    have rest : ∀ t2 : SetTable,FX w es1 t2 (addK ks k)->wpAny (model prog w) A (do
        storeSet a es1 t2
        if (!du && t2.tooFull) = true then
          (match (relayAll t2 es1 (SetTable.grown es1.size)).2.2 with | true => rule "set.scan.the-table-gave-way" | false => pure ())
          storeSet a (relayAll t2 es1 (SetTable.grown es1.size)).1 (relayAll t2 es1 (SetTable.grown es1.size)).2.1
          return some true
        else return some true) (fun v z => match v with | some v => wpAny (model prog w) A (pure v) Q E z | none => False) E s:=fun t2 f2 => by
      refine wpAny_bind (bx ob f2.sz fun h1 b1 o1 => ?_)
      by_cases full : (!du && t2.tooFull) = true
      · rw [if_pos full]
        refine wpAny_bind (quiet _ _ _ (wpAny_bind (bx o1 (f2.relay _).sz fun h2 b2 o2 => wpAny_pure (wpAny_pure (c _ h2 (b1.trans b2) ⟨_,_,o2,f2.relay _⟩)))))
      · rw [if_neg full]
        exact wpAny_pure (wpAny_pure (c _ h1 b1 ⟨_,_,o1,f2⟩))
    have shut : ∀ (v : Option Bool) (z : Shared),(match v with | some v => wpAny (model prog w) A (pure v) Q E z | none => False)->wpAny (model prog w) A (match v with | some added => pure added | none => setAddHashedIn a (.str k u) ((kS prog w).hash k) 99999) Q E z:=fun v z y => match v with
      | some _ => y
      | none => y.elim
    cases tp : t1.plain with
    | true =>
      rw [if_pos rfl,show hashByValue 8 (.str k u) = pure false from hashByValue_scannable 8 rfl]
      exact wpAny_bind (wpAny_pure (wpAny_mono (rest { t1 with plain:=false } (f.more nk p r (SetTable.fits_plain_off q) m1 rfl)) (fun v z y => shut v z y) fun _ _ y => y))
    | false =>
      rw [if_neg Bool.false_ne_true]
      exact wpAny_bind (wpAny_pure (wpAny_mono (rest t1 (f.more nk p r q m1 tp)) (fun v z y => shut v z y) fun _ _ y => y))
  · rw [yes]
    obtain ⟨hj,isj,_⟩:=List.findIdx?_eq_some_iff_getElem.mp yes
    obtain ⟨v,ev⟩:=QC.mp isj
    have kk : k ∈ ks:=f.perm.mem_iff.mp (List.mem_map.mpr ⟨_,List.getElem_mem hj,key_is ev⟩)
    have:=c false s.heap (Heap.SameBut.refl a _) (by unfold addK; rw [if_pos kk]; exact ⟨es,t,ob,f⟩)
    exact wpAny_pure (wpAny_pure this)
end
end PV
namespace PV
open PySem PySem.Spec
section
variable {prog : Program} {w : World} {A : Around} {R : Result->Shared->Prop} {I : Addr} {fp wr : List Addr} {n : Nat} {P : Nat->Value->Prop} {Sx : Nat->Heap->Prop}
def metX (val : Nat->Str) (i : Nat) : List Str:=((List.range i).map val).foldl addK []
theorem RN (val : Nat->Str) (i : Nat) : metX val (i + 1) = addK (metX val i) (val i):=by simp [metX,List.range_succ,List.foldl_append]
theorem T6 (val : Nat->Str) : ∀ i,(metX val i).length<=i
 | 0 => Nat.le_refl _
 | i + 1 => by
  have q:=T6 val i
  rw [RN]
  unfold addK
  split <;> simp <;> omega
theorem p_ (W : Walks prog w A.in1 I fp wr n P Sx) {S : Addr} (nS : S ∉ fp) (val : Nat->Str) (hv : ∀ i v,P i v->∃ u,v = .str (val i) u) (hb : n + 1 < scanBound) :
    ∀ (m i : Nat) (s : Shared),i + m = n->Sx i s.heap->SetX w s.heap S (metX val i) ->
      (∀ h' tk,(∀ b o,b ∉ wr->b ≠ S->s.heap.get? b = some o->h'.get? b = some o)->SetX w h' S (metX val n)->R (.ok (.ret .none)) { s with heap:=h',toks:=tk }) ->
      codeAny (model prog w) A (.builtin "set.update.loop" ⟨[.ref S,.ref I],[]⟩) R s:=by
  have nW : S ∉ wr:=fun z => nS (W.sub S z)
  have turn : ∀ {s : Shared},wpAny (model prog w) A.in1 (do
        let some x <-pyNext (.ref I) | ret .none
        let _ <-holding [x] (setAdd S x)
        again (.builtin "set.update.loop" ⟨[.ref S,.ref I],[]⟩))
      (fun fin s' => match fin with | .done f => R (.ok f) s' | .again c' => c'.quiet = true/\codeAny (model prog w) A c' R s') (fun e s' => R (.error e) s') s->codeAny (model prog w) A (.builtin "set.update.loop" ⟨[.ref S,.ref I],[]⟩) R s:=fun q => by
    refine codeAny_builtin PyProof.Rows.F.entry_set_update_loop ?_
    rw [Around.under_plainId PyProof.Rows.F.plain_set_update_loop _]
    exact q
  intro m
  induction m with
  | zero =>
    intro i s e st x k
    have : i = n:=by omega
    subst this
    exact turn (wpAny_bind (W.done s _ _ st fun h' tk kp => wpAny_pure (k h' tk (fun b o nb _ q => kp b o nb q) (x.keep fun o q => kp S o nW q))))
  | succ m ih =>
    intro i s e st x k
    refine turn (wpAny_bind (W.item i s _ _ (by omega) st fun v h1 tk pv st1 kp => ?_))
    obtain ⟨u,rfl⟩:=hv i v pv
    have x1 : SetX w h1 S (metX val i):=x.keep fun o q => kp S o nW q
    have hl:=T6 val i
    refine wpAny_bind (wpAny_holding (wpAny_holding (wpAny_bind ((kS prog w).pyHash (k:=val i) (QC.mpr ⟨u,rfl⟩) ?_))))
    refine addX (s:={ s with heap:=h1,toks:=tk + 1 }) (w:=w) x1 (by omega) fun b h2 sb x2 => wpAny_pure ⟨plainId_quiet PyProof.Rows.F.plain_set_update_loop _,?_⟩
    rw [<-RN] at x2
    refine ih (i + 1) { s with heap:=h2,toks:=tk + 1 } (by omega) (W.frame _ _ _ st1 fun b m o q => (sb.2 b fun z => nS (z ▸ m)).trans q) x2 fun h3 t3 kp3 x3 => ?_
    exact k h3 t3 (fun b o nb nS' q => kp3 b o nb nS' ((sb.2 b nS').trans (kp b o nb q))) x3
end
end PV
namespace PV
open PySem PySem.Spec
section
variable {prog : Program} {w : World} {A : Around} {E : Value->Shared->Prop} {s : Shared}
theorem qC {T nid iid : String} {as : List Value} {Q Q1 : Value->Shared->Prop} (ft : TypeCalled T nid iid) (hc : checkTypeCall T ⟨as,[]⟩ = pure ()) (hn : codeAny (model prog w) A.in1 (.call (.builtin nid) ⟨.type T :: as,[]⟩) (wants Q1 E) s)
  (hi : ∀ ob s1,Q1 ob s1->s1.TypeIs ob T/\codeAny (model prog w) A.in1 (.call (.builtin iid) ⟨ob :: as,[]⟩) (wants (fun r s2 => r = .none/\Q ob s2) E) s1) : wpAny (model prog w) A (call (.type T) as) Q E s:=by
 obtain ⟨m0,mr,g1⟩:=ft.mro
 have g2:=ft.made
 have g3:=ft.sub
 have g4:=ft.notType
 have g5:=ft.canCreate
 refine wpAny_call (codeAny_of_tree (show wpAny _ _ (callAny (.type T) _) _ _ _ from wpAny_pure ⟨Code.quiet_builtin _ (by decide +kernel),codeAny_builtin F.entry_type_call ?_⟩))
 rw [Around.under_plain (weight_type_call_type T as []) (units_type_call_type T as [])]
 repeat (any_goals (first | assumption | wp_step))
 refine codeAny_mono hn fun r s1 q1 => ?_
 match r,q1 with
 | .error _,q1 => exact q1
 | .ok .next,q1 => exact q1.elim
 | .ok .brk,q1 => exact q1.elim
 | .ok .cont,q1 => exact q1.elim
 | .ok (.ret ob),q1 =>
  obtain ⟨ty,run⟩:=hi ob s1 q1
  have g6:=ft.init.lookup
  have g7:=ft.init.bind ob
  repeat (any_goals (first | assumption | wp_step))
  refine codeAny_mono run fun r2 s2 q2 => ?_
  match r2,q2 with
  | .error _,q2 => exact q2
  | .ok .next,q2 => exact q2.elim
  | .ok .brk,q2 => exact q2.elim
  | .ok .cont,q2 => exact q2.elim
  | .ok (.ret v),⟨e,q2⟩ =>
   subst e
   repeat (any_goals (first | assumption | wp_step))
structure TextsAt (prog : Program) (w : World) (T : String) (l : Addr) (n : Nat) (val : Nat->Str) (h0 : Heap) : Prop where
 ty : ∀ s : Shared,(∀ o,h0.get? l = some o->s.heap.get? l = some o)->s.TypeIs (.ref l) T
 ns : isSubtype (.type T) (.type "set") = pure false
 nf : isSubtype (.type T) (.type "frozenset") = pure false
 nd : (Value.type T == Value.type "dict") = false
 lt : l < h0.objs.size
 it : ∀ (A : Around) (E : Value->Shared->Prop) (s : Shared) (Q : Value->Shared->Prop),A.handled = none->(∀ o,h0.get? l = some o->s.heap.get? l = some o)->l < s.heap.objs.size ->
  (∀ (oI : Obj) (Sx : Nat->Heap->Prop) (P : Nat->Value->Prop),(∀ A' : Around,A'.handled = none->Walks prog w A' s.heap.objs.size [s.heap.objs.size,l] [s.heap.objs.size] n P Sx)->Sx 0 (s.heap.push oI)->(∀ i v,P i v->∃ u,v = .str (val i) u)->Q (.ref s.heap.objs.size) { s with heap:=s.heap.push oI }) ->
  wpAny (model prog w) A (pyIter (.ref l)) Q E s
theorem iH (v : Value) {Q : Value->Shared->Prop} (k : Q (.ref s.heap.objs.size) { s with heap:=s.heap.push { cls:=.type "set",dict:=none,data:=.set #[] 0 (.fresh 0 0 (!btx w)) } }) : codeAny (model prog w) A (.call (.builtin "set.__new__") ⟨[.type "set",v],[]⟩) (wants Q E) s:=by
 have sb : isSubtype (.type "set") (.type "set") = pure true:=by rw [isSubtype_type]; kernel_rfl
 refine codeAny_of_tree (show wpAny _ A.in1 (do checkBuiltinCall "set.__new__" ⟨[.type "set",v],[]⟩; again (.builtin "set.__new__" ⟨[.type "set",v],[]⟩)) _ _ s from ?_)
 refine wpAny_bind (wpAny_of_eq (F.newCall_set_1 v) (wpAny_pure ⟨plainId_quiet F.plain_set_new _,codeAny_builtin F.entry_set_new ?_⟩))
 rw [Around.under_plainId F.plain_set_new _]
 unfold Builtin.«set.__new__» Builtin.Frozenset.newClass
 obtain ⟨h,g,d,tk,os⟩:=s
 wp_walk
 refine wpAny_askSetting (wpAny_pure ?_)
 dsimp only [newObj]
 exact wpAny_bind (wpAny_alloc (wpAny_pure (wpAny_pure k)))
theorem Yz (h : Heap) : SetX w (h.push { cls:=.type "set",dict:=none,data:=.set #[] 0 (.fresh 0 0 (!btx w)) }) h.objs.size []:=
 ⟨#[],_,⟨_,0,Heap.get?_push_size _ rfl,⟨rfl,rfl,rfl⟩,rfl⟩,fun e m => by simp at m,by simp,by simp,by decide,by rfl,fun b => by simp [SetTable.fresh,b],fun z => by simp at z⟩
theorem nU {T : String} {l : Addr} {n : Nat} {val : Nat->Str} {Q : Value->Shared->Prop} (hh : A.handled = none) (X : TextsAt prog w T l n val s.heap) (hb : n + 1 < scanBound)
  (k : ∀ h' tk,SetX w h' s.heap.objs.size (metX val n)->(∀ b o,s.heap.get? b = some o->h'.get? b = some o)->Q (.ref s.heap.objs.size) { s with heap:=h',toks:=tk }) : wpAny (model prog w) A (call (.type "set") [.ref l]) Q E s:=by
 refine qC (Q1:=fun ob s1 => ob = .ref s.heap.objs.size/\s1 = { s with heap:=s.heap.push { cls:=.type "set",dict:=none,data:=.set #[] 0 (.fresh 0 0 (!btx w)) } }) F.called_set (F.typeCall_set_1 _) (iH _ ⟨rfl,rfl⟩) fun ob s1 ⟨e1,e2⟩ => ?_
 subst e1 e2
 have ob:=Heap.get?_push_size s.heap (o:={ cls:=.type "set",dict:=none,data:=.set #[] 0 (.fresh 0 0 (!btx w)) }) rfl
 refine ⟨⟨_,ob,rfl⟩,codeAny_call_builtin F.called_set.init.plain F.entry_set_init (check_set_init_1 ⟨_,ob,rfl⟩ ?_)⟩
 have kl : ∀ o,s.heap.get? l = some o->(s.heap.push { cls:=.type "set",dict:=none,data:=.set #[] 0 (.fresh 0 0 (!btx w)) }).get? l = some o:=fun o q => Heap.get?_push_of_some _ q
 have ty:=X.ty { s with heap:=s.heap.push { cls:=.type "set",dict:=none,data:=.set #[] 0 (.fresh 0 0 (!btx w)) } } kl
 have s1:=X.ns
 have s2:=X.nf
 have s3:=X.nd
 unfold Builtin.«set.__init__» noKeywords Builtin.Frozenset.updateFrom
 generalize hp : pyIter = PI
 wp_walk
 subst hp
 refine X.it _ _ _ _ (by simp [hh]) kl (by rw [Heap.size_push]; exact Nat.lt_succ_of_lt X.lt) fun oI Sx P W st hv => ?_
 refine wpAny_bind (wpAny_runValue ?_)
 have szI : (s.heap.push { cls:=.type "set",dict:=none,data:=.set #[] 0 (.fresh 0 0 (!btx w)) }).objs.size = s.heap.objs.size + 1:=Heap.size_push _ _
 have x0 : SetX w ((s.heap.push { cls:=.type "set",dict:=none,data:=.set #[] 0 (.fresh 0 0 (!btx w)) }).push oI) s.heap.objs.size (metX val 0):=(Yz s.heap).keep fun o q => Heap.get?_push_of_some _ q
 refine p_ (W _ (by simp [hh])) (S:=s.heap.objs.size) (fun z => ?_) val hv hb n 0 _ (by omega) st x0 fun h' tk kp x => ?_
 ·rcases List.mem_cons.mp z with z | z
  ·rw [szI] at z; exact absurd z (Nat.ne_of_lt (Nat.lt_succ_self _))
  ·exact absurd (List.mem_singleton.mp z) (Nat.ne_of_gt X.lt)
 ·show wpAny _ _ _ _ _ _
  refine wpAny_pure (show wpAny _ _ (ret Value.none) _ _ _ from wpAny_pure ⟨rfl,k h' tk x fun b o q => ?_⟩)
  have lb : b < s.heap.objs.size:=Heap.lt_size q
  exact kp b o (fun z => by have e:=List.mem_singleton.mp z; rw [szI] at e; exact absurd e (Nat.ne_of_lt (Nat.lt_succ_of_lt lb))) (Nat.ne_of_lt lb) (Heap.get?_push_of_some _ (Heap.get?_push_of_some _ q))
end
end PV
namespace PV
open PySem PySem.Spec
theorem Gm : PySem.Slot "set_iterator" "__next__" "set_iterator.__next__":=
 .of (owner := "set_iterator") (n := "__next__") (by rw [typeLookup_type,builtinLookup_eq_fast]; kernel_rfl) (by decide +kernel) (by decide +kernel) (by decide +kernel) (by first | exact .inl (by decide +kernel) | exact .inr (by decide +kernel)) (by rw [isSubtype_type]; kernel_rfl)
theorem Ms : entryFor table "set_iterator.__next__" = some Builtin.«set_iterator.__next__»:=entryFor_of_tree (by kernel_rfl)
theorem bz : Manifest.owners.lookup (String.ofList ['r','o','t','a','r','e','t','i','_','t','e','s'].reverse) = some Manifest.sig_set_iterator:=by kernel_rfl
theorem O_ (a : Value) : argsOk "set_iterator.__next__" ⟨[a],[]⟩:=by
 unfold argsOk
 rw [signature?_of (id := "set_iterator.__next__") (n:=['_','_','t','x','e','n','_','_']) (o:=['r','o','t','a','r','e','t','i','_','t','e','s']) (by kernel_rfl) bz]
 kernel_rfl
section
variable {prog : Program} {w : World} {A : Around} {E : Value->Shared->Prop} {s : Shared} {I q T : Addr} {first : Value} {j n ep : Nat} {es : Array (Int × Value)} {t : SetTable}
def ItX (h : Heap) (I q : Addr) (first : Value) (j n ep : Nat) : Prop:=∃ o,h.get? I = some o/\o.cls = .type "set_iterator"/\o.data = .fields #[first,.int j 0,.ref q,.int n 0,.int ep 0]
def JH (h : Heap) (q : Addr) (es : Array (Int × Value)) (ep : Nat) (t : SetTable) : Prop:=∃ o,h.get? q = some o/\o.ExactSet/\o.data = .set es ep t
theorem ItX.ty (x : ItX s.heap I q first j n ep) : s.TypeIs (.ref I) "set_iterator":=let ⟨o,g,c,_⟩:=x; ⟨o,g,c⟩
theorem ItX.put0 {h : Heap} (x : ItX h I q first j n ep) (f2 : Value) : ItX (h.update I (Obj.mapFields (·.setIfInBounds 0 f2))) I q f2 j n ep:=by
 obtain ⟨o,g,c,d⟩:=x
 exact ⟨_,Heap.get?_update_self _ g (Obj.isFreed_of_fields (Obj.data_mapFields d _)),(Obj.cls_mapFields ..).trans c,by rw [Obj.data_mapFields d]; simp⟩
theorem ItX.put1 {h : Heap} (x : ItX h I q first j n ep) : ItX (h.update I (Obj.mapFields (·.setIfInBounds 1 (rawInt ((j : Int) + 1))))) I q first (j + 1) n ep:=by
 obtain ⟨o,g,c,d⟩:=x
 exact ⟨_,Heap.get?_update_self _ g (Obj.isFreed_of_fields (Obj.data_mapFields d _)),(Obj.cls_mapFields ..).trans c,by rw [Obj.data_mapFields d]; simp [rawInt]⟩
theorem Kp {a : Addr} {h : Heap} (z : s.heap = h) (x : ItX h I q first j n ep) {i : Nat} (hi : i < 5) {v : Value} {Q : Unit->Shared->Prop} (k : Q () { s with heap:=h.update I (Obj.mapFields (·.setIfInBounds i v)) }) : wpAny (model prog w) A (setField (.ref I) i v) Q E s:=by
 subst z
 obtain ⟨o,g,_,d⟩:=x
 exact wpAny_setField g d (by simpa using hi) k
theorem iI {sl : Int} {v : Value} {nx : Nat} {Q : Option Value->Shared->Prop} (x : ItX s.heap I q (.int sl 0) j n ep) (y : JH s.heap q es ep t) (hf : t.fits es.size = true) (hn : es.size = n)
  (hx : ∀ (B : Around) (E2 : Value->Shared->Prop) (R : Option (Value × Nat)->Shared->Prop),R (some (v,nx)) s->wpAny (model prog w) B (setNext q sl.toNat j ep) R E2 s)
  (k : ∀ h',Heap.SameBut I s.heap h'->ItX h' I q (.int nx 0) (j + 1) n ep->Q (some v) { s with heap:=h' }) : wpAny (model prog w) A (pyNext (.ref I)) Q E s:=by
 obtain ⟨o,g,c,d⟩:=id x
 obtain ⟨oq,gq,_,dq⟩:=y
 unfold pyNext
 refine wpAny_bind (wpAny_attempt (wpAny_callSpecial?_slot (name:=Str.ofString "__next__") x.ty Gm (wpAny_call_entry Gm x.ty Ms ?_ (O_ _))))
 unfold Builtin.«set_iterator.__next__»
 refine wpAny_bind (wpAny_pure (wpAny_bind (wpAny_fieldsOf g d ?_)))
 dsimp only
 refine wpAny_bind (wpAny_setEntries_of gq dq hf ?_)
 rw [if_neg (by rw [hn]; simp),Int.toNat_natCast,Int.toNat_natCast]
 refine wpAny_bind (hx _ _ _ ?_)
 refine wpAny_bind (Kp (a:=I) rfl x (by decide) (wpAny_bind (Kp (a:=I) rfl (x.put0 (rawInt nx)) (by decide) (wpAny_pure ⟨v,rfl,wpAny_pure ?_⟩))))
 exact k _ ((Heap.SameBut.update ..).trans (Heap.SameBut.update ..)) (x.put0 (rawInt nx)).put1
theorem XS {Q : Option Value->Shared->Prop} {z : Shared} (hh : A.handled = none) (k : ∀ h',(∀ b o,z.heap.get? b = some o->h'.get? b = some o)->Q none { z with heap:=h' }) :
  wpAny (model prog w) A.in1 (newExc (.type "StopIteration") [] >>= fun e => (raiseNew e : Sem Fin)) (fun fin s' => ∃ v,fin = Fin.done (Flow.ret v)/\wpAny (model prog w) A (pure (some v)) Q E s')
   (fun e s' => wpAny (model prog w) A (isInstance e (.type "StopIteration") >>= fun b => if b = true then pure none else throw e) Q E s') z:=by
 refine wpAny_bind ?_
 simp only [newExc,newTuple]
 refine wpAny_bind (wpAny_newObj_type ?_ (by size_fits))
 refine wpAny_bind (m:=firstArgMember _ _) (wpAny_of_eq (a:=Value.none) (by first | rfl | (simp only [firstArgMember]; rfl)) (wpAny_newObj_type ?_ (by size_fits)))
 unfold raiseNew
 refine wpAny_bind (wpAny_handled ?_)
 rw [show A.in1.handled = none from hh]
 refine wpAny_bind (wpAny_pure (wpAny_throw ?_))
 have ty : ∀ (h0 : Heap) (ob : Obj),ob.cls = .type "StopIteration"->ob.isFreed = false->Shared.TypeIs { z with heap:=h0.push ob } (.ref h0.objs.size) "StopIteration":=fun h0 ob c f => ⟨ob,Heap.get?_push_size _ f,c⟩
 refine wpAny_bind (wpAny_isInstance (T := "StopIteration") (b:=true) (ty _ _ rfl rfl) isSubtype_stop ?_)
 refine wpAny_pure (k _ fun b o e => ?_)
 exact Heap.get?_push_of_some _ (Heap.get?_push_of_some _ e)
theorem iJ {sl : Int} {Q : Option Value->Shared->Prop} (hh : A.handled = none) (x : ItX s.heap I q (.int sl 0) j n ep) (y : JH s.heap q es ep t) (hf : t.fits es.size = true) (hn : es.size = n)
  (hx : ∀ (B : Around) (E2 : Value->Shared->Prop) (R : Option (Value × Nat)->Shared->Prop),R none s->wpAny (model prog w) B (setNext q sl.toNat j ep) R E2 s)
  (k : ∀ h',(∀ b o,b ≠ I->s.heap.get? b = some o->h'.get? b = some o)->Q none { s with heap:=h' }) : wpAny (model prog w) A (pyNext (.ref I)) Q E s:=by
 obtain ⟨o,g,c,d⟩:=id x
 obtain ⟨oq,gq,_,dq⟩:=y
 unfold pyNext
 refine wpAny_bind (wpAny_attempt (wpAny_callSpecial?_slot (name:=Str.ofString "__next__") x.ty Gm (wpAny_call_entry Gm x.ty Ms ?_ (O_ _))))
 unfold Builtin.«set_iterator.__next__»
 refine wpAny_bind (wpAny_pure (wpAny_bind (wpAny_fieldsOf g d ?_)))
 dsimp only
 refine wpAny_bind (wpAny_setEntries_of gq dq hf ?_)
 rw [if_neg (by rw [hn]; simp),Int.toNat_natCast,Int.toNat_natCast]
 refine wpAny_bind (hx _ _ _ (wpAny_bind (Kp (a:=I) rfl x (by decide) (XS hh fun h' kp => k h' fun b o nb e => kp b o ?_))))
 exact (Heap.get?_update_other _ _ (Ne.symm nb)).trans e
theorem iK {pl : Array Value} {p : Nat} {u : Tok} {e0 : Int × Value} {Q : Option Value->Shared->Prop} (x : ItX s.heap I q (.ref T) j n ep) (y : JH s.heap q es ep t) (hf : t.fits es.size = true) (hn : es.size = n) (ht : s.heap.IsTuple T pl)
  (hp : pl[j]? = some (.int p u)) (he : es[p]? = some e0) (k : ∀ h',Heap.SameBut I s.heap h'->ItX h' I q (.ref T) (j + 1) n ep->Q (some e0.2) { s with heap:=h' }) : wpAny (model prog w) A (pyNext (.ref I)) Q E s:=by
 obtain ⟨o,g,c,d⟩:=id x
 obtain ⟨oq,gq,_,dq⟩:=y
 obtain ⟨ot,gt,_,nt,dt⟩:=ht
 unfold pyNext
 refine wpAny_bind (wpAny_attempt (wpAny_callSpecial?_slot (name:=Str.ofString "__next__") x.ty Gm (wpAny_call_entry Gm x.ty Ms ?_ (O_ _))))
 unfold Builtin.«set_iterator.__next__»
 refine wpAny_bind (wpAny_pure (wpAny_bind (wpAny_fieldsOf g d ?_)))
 dsimp only
 refine wpAny_bind (wpAny_setEntries_of gq dq hf ?_)
 rw [if_neg (by rw [hn]; simp)]
 refine wpAny_bind (wpAny_seqItems gt dt ?_)
 rw [Int.toNat_natCast,Int.toNat_natCast]
 simp only [hp]
 unfold setNextDrawn
 refine wpAny_bind (wpAny_bind (wpAny_setState_of gq dq hf ?_))
 dsimp only
 rw [if_neg (by simp),Int.toNat_natCast]
 simp only [he]
 refine wpAny_pure (wpAny_bind (Kp (a:=I) rfl x (by decide) (wpAny_pure ⟨e0.2,rfl,wpAny_pure ?_⟩)))
 exact k _ (Heap.SameBut.update ..) x.put1
theorem iM {pl : Array Value} {Q : Option Value->Shared->Prop} (hh : A.handled = none) (x : ItX s.heap I q (.ref T) j n ep) (y : JH s.heap q es ep t) (hf : t.fits es.size = true) (hn : es.size = n) (ht : s.heap.IsTuple T pl)
  (hp : pl[j]? = none) (k : ∀ h',(∀ b o,b ≠ I->s.heap.get? b = some o->h'.get? b = some o)->Q none { s with heap:=h' }) : wpAny (model prog w) A (pyNext (.ref I)) Q E s:=by
 obtain ⟨o,g,c,d⟩:=id x
 obtain ⟨oq,gq,_,dq⟩:=y
 obtain ⟨ot,gt,_,nt,dt⟩:=ht
 unfold pyNext
 refine wpAny_bind (wpAny_attempt (wpAny_callSpecial?_slot (name:=Str.ofString "__next__") x.ty Gm (wpAny_call_entry Gm x.ty Ms ?_ (O_ _))))
 unfold Builtin.«set_iterator.__next__»
 refine wpAny_bind (wpAny_pure (wpAny_bind (wpAny_fieldsOf g d ?_)))
 dsimp only
 refine wpAny_bind (wpAny_setEntries_of gq dq hf ?_)
 rw [if_neg (by rw [hn]; simp)]
 refine wpAny_bind (wpAny_seqItems gt dt ?_)
 rw [Int.toNat_natCast,Int.toNat_natCast]
 simp only [hp]
 refine wpAny_bind (Kp (a:=I) rfl x (by decide) (wpAny_bind (Kp (a:=I) rfl (x.put0 (rawInt 0)) (by decide) (XS hh fun h' kp => k h' fun b o nb e => kp b o ?_))))
 exact (Heap.get?_update_other _ _ (Ne.symm nb)).trans ((Heap.get?_update_other _ _ (Ne.symm nb)).trans e)
end
end PV
namespace PV
open PySem PySem.Spec
theorem XX : PySem.Slot "set_iterator" "__iter__" "set_iterator.__iter__":=
 .of (owner := "set_iterator") (n := "__iter__") (by rw [typeLookup_type,builtinLookup_eq_fast]; kernel_rfl) (by decide +kernel) (by decide +kernel) (by decide +kernel) (by first | exact .inl (by decide +kernel) | exact .inr (by decide +kernel)) (by rw [isSubtype_type]; kernel_rfl)
theorem b_ : entryFor table "set_iterator.__iter__" = some Builtin.«dict_keyiterator.__iter__»:=entryFor_alias (id' := "dict_keyiterator.__iter__") (by kernel_rfl) rfl (by decide +kernel) (by kernel_rfl)
theorem iQ (a : Value) : argsOk "set_iterator.__iter__" ⟨[a],[]⟩:=by
 unfold argsOk
 rw [signature?_of (id := "set_iterator.__iter__") (n:=['_','_','r','e','t','i','_','_']) (o:=['r','o','t','a','r','e','t','i','_','t','e','s']) (by kernel_rfl) bz]
 kernel_rfl
theorem SX : entryFor table "set.__iter__" = some Builtin.«frozenset.__iter__»:=entryFor_alias (id' := "frozenset.__iter__") (by kernel_rfl) rfl (by decide +kernel) (by kernel_rfl)
section
variable {prog : Program} {w : World} {A : Around} {E : Value->Shared->Prop} {s : Shared} {I q T : Addr} {first : Value} {j n ep : Nat} {es : Array (Int × Value)} {t : SetTable}
theorem Ln {α : Type} : ∀ {l : List α} {i : Nat} (h : i < l.length),(l[i] :: l.eraseIdx i).Perm l
 | x :: r,0,_ => List.Perm.refl _
 | x :: r,i + 1,h => (List.Perm.swap x (r[i]'(by simpa using h)) _).trans (List.Perm.cons x (Ln (by simpa using h)))
theorem cA {M : Model} {src : Source} {Q : Nat->Shared->Prop} (hn : n ≠ 0) (k : ∀ i d,i < n->Q i { s with drawn:=d }) : wpAny M A (choose src n) Q E s:=fun Γ p _ => by
 show Sem.wp M Γ (.choose src n .pure) _ _ p s
 rw [Sem.wp_choose]
 exact ⟨hn,k _ _ (Nat.mod_lt _ (Nat.pos_of_ne_zero hn))⟩
theorem T7 {α : Type} {M : Model} : ∀ (m : Nat) (xs : List α) (s : Shared) {Q : List α->Shared->Prop},xs.length = m->(∀ ys d,ys.Perm xs->Q ys { s with drawn:=d })->wpAny M A (drawOrder m xs) Q E s
 | 0,xs,s,Q,hl,k => by
  have : xs = []:=List.length_eq_zero_iff.mp hl
  subst this
  exact wpAny_pure (k [] s.drawn (List.Perm.refl _))
 | m + 1,[],s,Q,hl,k => by simp at hl
 | m + 1,x :: r,s,Q,hl,k => by
  show wpAny M A (choose .order (x :: r).length >>= _) Q E s
  refine wpAny_bind (cA (by simp) fun i d hi => ?_)
  have hg : (x :: r)[i]? = some (x :: r)[i]:=by simp
  simp only [hg]
  refine wpAny_bind (T7 m ((x :: r).eraseIdx i) _ (by rw [List.length_eraseIdx,if_pos hi]; simp at hl ⊢; omega) fun ys d2 hp => wpAny_pure (k _ d2 ?_))
  exact (List.Perm.cons _ hp).trans (Ln hi)
theorem cB {ks : List Str} {Q : Bool->Shared->Prop} (y : JH s.heap q es ep t) (f : FX w es t ks) (k : Q (!btx w && decide (1 < es.size)) s) : wpAny (model prog w) A (setDrawn q) Q E s:=by
 obtain ⟨o,g,_,d⟩:=y
 unfold setDrawn
 refine wpAny_bind (wpAny_setState_of g d f.fits ?_)
 refine wpAny_bind (show wpAny _ A setsByText _ E s from wpAny_bind (wpAny_askSetting (wpAny_pure (wpAny_pure ?_))))
 have e : (!btx w && decide (1 < es.size)) = (!btx w && (!t.plain && decide (es.size > 1))):=by
  by_cases z : es.size = 0
  ·simp [z]
  ·rw [f.plain z]; simp
 rw [e] at k
 exact k
theorem JK {α : Type} (f : Nat->Nat) (xs : Array α) : (pickOrder f xs).toList.Perm xs.toList:=by
 have go : ∀ (m k : Nat) (l : List α) (out : Array α),l.length = m->(pickOrder.go f m k l out).toList.Perm (out.toList ++ l):=by
  intro m
  induction m with
  | zero => intro k l out hl; have : l = []:=List.length_eq_zero_iff.mp hl; subst this; simp [pickOrder.go]
  | succ m ih =>
   intro k l out hl
   have hi : f k % l.length < l.length:=Nat.mod_lt _ (by omega)
   have hg : l[f k % l.length]? = some l[f k % l.length]:=by simp [hi]
   unfold pickOrder.go
   simp only [hg]
   refine (ih _ _ _ (by rw [List.length_eraseIdx,if_pos hi]; omega)).trans ?_
   rw [Array.toList_push,List.append_assoc]
   exact List.Perm.append_left _ (Ln hi)
 have:=go xs.size 0 xs.toList #[] (by simp)
 simpa [pickOrder] using this
theorem JH.keep {h h' : Heap} (y : JH h q es ep t) (e : ∀ o,h.get? q = some o->h'.get? q = some o) : JH h' q es ep t:=let ⟨o,g,r⟩:=y; ⟨o,e o g,r⟩
theorem ItX.keep {h h' : Heap} (x : ItX h I q first j n ep) (e : ∀ o,h.get? I = some o->h'.get? I = some o) : ItX h' I q first j n ep:=let ⟨o,g,r⟩:=x; ⟨o,e o g,r⟩
theorem Xa {Q : Value->Shared->Prop} (x : ItX s.heap I q first j n ep) (k : Q (.ref I) s) : wpAny (model prog w) A (pyIter (.ref I)) Q E s:=by
 refine wpAny_pyIter_slot x.ty XX (wpAny_call_entry XX x.ty b_ ?_ (iQ _))
 show wpAny _ _ (ret (.ref I)) _ _ s
 exact wpAny_pure ⟨_,rfl, "set_iterator",_,x.ty,Gm.lookup,k⟩
theorem T8 {L : List Str} {sl : Nat->Nat} (hne : q ≠ I) (hf : t.fits es.size = true) (hL : L.length = es.size)
  (hx : ∀ (i : Nat) (z : Shared),JH z.heap q es ep t->(∃ v,(∃ u,v = .str (L.getD i Str.empty) u)/\i < es.size/\∀ (B : Around) (E2 : Value->Shared->Prop) (R : Option (Value × Nat)->Shared->Prop),R (some (v,sl (i + 1))) z->wpAny (model prog w) B (setNext q (sl i) i ep) R E2 z)
   ∨ (es.size<=i/\∀ (B : Around) (E2 : Value->Shared->Prop) (R : Option (Value × Nat)->Shared->Prop),R none z->wpAny (model prog w) B (setNext q (sl i) i ep) R E2 z)) :
  ∀ A' : Around,A'.handled = none->Walks prog w A' I [I,q] [I] L.length (fun i v => ∃ u,v = .str (L.getD i Str.empty) u) (fun i h => ItX h I q (.int (sl i) 0) i es.size ep/\JH h q es ep t):=fun A' hh => {
 sub:=fun b m => by simp at m; simp [m]
 frame:=fun i h h' st e => ⟨st.1.keep (e I (by simp)),st.2.keep (e q (by simp))⟩
 item:=fun i z Q E2 hi st k => by
  rcases hx i z st.2 with ⟨v,hv,_,nx⟩ | ⟨hle,_⟩
  ·refine iI st.1 st.2 hf rfl (fun B E3 R y => by rw [Int.toNat_natCast]; exact nx B E3 R y) fun h' sb it => k v h' z.toks hv ⟨it,st.2.keep fun o g => (sb.2 q hne).trans g⟩ fun b o nb g => (sb.2 b fun e => nb (by simp [e])).trans g
  ·omega
 done:=fun z Q E2 st k => by
  rcases hx L.length z st.2 with ⟨v,_,hlt,_⟩ | ⟨_,nx⟩
  ·omega
  ·exact iJ hh st.1 st.2 hf rfl (fun B E3 R y => by rw [Int.toNat_natCast]; exact nx B E3 R y) fun h' kp => k h' z.toks fun b o nb g => kp b o (fun e => nb (by simp [e])) g
 self:=fun i z Q E2 st k => Xa st.1 k }
theorem Vu {L : List Str} {ps : List Nat} (hne : q ≠ I) (hnT : T ≠ I) (hf : t.fits es.size = true) (hL : L.length = es.size) (hp : ps.length = es.size)
  (he : ∀ (i p : Nat),ps[i]? = some p->∃ e0 u,es[p]? = some e0/\e0.2 = .str (L.getD i Str.empty) u) :
  ∀ A' : Around,A'.handled = none->Walks prog w A' I [I,q,T] [I] L.length (fun i v => ∃ u,v = .str (L.getD i Str.empty) u) (fun i h => ItX h I q (.ref T) i es.size ep/\JH h q es ep t/\h.IsTuple T (ps.map fun (i : Nat) => rawInt i).toArray):=fun A' hh => {
 sub:=fun b m => by simp at m; simp [m]
 frame:=fun i h h' st e => ⟨st.1.keep (e I (by simp)),st.2.1.keep (e q (by simp)),st.2.2.at (e T (by simp))⟩
 item:=fun i z Q E2 hi st k => by
  have hi' : i < ps.length:=by omega
  have hps : ps[i]? = some ps[i]:=by simp [hi']
  obtain ⟨e0,u,g1,g2⟩:=he i _ hps
  refine iK (p:=ps[i]) (u:=0) st.1 st.2.1 hf rfl st.2.2 (by simp [hi',rawInt]) g1 fun h' sb it => k e0.2 h' z.toks ⟨u,g2⟩ ⟨it,st.2.1.keep fun o g => (sb.2 q hne).trans g,st.2.2.at fun o g => (sb.2 T hnT).trans g⟩ fun b o nb g => (sb.2 b fun e => nb (by simp [e])).trans g
 done:=fun z Q E2 st k => iM hh st.1 st.2.1 hf rfl st.2.2 (by simp; omega) fun h' kp => k h' z.toks fun b o nb g => kp b o (fun e => nb (by simp [e])) g
 self:=fun i z Q E2 st k => Xa st.1 k }
end
end PV
namespace PV
open PySem PySem.Spec
section
variable {prog : Program} {w : World} {A : Around} {E : Value->Shared->Prop} {s : Shared} {I q T : Addr} {first : Value} {j n ep : Nat} {es : Array (Int × Value)} {t : SetTable}
def ItOk (prog : Program) (w : World) (s : Shared) (q : Addr) (ks : List Str) (I : Addr) (h' : Heap) : Prop:=∃ (L : List Str) (fp : List Addr) (Sx : Nat->Heap->Prop),L.Perm ks/\s.heap.objs.size<=I/\(∀ b ∈ fp,b = q ∨ s.heap.objs.size<=b)/\(∀ b o,s.heap.get? b = some o->h'.get? b = some o) ∧
 (∀ A' : Around,A'.handled = none->Walks prog w A' I fp [I] L.length (fun i v => ∃ u,v = .str (L.getD i Str.empty) u) Sx)/\Sx 0 h'
theorem cC {ks : List Str} (f : FX w es t ks) {l : List (Int × Value)} (hp : l.Perm es.toList) {i : Nat} {e0 : Int × Value} (h : l[i]? = some e0) : ∃ u,e0.2 = .str ((l.map keyOf).getD i Str.empty) u:=by
 have m : e0 ∈ es.toList:=hp.mem_iff.mp (List.mem_of_getElem? h)
 obtain ⟨_,u,g⟩:=f.ent e0 m
 refine ⟨u,?_⟩
 rw [g]
 simp [h]
theorem cD {ks : List Str} {Q : Value->Shared->Prop} (x : SetX w s.heap q ks) (k : ∀ I h' d',ItOk prog w s q ks I h'->Q (.ref I) { s with heap:=h',drawn:=d' }) : wpAny (model prog w) A (pyIter (.ref q)) Q E s:=by
  have ty:=x.typeIs
  obtain ⟨es,t,⟨o,ep,g,ex,d⟩,f⟩:=x
  have y : JH s.heap q es ep t:=⟨o,g,ex,d⟩
  have lq : q < s.heap.objs.size:=Heap.lt_size g
  have hlen:=f.len
  refine wpAny_pyIter_slot ty F.slot_set_iter (wpAny_call_entry F.slot_set_iter ty SX ?_ (F.args_set_iter_1 _))
  unfold Builtin.«frozenset.__iter__»
  refine wpAny_bind (show wpAny _ _ (pure q) _ _ s from wpAny_pure ?_)
  refine wpAny_bind (show wpAny _ _ (setEntries q >>= fun r => pure r.size) _ _ s from wpAny_bind (wpAny_setEntries_of g d f.fits (wpAny_pure ?_)))
  have fin : ∀ (fst : Value) (h1 : Heap) (d1 : Drawn),(∀ b o,s.heap.get? b = some o->h1.get? b = some o)->s.heap.objs.size<=h1.objs.size ->
      (∀ h',h' = h1.push { cls:=.type "set_iterator",data:=.fields #[fst,.int 0 0,.ref q,.int es.size 0,.int ep 0] }->ItX h' h1.objs.size q fst 0 es.size ep->JH h' q es ep t->ItOk prog w s q ks h1.objs.size h') ->
      wpAny (model prog w) A.in1 (do ret (<-newFields "set_iterator" [fst,rawInt 0,.ref q,rawInt es.size,rawInt (<-setEpoch q)])) (fun fin z => ∃ v,fin = .done (.ret v)/\∃ T' r,z.TypeIs v T'/\typeLookup (.type T') "__next__" = pure (some r)/\Q v z) E { s with heap:=h1,drawn:=d1 }:=fun fst h1 d1 kp le w1 => by
    refine wpAny_bind (wpAny_setEpoch_of (kp q o g) d f.fits (wpAny_bind (wpAny_newObj_type (wpAny_pure ⟨_,rfl, "set_iterator",_,⟨_,Heap.get?_push_size _ rfl,rfl⟩,Gm.lookup,k _ _ _ (w1 _ rfl ⟨_,Heap.get?_push_size _ rfl,rfl,rfl⟩ (y.keep fun o' g' => Heap.get?_push_of_some _ (kp q o' g')))⟩))))
  refine wpAny_bind (cB y f ?_)
  cases bq : btx w with
  | true =>
    rw [show (!true && decide (1 < es.size)) = false from rfl]
    refine wpAny_bind (wpAny_pure (fin _ s.heap s.drawn (fun _ _ z => z) (Nat.le_refl _) fun h' eh it sa => ?_))
    subst eh
    refine ⟨(pickOrder (w.params.setOrder q ep) es).toList.map keyOf,[s.heap.objs.size,q],_,((JK _ es).map keyOf).trans f.perm,Nat.le_refl _,fun b m => by simp at m; rcases m with m | m; exact .inr (Nat.le_of_eq m.symm); exact .inl m,fun b o z => Heap.get?_push_of_some _ z,T8 (sl:=fun _ => 0) (es:=es) (t:=t) (ep:=ep) (Nat.ne_of_lt lq) f.fits (by rw [List.length_map,(JK _ es).length_eq,Array.length_toList]) ?_,it,sa⟩
    intro i z ⟨oz,gz,_,dz⟩
    have run : ∀ (B : Around) (E2 : Value->Shared->Prop) (R : Option (Value × Nat)->Shared->Prop),R (((pickOrder (w.params.setOrder q ep) es)[i]?).map fun e => (e.2,0)) z->wpAny (model prog w) B (setNext q 0 i ep) R E2 z:=fun B E2 R y2 => by
      unfold setNext setWalk
      refine wpAny_bind (wpAny_setState_of gz dz f.fits ?_)
      refine wpAny_bind (show wpAny _ B setsByText _ E2 z from wpAny_bind (wpAny_askSetting (wpAny_pure ?_)))
      rw [show (model prog w).w.params.followText "set-order" = true from bq]
      dsimp only
      rw [if_pos rfl,if_neg (by simp)]
      refine wpAny_bind (wpAny_bind (wpAny_setState_of gz dz f.fits (wpAny_bind (show wpAny _ B setsByText _ E2 z from wpAny_bind (wpAny_askSetting (wpAny_pure ?_))))))
      rw [show (model prog w).w.params.followText "set-order" = true from bq]
      dsimp only
      rw [if_pos rfl]
      exact wpAny_bind (wpAny_askSetting (wpAny_pure (wpAny_pure y2)))
    by_cases hi : i < es.size
    · have hz : i < (pickOrder (w.params.setOrder q ep) es).size:=by have:=(JK (w.params.setOrder q ep) es).length_eq; simp at this; omega
      have hg : (pickOrder (w.params.setOrder q ep) es)[i]? = some (pickOrder (w.params.setOrder q ep) es)[i]:=by simp [hz]
      obtain ⟨u,hu⟩:=cC f (JK (w.params.setOrder q ep) es) (i:=i) (e0:=(pickOrder (w.params.setOrder q ep) es)[i]) (by simp [hz])
      refine .inl ⟨_,⟨u,hu⟩,hi,fun B E2 R y2 => run B E2 R (by rw [hg]; exact y2)⟩
    · refine .inr ⟨by omega,fun B E2 R y2 => run B E2 R ?_⟩
      rw [Array.getElem?_eq_none (by have:=(JK (w.params.setOrder q ep) es).length_eq; simp at this; omega)]
      exact y2
  | false =>
    have hled : t.led = true:=f.led bq
    by_cases h2 : 1 < es.size
    · rw [show (!false && decide (1 < es.size)) = true by simp [h2],if_pos rfl]
      refine wpAny_bind (T7 es.size (List.range es.size) s (by simp) fun ps d' hp => ?_)
      have hpl : ps.length = es.size:=by simpa using hp.length_eq
      refine wpAny_bind (wpAny_newObj_type (fin _ _ d' (fun b o z => Heap.get?_push_of_some _ z) (by rw [Heap.size_push]; exact Nat.le_succ _) fun h' eh it sa => ?_) (show ((ps.map fun (i : Nat) => rawInt i)).toArray.size<=sizeLine by rw [List.size_toArray,List.length_map,hpl]; exact Nat.le_of_lt (Nat.lt_of_lt_of_le f.sz (by decide))))
      subst eh
      have szT : (s.heap.push { cls:=.type "tuple",data:=.seq (ps.map fun (i : Nat) => rawInt i).toArray }).objs.size = s.heap.objs.size + 1:=Heap.size_push _ _
      have eat : ∀ (i p : Nat),ps[i]? = some p->p < es.size:=fun i p z => by have:=hp.mem_iff.mp (List.mem_of_getElem? z); simpa using this
      refine ⟨ps.map fun p => keyOf (es.getD p (0,.none)),[(s.heap.push { cls:=.type "tuple",data:=.seq (ps.map fun (i : Nat) => rawInt i).toArray }).objs.size,q,s.heap.objs.size],_,?_,by rw [szT]; exact Nat.le_succ _,fun b m => ?_,fun b o z => Heap.get?_push_of_some _ (Heap.get?_push_of_some _ z),
        Vu (es:=es) (t:=t) (ep:=ep) (ps:=ps) (by rw [szT]; exact Nat.ne_of_lt (Nat.lt_succ_of_lt lq)) (by rw [szT]; exact Nat.ne_of_lt (Nat.lt_succ_self _)) f.fits (by simp [hpl]) hpl ?_,it,sa,?_⟩
      · have e1 : (List.range es.size).map (fun p => keyOf (es.getD p (0,.none))) = es.toList.map keyOf:=by
          apply List.ext_getElem
          · simp
          · intro i h1 h2; simp at h1; simp [h1]
        exact ((hp.map fun p => keyOf (es.getD p (0,.none))).trans (by rw [e1])).trans f.perm
      · simp at m
        rcases m with m | m | m
        · right; rw [m]; exact Nat.le_succ _
        · exact .inl m
        · exact .inr (Nat.le_of_eq m.symm)
      · intro i p z
        have lp:=eat i p z
        obtain ⟨_,u,gu⟩:=f.ent es[p] (by simp)
        refine ⟨es[p],u,by simp [lp],?_⟩
        rw [gu]
        simp [z,lp]
      · exact ⟨_,Heap.get?_push_of_some _ (Heap.get?_push_size _ rfl),rfl,0,rfl⟩
    · rw [show (!false && decide (1 < es.size)) = false by simp [h2]]
      refine wpAny_bind (wpAny_pure (fin _ s.heap s.drawn (fun _ _ z => z) (Nat.le_refl _) fun h' eh it sa => ?_))
      subst eh
      have hpl : t.place.size = es.size:=by have:=f.fits; simp [SetTable.fits] at this; exact this.1
      refine ⟨es.toList.map keyOf,[s.heap.objs.size,q],_,f.perm,Nat.le_refl _,fun b m => by simp at m; rcases m with m | m; exact .inr (Nat.le_of_eq m.symm); exact .inl m,fun b o z => Heap.get?_push_of_some _ z,
        T8 (sl:=fun i => if i = 0 then 0 else t.place.getD 0 0 + 1) (es:=es) (t:=t) (ep:=ep) (Nat.ne_of_lt lq) f.fits (by simp) ?_,it,sa⟩
      intro i z ⟨oz,gz,_,dz⟩
      have run : ∀ (sl : Nat) (B : Around) (E2 : Value->Shared->Prop) (R : Option (Value × Nat)->Shared->Prop),R (match es[SetTable.below t.place sl]?,t.place[SetTable.below t.place sl]? with | some (_,x),some j => some (x,j + 1) | _,_ => none) z->wpAny (model prog w) B (setNext q sl i ep) R E2 z:=fun sl B E2 R y2 => by
        unfold setNext
        refine wpAny_bind (wpAny_setState_of gz dz f.fits ?_)
        refine wpAny_bind (show wpAny _ B setsByText _ E2 z from wpAny_bind (wpAny_askSetting (wpAny_pure ?_)))
        rw [show (model prog w).w.params.followText "set-order" = false from bq]
        dsimp only
        rw [if_neg Bool.false_ne_true]
        split
        · rename_i hd
          have hd' : (!t.plain && decide (es.size > 1)) = true:=hd
          simp [h2] at hd'
        · refine wpAny_bind (show wpAny _ B (if (!t.led && !es.isEmpty) = true then unsupported "set:maker-not-led" else pure ()) _ E2 z from ?_)
          rw [if_neg (by rw [hled]; simp)]
          exact wpAny_pure (wpAny_pure y2)
      by_cases h0 : es.size = 0
      · refine .inr ⟨by omega,fun B E2 R y2 => run _ B E2 R ?_⟩
        rw [Array.getElem?_eq_none (by omega)]
        exact y2
      · have h1 : es.size = 1:=by omega
        obtain ⟨p,hp⟩ : ∃ p,t.place = #[p]:=by
          have : t.place.size = 1:=by omega
          match q0 : t.place,this with
          | ⟨[p]⟩,_ => exact ⟨p,rfl⟩
        by_cases hi : i = 0
        · subst hi
          have b0 : SetTable.below t.place 0 = 0:=by rw [hp]; simp [SetTable.below,SetTable.below.go]
          obtain ⟨_,u,gu⟩:=f.ent es[0] (by simp)
          refine .inl ⟨es[0].2,⟨u,by rw [gu]; simp [h1]⟩,by omega,fun B E2 R y2 => run _ B E2 R ?_⟩
          simp only [if_true]
          rw [b0]
          have e1 : es[0]? = some es[0]:=by simp [h1]
          have e2 : t.place[0]? = some p:=by rw [hp]; rfl
          rw [e1,e2]
          simpa [hp] using y2
        · have b1 : SetTable.below t.place (p + 1) = 1:=by rw [hp]; simp [SetTable.below,SetTable.below.go]
          refine .inr ⟨by omega,fun B E2 R y2 => run _ B E2 R ?_⟩
          rw [if_neg hi,show t.place.getD 0 0 = p by rw [hp]; rfl,b1,Array.getElem?_eq_none (by omega)]
          exact y2
end
end PV
namespace PV
open PySem PySem.Spec
section
variable {prog : Program} {w : World} {A : Around} {E : Value->Shared->Prop} {s : Shared} {I q T : Addr}
theorem cF {Q : Bool->Shared->Prop} (ty : s.TypeIs (.ref q) "set") (k : Q false s) : wpAny (model prog w) A (Builtin.List.listLengthHint (.ref q)) Q E s:=by
 unfold Builtin.List.listLengthHint
 refine wpAny_bind (wpAny_specialOf ty F.slot_set_len.lookup ?_)
 generalize nm : ("set.__len__" : String) = sid
 wp_delta
 rw [show splitId sid = some ("set", "__len__") by subst nm; decide +kernel]
 subst nm
 refine wpAny_bind (wpAny_isInstance (T := "set") (b:=true) ty (by rw [isSubtype_type]; kernel_rfl) ?_)
 refine wpAny_ite_split (fun z => absurd z (by decide)) fun _ => wpAny_ite_split (fun _ => wpAny_bind (wpAny_typeOf ty (wpAny_pure k))) fun z => absurd (by decide +kernel) z
theorem T9 {ks : List Str} {Q : List Value->Shared->Prop} (hh : A.handled = none) (x : SetX w s.heap q ks) (hz : ks.length<=4000)
  (k : ∀ (vs : List Value) (L : List Str) (h' : Heap) (tk : Nat) (d' : Drawn),L.Perm ks->vs.length = L.length->(∀ (i : Nat) (v : Value),vs[i]? = some v->∃ u,v = Value.str (L.getD i Str.empty) u)->s.heap.objs.size<=h'.objs.size->(∀ b o,s.heap.get? b = some o->h'.get? b = some o)->Q vs { s with heap:=h',toks:=tk,drawn:=d' }) :
  wpAny (model prog w) A (collect (.ref q)) Q E s:=by
 obtain ⟨lq⟩ : Nonempty (q < s.heap.objs.size):=let ⟨_,_,⟨_,_,g,_⟩,_⟩:=x; ⟨Heap.lt_size g⟩
 unfold collect
 refine wpAny_bind (wpAny_runValue (codeAny_builtin PyProof.Rows.entry_proto_collect' (show wpAny _ _ (do again (.builtin "list.__iadd__" ⟨[<-newList [],.ref q],[]⟩)) _ _ s from ?_)))
 refine wpAny_bind (wpAny_newList (wpAny_pure ⟨Code.quiet_builtin _ (by decide +kernel),codeAny_builtin PyProof.Rows.entry_list_iadd' (show wpAny _ _ (Builtin.List.listExtendWith (.ref s.heap.objs.size) (.ref q) (.ref s.heap.objs.size)) _ _ _ from ?_)⟩))
 have x1 : SetX w (s.heap.push { cls:=.type "list",data:=.seq ([] : List Value).toArray }) q ks:=x.keep fun o g => Heap.get?_push_of_some _ g
 unfold Builtin.List.listExtendWith
 refine wpAny_bind (wpAny_typeOf (T := "set") (x1.typeIs (s:={ s with heap:=s.heap.push { cls:=.type "list",data:=.seq ([] : List Value).toArray } })) ?_)
 have nr : Builtin.List.listSameRef (.ref s.heap.objs.size) (.ref q) = false:=by simp [Builtin.List.listSameRef,Nat.ne_of_gt lq]
 rw [if_neg (by rw [nr]; decide)]
 refine wpAny_bind (cD (s:={ s with heap:=s.heap.push { cls:=.type "list",data:=.seq ([] : List Value).toArray } }) x1 fun I h' d' ⟨L,fp,Sx,hL,leI,hfp,kp,W,st⟩ => ?_)
 have x2 : SetX w h' q ks:=x1.keep fun o g => kp q o g
 refine wpAny_bind (wpAny_holding (cF (s:={ s with heap:=h',drawn:=d' }) (x2.typeIs (s:={ s with heap:=h',drawn:=d' })) ?_))
 have gS : h'.get? s.heap.objs.size = some { cls:=.type "list",dict:=none,data:=.seq #[] 0,slots:=#[] }:=kp _ _ (Heap.get?_push_size _ rfl)
 have szL : (s.heap.push { cls:=.type "list",data:=.seq ([] : List Value).toArray }).objs.size = s.heap.objs.size + 1:=Heap.size_push _ _
 have nS : s.heap.objs.size ∉ fp:=fun m => by
  rcases hfp _ m with z | z
  ·exact absurd z (Nat.ne_of_gt lq)
  ·have z' : (s.heap.push { cls:=.type "list",data:=.seq ([] : List Value).toArray }).objs.size<=s.heap.objs.size:=z
   rw [szL] at z'
   exact absurd z' (Nat.not_succ_le_self _)
 have leI' : s.heap.objs.size + 1<=I:=by rw [<-szL]; exact leI
 rw [if_pos (by decide +kernel)]
 refine wpAny_bind (wpAny_rule (wpAny_bind (show wpAny _ _ (updateSeq s.heap.objs.size (·.push .none) >>= fun _ => updateSeq s.heap.objs.size (·.pop)) _ _ _ from wpAny_bind (wpAny_updateSeq gS rfl ?_))))
 have g1:=Heap.get?_update_self (Obj.mapSeq (·.push Value.none)) gS rfl
 refine wpAny_updateSeq (hz:=by seq_fits) g1 rfl ?_
 have g2:=Heap.get?_update_self (Obj.mapSeq (·.pop)) g1 rfl
 have oth : ∀ b o,b ≠ s.heap.objs.size->h'.get? b = some o->((h'.update s.heap.objs.size (Obj.mapSeq (·.push Value.none))).update s.heap.objs.size (Obj.mapSeq (·.pop))).get? b = some o:=fun b o nb g => (Heap.get?_update_other _ _ (Ne.symm nb)).trans ((Heap.get?_update_other _ _ (Ne.symm nb)).trans g)
 have st2:=(W A hh).frame 0 _ _ st fun b m o g => oth b o (fun z => nS (z ▸ m)) g
 refine wpAny_pure ⟨plainId_quiet PySem.F.plain_extend_loop _,codeAny_extend_loopS (W _ (by simp [hh])).toS (Nat.le_trans (by rw [hL.length_eq]; exact hz) (by decide)) s.heap.objs.size nS _ L.length 0 { s with heap:=(h'.update s.heap.objs.size (Obj.mapSeq (·.push Value.none))).update s.heap.objs.size (Obj.mapSeq (·.pop)),drawn:=d' } #[] _ rfl (Nat.zero_le _) st2 g2 (ItemsOf.nil _) fun s' acc c' hm gS' ha => ?_⟩
 rw [Moved.eq_with hm]
 show wpAny _ A (load s.heap.objs.size >>= _) _ _ _
 refine wpAny_bind (wpAny_load gS' (wpAny_pure (k acc.toList L s'.heap s'.toks d' hL (by rw [Array.length_toList]; exact ha.1) (fun i v z => ha.2 i v (by rw [<-Array.getElem?_toList]; exact z)) (Nat.le_of_lt (Heap.lt_size gS')) fun b o g => ?_)))
 have lb : b < s.heap.objs.size:=Heap.lt_size g
 refine hm.heap b o (fun m => ?_) (oth b o (Nat.ne_of_lt lb) (kp b o (Heap.get?_push_of_some _ g)))
 rcases List.mem_cons.mp m with z | z
 ·exact absurd z (Nat.ne_of_lt lb)
 ·exact absurd (List.mem_singleton.mp z) (Nat.ne_of_lt (Nat.lt_of_lt_of_le lb (Nat.le_of_succ_le leI')))
end
end PV
namespace PV
open PySem PySem.Spec
theorem T_ : ∀ {vs : List Value} {L : List Str},vs.length = L.length->(∀ (i : Nat) (v : Value),vs[i]? = some v->∃ u,v = Value.str (L.getD i Str.empty) u)->PyProof.Rows.StrsAre vs L
 | [],[],_,_ => .nil
 | [],_ :: _,h,_ => by simp at h
 | _ :: _,[],h,_ => by simp at h
 | v :: vs,x :: L,h,k => by
  obtain ⟨u,e⟩:=k 0 v rfl
  have e' : v = Value.str x u:=e
  subst e'
  exact .cons x u (T_ (by simpa using h) fun i y z => by have:=k (i + 1) y (by simpa using z); simpa using this)
theorem Mt : ∀ {r : List Str} {p : Str},PyProof.Rows.risingS p r = true->(p :: r).Nodup->Up (p :: r)
 | [],p,_,_ => by simp [Up]
 | x :: r,p,h,nd => by
  unfold PyProof.Rows.risingS at h
  rw [Bool.and_eq_true] at h
  obtain ⟨h1,h2⟩:=h
  obtain ⟨n1,n2⟩:=List.nodup_cons.mp nd
  have u:=Mt h2 n2
  have lt : ltS p x = true:=W7 (by unfold ltS; simpa [PyProof.Rows.ltCps_eq] using h1) (fun e => n1 (by rw [<-e]; exact List.mem_cons_self))
  refine List.pairwise_cons.mpr ⟨fun y m => ?_,u⟩
  rcases List.mem_cons.mp m with e | m
  ·rw [e]; exact lt
  ·exact Nr lt ((List.pairwise_cons.mp u).1 y m)
theorem Sd {l : List Str} (h : PyProof.Rows.sortedS l = true) (nd : l.Nodup) : Up l:=by
 cases l with
 | nil => exact List.Pairwise.nil
 | cons p r => exact Mt h nd
section
variable {prog : Program} {w : World} {A : Around} {E : Value->Shared->Prop} {s : Shared} {q : Addr}
theorem Vv {ks : List Str} {Q : Value->Shared->Prop} (hh : A.handled = none) (x : SetX w s.heap q ks) (h60 : ks.length<=60)
  (k : ∀ (its : List Value) (e : Nat) (l : Addr) (h' : Heap) (tk : Nat) (d' : Drawn),PyProof.Rows.StrsAre its (CZ ks)->h'.get? l = some (PyProof.Rows.seqObj "list" its.toArray e)->s.heap.objs.size<=l->(∀ b o,s.heap.get? b = some o->h'.get? b = some o)->Q (.ref l) { s with heap:=h',toks:=tk,drawn:=d' }) :
  wpAny (model prog w) A (call (.builtin "sorted") [.ref q]) Q E s:=by
 have nd : ks.Nodup:=let ⟨_,_,_,f⟩:=x; f.nd
 refine Calls.call_function_entry PyProof.Rows.kind_sorted PyProof.Rows.plain_sorted PyProof.Rows.entry_sorted (PyProof.Rows.args_sorted1 _) ?_
 unfold Builtin.«sorted»
 refine wpAny_bind (m:=checkCount "sorted" 1 1 _) (wpAny_pure (wpAny_bind (T9 (A:=A.in1) hh x (by omega) fun vs L h1 tk d1 hL hl hv le kp => ?_)))
 have hS : PyProof.Rows.StrsAre vs L:=T_ hl hv
 have hlen : vs.length<=60:=by rw [hl,hL.length_eq]; exact h60
 refine wpAny_bind (wpAny_newList ?_ (Nat.le_trans hlen (by decide)))
 have gl : (h1.push { cls:=.type "list",data:=.seq vs.toArray }).get? h1.objs.size = some (PyProof.Rows.seqObj "list" vs.toArray 0):=Heap.get?_push_size _ rfl
 refine wpAny_bind (wpAny_holding (wpAny_call_entry PyProof.Rows.slot_list_sort ⟨_,gl,rfl⟩ PyProof.Rows.entry_list_sort (PyProof.Rows.list_sort_treeK PyProof.Rows.strKind_oneLt gl hS.keysOf (fun a b r e => PyProof.Rows.keyKind_strs (by rw [<-e]; exact hS)) (by omega) fun st a1 a2 => ⟨_,rfl,?_⟩) (PyProof.Rows.args_list_sort _)))
 obtain ⟨ss,o1,o2,o3⟩:=PyProof.Rows.sorted_out_str hS a1 a2
 have e : ss = CZ ks:=Vn (Sd o3 ((o2.trans hL).nodup_iff.mpr nd)) (JC ks) fun y => by rw [Dd,(o2.trans hL).mem_iff]
 subst e
 have at':=PyProof.Rows.sortedHeap_at (out:=(PyProof.Rows.arrOf st).map (·.2)) gl
 obtain ⟨c,hc⟩ : ∃ c,(PyProof.Rows.sortedHeap (h1.push { cls:=.type "list",data:=.seq vs.toArray }) h1.objs.size vs ((PyProof.Rows.arrOf st).map (·.2))).get? h1.objs.size = some (PyProof.Rows.seqObj "list" ((PyProof.Rows.arrOf st).map (·.2)).toList.toArray c):=by
  obtain ⟨c,hc⟩:=at'
  exact ⟨c,by rw [hc,Array.toArray_toList]⟩
 refine wpAny_pure ⟨_,rfl,k _ c _ _ tk d1 o1 hc le fun b o g => ?_⟩
 have lb:=Heap.lt_size (kp b o g)
 rw [PyProof.Rows.sortedHeap_old (Nat.ne_of_lt lb) (by rw [Heap.size_push]; exact Nat.lt_succ_of_lt lb)]
 exact Heap.get?_push_of_some _ (kp b o g)
end
open L2
section
variable {X : Cx} {G : Gx} {a : Expr} {fa : FE} {pos : Pos}
theorem cG {pins : List (Addr × Obj)} {σ : St} {H : Hp} {s : Shared} (i : Inv X pins σ H s) (d : Drawn) : Inv X pins σ H { s with drawn:=d }:=⟨i.ok,i.os,i.bare,i.base,i.loc,i.cell,i.free,i.freeC,i.pin,i.hok,i.len⟩
theorem RP : ∀ {xs : List Str} {us : List Value},PyProof.Rows.StrsAre us xs->Vals (xs.map V.str) us
 | _,_,.nil => .nil
 | _,_,.cons _ u r => .cons ⟨u,rfl⟩ (RP r)
theorem UG {zs : List Str} {us : List Value} (r : Vals (zs.map V.str) us) (i : Nat) (v : Value) (h : us[i]? = some v) : ∃ u,v = Value.str (zs.getD i Str.empty) u:=by
 have hl:=r.length
 rw [List.length_map] at hl
 have hi : i < us.length:=(List.getElem?_eq_some_iff.mp h).1
 obtain ⟨v',h1,u,e⟩:=r.get (i:=i) (x:=V.str (zs[i]'(by omega))) (by rw [List.getElem?_map,List.getElem?_eq_getElem (by omega)]; rfl)
 rw [h] at h1
 cases h1
 exact ⟨u,by rw [e]; simp [show i < zs.length by omega]⟩
def dedK (zs : List Str) : List Str:=zs.foldl addK []
theorem cH (zs : List Str) : metX (fun i => zs.getD i Str.empty) zs.length = dedK zs:=by
 unfold metX dedK
 congr 1
 apply List.ext_getElem
 ·simp
 ·intro i h1 h2; simp [h2]
theorem iR {zs ks : List Str} {y : Str} : y ∈ zs.foldl addK ks ↔ y ∈ ks ∨ y ∈ zs:=by
 induction zs generalizing ks with
 | nil => simp
 | cons z r ih =>
  rw [List.foldl_cons,ih]
  unfold addK
  split
  ·rename_i hz
   constructor
   ·rintro (m | m)
    ·exact .inl m
    ·exact .inr (List.mem_cons_of_mem _ m)
   ·rintro (m | m)
    ·exact .inl m
    ·rcases List.mem_cons.mp m with e | m
     ·exact .inl (e ▸ hz)
     ·exact .inr m
  ·simp only [List.mem_append,List.mem_cons,List.not_mem_nil,or_false,or_assoc]
abbrev SetO (w : World) (q : Addr) (ks : List Str) : HO:=.ext fun h => SetX w h q ks
theorem nZ {pins : List (Addr × Obj)} {σ : St} {H : Hp} {s : Shared} {p : Addr} {zs : List Str} (i : Inv X pins σ H s) (h : SqL X.K H p (zs.map V.str)) : TextsAt X.prog X.w "list" p zs.length (fun i => zs.getD i Str.empty) s.heap:=by
 obtain ⟨its,r,pl,_⟩:=i.list h
 obtain ⟨o,g,c,m,d⟩:=pl.isList
 have hl:=r.length
 rw [List.length_map] at hl
 refine ⟨fun z e => ⟨o,e o g,c⟩,by rw [isSubtype_type]; kernel_rfl,by rw [isSubtype_type]; kernel_rfl,by decide,Heap.lt_size g,fun A E z Q hh e lt k => ?_⟩
 have il : z.heap.IsList p its.toArray:=⟨o,e o g,c,m,d⟩
 refine wpAny_pyIter_list il (k _ (fun i h => h.IsListIter z.heap.objs.size p i/\h.IsList p its.toArray) (fun i v => its.toArray[i]? = some v) (fun A' h' => by rw [hl,<-List.size_toArray]; exact Walks.list h' _ p (Nat.ne_of_lt lt) its.toArray) ⟨⟨_,Heap.get?_push_size _ rfl,rfl,rfl⟩,il.push _⟩ fun i v q => UG r i v (by simpa using q))
theorem nj {pins : List (Addr × Obj)} {σ : St} {H : Hp} {s : Shared} {p : Addr} {zs : List Str} (i : Inv X pins σ H s) (h : SqT X.K H p (zs.map V.str)) : TextsAt X.prog X.w "tuple" p zs.length (fun i => zs.getD i Str.empty) s.heap:=by
 obtain ⟨its,r,pl,_⟩:=i.tuple h
 obtain ⟨o,g,c,m,d⟩:=(show s.heap.IsTuple p its.toArray from pl)
 have hl:=r.length
 rw [List.length_map] at hl
 refine ⟨fun z e => ⟨o,e o g,c⟩,by rw [isSubtype_type]; kernel_rfl,by rw [isSubtype_type]; kernel_rfl,by decide,Heap.lt_size g,fun A E z Q hh e lt k => ?_⟩
 have il : z.heap.IsTuple p its.toArray:=⟨o,e o g,c,m,d⟩
 refine wpAny_pyIter_tuple il (k _ (fun i h => h.IsTupleIter z.heap.objs.size p i/\h.IsTuple p its.toArray) (fun i v => its.toArray[i]? = some v) (fun A' h' => by rw [hl,<-List.size_toArray]; exact Walks.tuple h' _ p (Nat.ne_of_lt lt) its.toArray) ⟨⟨_,Heap.get?_push_size _ rfl,rfl,rfl⟩,il.at fun o' g' => Heap.get?_push_of_some _ g'⟩ fun i v q => UG r i v (by simpa using q))
def rSet (X : Cx) : List V->Hp->VK->Prop:=fun xs H Q => ∃ p zs,xs = [.ref p]/\(SqL X.K H p (zs.map V.str) ∨ SqT X.K H p (zs.map V.str))/\zs.length<=1000/\∀ l,H l = none->Q (.ref l) (upd H l (SetO X.w l (dedK zs)))
theorem cI (hc : X.calm = true) : Dh X (.type "set") (rSet X):=by
 intro pins s σ H xs us Q I r h
 obtain ⟨p,zs,rfl,hs,hz,k⟩:=h
 obtain ⟨u,rfl,ru⟩:=vals1 r
 cases ru
 have go : ∀ {T : String},TextsAt X.prog X.w T p zs.length (fun i => zs.getD i Str.empty) s.heap->wpAny (model X.prog X.w) X.A (call (.type "set") [.ref p]) (EP X pins σ Q) X.xe s:=fun t => by
  refine nU (I.ok.hd hc) t (Nat.lt_of_le_of_lt (Nat.succ_le_succ hz) (by decide)) fun h' tk x kp => ?_
  rw [cH] at x
  refine ⟨.ref s.heap.objs.size,_,I.laid (a:=s.heap.objs.size) (o:=SetO X.w s.heap.objs.size (dedK zs)) (t':=tk) kp (Nat.le_refl _) ⟨x,?_,fun h1 h2 x1 e => x1.keep e⟩,rfl,k _ I.fresh⟩
  obtain ⟨_,_,⟨o,_,g,_⟩,_⟩:=x
  exact ⟨o,g⟩
 rcases hs with hs | hs
 ·exact go (nZ I hs)
 ·exact go (nj I hs)
def Xb (X : Cx) : List V->Hp->VK->Prop:=fun xs H Q => ∃ p ks,xs = [.ref p]/\H p = some (SetO X.w p ks)/\ks.length<=60/\∀ l,H l = none->Q (.ref l) (upd H l (.lst ((CZ ks).map V.str)))
theorem UJ (hc : X.calm = true) : Dh X (.builtin "sorted") (Xb X):=by
 intro pins s σ H xs us Q I r h
 obtain ⟨p,ks,rfl,hp,hz,k⟩:=h
 obtain ⟨u,rfl,ru⟩:=vals1 r
 cases ru
 obtain ⟨x,_,_⟩:=(show Bj X.prog X.w H s.heap p (SetO X.w p ks) from I.hok p _ hp)
 refine Vv (I.ok.hd hc) x hz fun its e l h' tk d' hS g le kp => ?_
 have hv:=RP hS
 refine ⟨.ref l,_,cG (I.laid (a:=l) (o:=.lst ((CZ ks).map V.str)) (t':=tk) kp le ⟨?_,its,e,hv,g⟩) d',rfl,k l (I.hok.fresh le)⟩
 rw [List.length_map]
 have:=sub_len (Mh (JC ks)) (m:=ks) fun y m => (Dd y ks).mp m
 exact Nat.le_trans this (Nat.le_trans hz (by decide))
theorem cJ {H : Hp} {ds : List D} {xs : List V} {zs : List Str} (r : RepL G H xs ds) (h : G3 ds = some zs) : xs = zs.map V.str:=Mq r h
theorem kI {x y : Str} {p q pos2 : Pos} (hc : X.calm = true) (hG : G.K = X.K) (hg : Gl X x) (hm : X.mg x = none) (hv : bootBuiltins x = some (.builtin "sorted")) (hg2 : Gl X y) (hm2 : X.mg y = none) (hv2 : bootBuiltins y = some (.type "set")) (ha : PU X G a fa)
    (hn : x ≠ "__name__":=by decide) (hdb : (x == ("__debug__" : Str)) = false:=by decide) (hn2 : y ≠ "__name__":=by decide) (hdb2 : (y == ("__debug__" : Str)) = false:=by decide) (he : starEach [a] X.env = [(false,eval a X.env)]:=by rfl)
    (he2 : starEach [.Call (.Name y q) [a] [] pos2] X.env = [(false,eval (.Call (.Name y q) [a] [] pos2) X.env)]:=by rfl) :
    PF X G (.Call (.Name x p) [.Call (.Name y q) [a] [] pos2] [] pos) (uF ssD fa):=fun A => Ca (L_ (UJ hc) hg hm hv (DK (Nj (cI hc) hg2 hm2 hv2 (DK (ha A) Ga he) hn2 hdb2 he rfl) Ga he2) hn hdb he2 rfl) fun σ H Q ⟨ρ,d,o,e,k⟩ => by
  obtain ⟨dx,e1,e2⟩:=Ja e
  have core : ∀ (ds : List D) (v : V) (H1 : Hp) (pp : Addr) (xs : List V),Same H H1->ssL ds = some d->v = .ref pp->(SqL G.K H1 pp xs ∨ SqT G.K H1 pp xs)->RepL G (hid A H1) xs ds ->
      rSet X [v] H1 fun x2 H2 => Xb X [x2] H2 Q:=fun ds v H1 pp xs s1 e3 ev hs r => by
    unfold ssL at e3
    cases ez : G3 ds with
    | none => simp [ez] at e3
    | some zs =>
      rw [ez] at e3
      have e4 : (if zs.length<=1000/\(CZ zs).length<=60 then some (D.lst ((CZ zs).map .str)) else none) = some d:=e3
      split at e4
      · rename_i hz
        cases e4
        have ex:=cJ r ez
        subst ex
        have nd : (dedK zs).Nodup/\∀ y,y ∈ dedK zs ↔ y ∈ zs:=by
          refine ⟨?_,fun y => by unfold dedK; rw [iR]; simp⟩
          have : ∀ (l ks : List Str),ks.Nodup->(l.foldl addK ks).Nodup:=by
            intro l
            induction l with
            | nil => intro ks h; exact h
            | cons z r ih =>
              intro ks h
              refine ih _ ?_
              unfold addK
              split
              · exact h
              · rename_i nz
                exact List.nodup_append.mpr ⟨h,by simp,fun a ha b hb e => nz (by cases List.mem_singleton.mp hb; rw [<-e]; exact ha)⟩
          exact this zs [] (by simp)
        have es : CZ (dedK zs) = CZ zs:=Vn (JC _) (JC _) fun y => by rw [Dd,Dd,nd.2]
        have l60 : (dedK zs).length<=60:=Nat.le_trans (sub_len nd.1 fun y m => (Dd y zs).mpr ((nd.2 y).mp m)) hz.2
        refine ⟨pp,zs,by rw [ev],by rw [<-hG]; exact hs,hz.1,fun l hl => ⟨l,dedK zs,rfl,Aj,l60,fun m hm2 => ?_⟩⟩
        rw [es]
        have o1:=(o.mono s1)
        have n1 : l ≠ m:=fun z => by rw [<-z,Aj] at hm2; cases hm2
        have hm1 : H1 m = none:=by rw [Al (Ne.symm n1)] at hm2; exact hm2
        have sm : Same H1 (upd (upd H1 l (SetO X.w l (dedK zs))) m (.lst ((CZ zs).map V.str))):=(Ar hl _).trans (Ar hm2 _)
        refine k _ _ (s1.trans sm) (.lst (.of (xs:=(CZ zs).map V.str) ?_) (by simp) fun i v d h1 h2 => ?_)
        · rw [Bv (fun z => (o1.live m z).ne hm1),Aj]
        · rw [List.getElem?_map] at h1 h2
          cases q : (CZ zs)[i]? with
          | none => rw [q] at h1; cases h1
          | some z => rw [q] at h1 h2; cases h1; cases h2; exact .str z
      · cases e4
  refine ⟨ρ,dx,o,e1,fun v H1 s1 r1 => ?_⟩
  unfold ssD at e2
  split at e2
  · obtain ⟨pp,xs,ev,hs,r⟩:=r1.lst
    exact core _ v H1 pp xs s1 e2 ev (.inl hs) r
  · obtain ⟨pp,xs,ev,hs,r⟩:=r1.tup
    exact core _ v H1 pp xs s1 e2 ev (.inr hs) r
  · cases e2
end
end PV
namespace PV
open PySem PySem.Spec L2
open PyProof.Rows hiding St
def getK {κ : Type} [DecidableEq κ] (k : κ) : List (κ × D)->Option D
 | [] => none
 | p :: r => if p.1 = k then some p.2 else getK k r
def repK {κ : Type} [DecidableEq κ] (k : κ) (v : D) : List (κ × D)->List (κ × D)
 | [] => []
 | p :: r => (p.1,if p.1 = k then v else p.2) :: repK k v r
def putL {κ : Type} [DecidableEq κ] (k : κ) (v : D) (kds : List (κ × D)) : List (κ × D):=if (getK k kds).isSome then repK k v kds else kds ++ [(k,v)]
def keyD : D->Option Key
 | .int i => some (.inl i)
 | .str x => some (.inr x)
 | _ => none
def Ol : List D->Option (List Key)
 | [] => some []
 | d :: r => (keyD d).bind fun k => (Ol r).map (k :: ·)
section
variable {κ : Type} [DecidableEq κ] {G : Gx} {H : Hp}
theorem Kq {k : κ} : ∀ {kds : List (κ × D)} {kvs : List (κ × V)},kvs.map (·.1) = kds.map (·.1)->RepL G H (kvs.map (·.2)) (kds.map (·.2))->(∀ d,getK k kds = some d->∃ v,valV kvs k = some v/\Rep G H v d)/\(valV kvs k).isSome = (getK k kds).isSome
 | [],kvs,e,r => by
  cases kvs with
  | nil => exact ⟨fun d h => by simp [getK] at h,rfl⟩
  | cons p q => simp at e
 | p :: kds,kvs,e,r => by
  cases kvs with
  | nil => simp at e
  | cons q kvs =>
   rw [List.map_cons,List.map_cons] at e
   injection e with e1 e2
   rw [List.map_cons,List.map_cons] at r
   obtain ⟨x,ys,e3,r1,r2⟩:=r.uncons
   injection e3 with e4 e5
   subst e4 e5
   have ih:=Kq (k:=k) e2 r2
   by_cases h : p.1 = k
   ·have h' : q.1 = k:=e1.trans h
    rw [MN h']
    refine ⟨fun d hd => ?_,?_⟩
    ·simp only [getK,if_pos h] at hd
     cases hd
     exact ⟨_,rfl,r1⟩
    ·simp [getK,if_pos h]
   ·have h' : ¬ q.1 = k:=fun z => h (e1.symm.trans z)
    rw [MP h']
    simp only [getK,if_neg h]
    exact ih
theorem Xc {k : κ} {v : V} {d : D} (rv : Rep G H v d) : ∀ {kds : List (κ × D)} {kvs : List (κ × V)},kvs.map (·.1) = kds.map (·.1)->RepL G H (kvs.map (·.2)) (kds.map (·.2)) ->
  (kvs.map fun kv => if kv.1 = k then (kv.1,v) else kv).map (·.1) = (repK k d kds).map (·.1)/\RepL G H ((kvs.map fun kv => if kv.1 = k then (kv.1,v) else kv).map (·.2)) ((repK k d kds).map (·.2))
 | [],kvs,e,r => by
  cases kvs with
  | nil => exact ⟨rfl,RepL.nil⟩
  | cons p q => simp at e
 | p :: kds,kvs,e,r => by
  cases kvs with
  | nil => simp at e
  | cons q kvs =>
   rw [List.map_cons,List.map_cons] at e
   injection e with e1 e2
   rw [List.map_cons,List.map_cons] at r
   obtain ⟨x,ys,e3,r1,r2⟩:=r.uncons
   injection e3 with e4 e5
   subst e4 e5
   have ih:=Xc rv (k:=k) e2 r2
   by_cases h : p.1 = k
   ·have h' : q.1 = k:=e1.trans h
    refine ⟨?_,?_⟩
    ·simp only [List.map_cons,if_pos h',repK]
     rw [ih.1,e1]
    ·simp only [List.map_cons,if_pos h',repK,if_pos h]
     exact .cons rv ih.2
   ·have h' : ¬ q.1 = k:=fun z => h (e1.symm.trans z)
    refine ⟨?_,?_⟩
    ·simp only [List.map_cons,if_neg h',repK]
     rw [ih.1,e1]
    ·simp only [List.map_cons,if_neg h',repK,if_neg h]
     exact .cons r1 ih.2
theorem PB {k : κ} {v : V} {d : D} (rv : Rep G H v d) {kds : List (κ × D)} {kvs : List (κ × V)} (e : kvs.map (·.1) = kds.map (·.1)) (r : RepL G H (kvs.map (·.2)) (kds.map (·.2))) :
  (putK kvs k v).map (·.1) = (putL k d kds).map (·.1)/\RepL G H ((putK kvs k v).map (·.2)) ((putL k d kds).map (·.2)):=by
 unfold putK putL
 rw [Pj,(Kq (k:=k) e r).2]
 split
 ·exact Xc rv e r
 ·rw [List.map_append,List.map_append,List.map_append,List.map_append,e]
  exact ⟨rfl,r.append (.cons rv .nil)⟩
end
theorem UL {G : Gx} {A : List Addr} {H : Hp} {v : V} {d : D} {k : Key} (r : RepT G A H v d) (h : keyD d = some k) : v = kV k:=by
 cases d with
 | int i => cases h; exact r.int
 | str x => cases h; exact r.str
 | _ => cases h
theorem JL {G : Gx} {H : Hp} {v : V} {d : D} {k : Key} (r : Rep G H v d) (h : keyD d = some k) : v = kV k:=by
 cases d with
 | int i => cases h; cases r; rfl
 | str x => cases h; cases r; rfl
 | _ => cases h
theorem RQ {G : Gx} {H : Hp} : ∀ {ds : List D} {vs : List V} {ks : List Key},RepL G H vs ds->Ol ds = some ks->vs = ks.map kV
 | [],vs,ks,r,h => by cases h; exact r.nil_inv
 | d :: ds,vs,ks,r,h => by
  obtain ⟨x,ys,rfl,r1,r2⟩:=r.uncons
  cases e1 : keyD d with
  | none => simp [Ol,e1] at h
  | some k =>
   cases e2 : Ol ds with
   | none => simp [Ol,e1,e2] at h
   | some ks' =>
    simp [Ol,e1,e2] at h
    subst h
    rw [JL r1 e1,RQ r2 e2]
    rfl
end PV
namespace PV
open PySem PySem.Spec L2
open PyProof.Rows hiding St
section
variable {X : Cx} {G : Gx} {a b c : Expr} {fa fb fc : FE} {pos p2 px : Pos} {es : List Expr} {fs : FA}
theorem J4 : PN X G (.Dict [] [] pos) (kF (.dk [])):=fun A => Ca Z6 fun σ H Q ⟨ρ,d,o,e,k⟩ => by
 cases e
 exact fun p hp => k p _ (Ar hp _) hp ⟨[],Aj,rfl,RepL.nil⟩
theorem qD : PN X G (.Dict [] [] pos) (kF (.dt [])):=fun A => Ca Z7 fun σ H Q ⟨ρ,d,o,e,k⟩ => by
 cases e
 exact fun p hp => k p _ (Ar hp _) hp ⟨[],Aj,rfl,RepL.nil⟩
theorem PN.pf (h : PN X G a fa) : PF X G a fa:=fun A pins s σ H Q I ⟨ρ,d,o,e,k⟩ =>
 thn (h A pins s σ H (fun v H' => ∃ p,v = .ref p/\Same H H'/\H p = none/\Top G (p :: A) H' p d) I ⟨ρ,d,o,e,fun p H' sm hp t => ⟨p,rfl,sm,hp,t⟩⟩) fun u s1 ⟨v,H1,I1,r1,p,ev,sm,hp,t⟩ => by
  subst ev
  have hpA : p ∉ A:=fun z => (o.live p z).ne hp
  have up : ∀ ob,Same (hid (p :: A) H1) (hid A (upd H1 p ob)):=fun ob => by
   rw [<-Ba (A:=p :: A) (H:=H1) (o:=ob) (List.mem_cons_self ..)]
   exact Gk fun b hb => List.mem_cons_of_mem _ hb
  have sm' : ∀ ob,Same H (upd H1 p ob):=fun ob b u hb => by
   rw [Al (fun z : b = p => by rw [z,hp] at hb; cases hb)]
   exact sm b u hb
  cases d with
  | lst ds =>
   obtain ⟨xs,a1,a2⟩:=t
   have q:=a2.mono (Gk (A:=A) (B:=p :: A) (H:=H1) fun b hb => List.mem_cons_of_mem _ hb)
   exact ⟨_,H1,I1,r1,k _ H1 sm (.lst (.of (by rw [Bv hpA]; exact a1)) q.1 q.2)⟩
  | dk ds =>
   obtain ⟨xs,a1,a2,a3⟩:=t
   obtain ⟨ob,I2⟩:=Inv.frzK I1 a1
   exact ⟨_,_,I2,r1,k _ _ (sm' _) (.dk (by rw [Bv hpA]; exact Aj) a2 (a3.mono (up _)).2)⟩
  | dt ds =>
   obtain ⟨xs,a1,a2,a3⟩:=t
   obtain ⟨ob,I2⟩:=Inv.frzT I1 a1
   exact ⟨_,_,I2,r1,k _ _ (sm' _) (.dt (by rw [Bv hpA]; exact Aj) a2 (a3.mono (up _)).2)⟩
  | ob c gs =>
   obtain ⟨C,dx,xs,a1,a2,a3⟩:=t
   have q:=a3.mono (Gk (A:=A) (B:=p :: A) (H:=H1) fun b hb => List.mem_cons_of_mem _ hb)
   exact ⟨_,H1,I1,r1,k _ H1 sm (.ob a2.1 (by rw [Bv hpA]; exact a1) a2.2 q.2)⟩
  | _ => exact t.elim
theorem qF : PF X G (.Dict [] [] pos) (kF (.dk [])):=PN.pf J4
def rDIn (neg : Bool) : R2:=fun x y H Q => ∃ a kvs k,y = .ref a/\Rd H a (.dK kvs)/\x = kV k/\Q (.bl (if neg then !(valV kvs k).isSome else (valV kvs k).isSome)) H
theorem Vw (hu : X.A.units + 1 < cLine) : OpR X (compareOp .In) (rDIn false):=by
 intro pins s σ H x y v u Q I rx ry h
 obtain ⟨a,kvs,k,rfl,e,rfl,q⟩:=h
 cases ry
 exact d_in hu I (.inl ⟨kvs,k,e,rfl,rfl⟩) rx fun s' I' => ⟨.bl _,H,I',rfl,q⟩
theorem Y0 (hu : X.A.units + 1 < cLine) : OpR X (compareOp .NotIn) (rDIn true):=by
 intro pins s σ H x y v u Q I rx ry h
 obtain ⟨a,kvs,k,rfl,e,rfl,q⟩:=h
 cases ry
 exact gH hu I (.inl ⟨kvs,k,e,rfl,rfl⟩) rx fun s' I' => ⟨.bl _,H,I',rfl,q⟩
def inE (neg : Bool) (x y : D) : Option D:=match y with
 | .dk kds => (keyD x).map fun k => .bl (if neg then !(getK k kds).isSome else (getK k kds).isSome)
 | _ => inD neg x y
theorem iT (neg : Bool) : Cw G (fun x y H Q => rInA G.K neg x y H Q ∨ rDIn neg x y H Q) (inE neg):=by
 intro A H x y dx dy d Q lv rx ry h k
 unfold inE at h
 split at h
 ·rename_i kds
  cases e : keyD dx with
  | none => simp [e] at h
  | some q =>
   obtain ⟨p,kvs,rfl,h1,h2,r⟩:=ry.dk
   have h3:=(Kq (k:=q) h2 r).2
   rw [e] at h
   cases h
   refine .inr ⟨p,kvs,q,rfl,h1,UL rx e,?_⟩
   rw [h3]
   exact k _ H (Same.refl H) (.bl _)
 ·exact .inl (bQ neg A H x y dx dy d Q lv rx ry h k)
def rDIx : R2:=fun x y H Q => ∃ a kvs k v,x = .ref a/\Rd H a (.dK kvs)/\y = kV k/\valV kvs k = some v/\Q v H
theorem qG (hu : X.A.units + 1 < cLine) : IxR X rDIx:=by
 intro value slice pins s σ H x y v u Q I rx ry h hs
 obtain ⟨a,kvs,k,z,rfl,e,rfl,l,q⟩:=h
 cases rx
 have g : DGet H a (kV k) (some z):=.inl ⟨kvs,k,e,rfl,l.symm⟩
 have hT:=Tn I g
 unfold subscriptTail
 refine wpAny_bind ?_
 rw [getitemInPython_of_ne hT.not_modules]
 refine wpAny_bind (wpAny_specialOf hT PySem.F.slot_dict_getitem.lookup ?_)
 have fin : wpAny (model X.prog X.w) X.A (subscripted slice false (.ref a) u) (fun r s₃ => wpAny (model X.prog X.w) X.A (letTemporaryGo value (.ref a) r >>= fun _ => pure r) (EP X pins σ Q) X.xe s₃) X.xe s:=by
  rw [hs]
  exact wpAny_operating (Yn hu I g ry fun w' s3 I3 rw' => wpAny_bind (wpAny_letTemporaryGo (wpAny_pure ⟨z,H,I3,rw',q⟩)))
 first
  | exact wpAny_pure (wpAny_bind fin)
  | exact wpAny_bind (wpAny_pure (wpAny_bind fin))
  | exact wpAny_bind fin
def ixE (x y : D) : Option D:=match x with
 | .dk kds => (keyD y).bind fun k => getK k kds
 | _ => ixD x y
theorem iU : Cw G (fun x y H Q => rIx G.K x y H Q ∨ rDIx x y H Q) ixE:=by
 intro A H x y dx dy d Q lv rx ry h k
 unfold ixE at h
 split at h
 ·rename_i kds
  cases e : keyD dy with
  | none => simp [e] at h
  | some q =>
   obtain ⟨p,kvs,rfl,h1,h2,r⟩:=rx.dk
   simp [e] at h
   obtain ⟨v,h3,r3⟩:=(Kq (k:=q) h2 r).1 d h
   exact .inr ⟨p,kvs,q,v,rfl,h1,UL ry e,h3,k v H (Same.refl H) r3⟩
 ·exact .inl (bO A H x y dx dy d Q lv rx ry h k)
theorem nu (hu : X.A.units + 1 < cLine) (hG : G.K = X.K) (ha : PU X G a fa) (hb : PU X G b fb) (hs : MJ b) : PF X G (.Subscript a b pos) (bF ixE fa fb):=
 fun A => Ca (jd (r:=fun x y H Q => rIx X.K x y H Q ∨ rDIx x y H Q) (Zv.or (qG hu)) (ha A) (hb A) hs) fun _ _ _ h => Px (by rw [<-hG]; exact iU) h
def CG (x y v : D) : Option D:=match x with
 | .dk kds => (keyD y).bind fun k => if kds.length < sizeLine then some (.dk (putL k v kds)) else none
 | _ => none
def putF (i : Nat) (fk fv : FE) : FS:=fun ρ => (fv ρ).bind fun v => (fk ρ).bind fun y => (ownO ρ i).bind fun x => (CG x y v).map fun z => .nx (ρ.set i (.ow z))
theorem Y4 {i : Nat} {ρ : Rho} {o : Out} (h : putF i fa fb ρ = some o) : ∃ v y x z,fb ρ = some v/\fa ρ = some y/\ρ[i]? = some (.ow x)/\CG x y v = some z/\o = .nx (ρ.set i (.ow z)):=by
 unfold putF at h
 cases e1 : fb ρ with
 | none => simp [e1] at h
 | some v =>
  cases e2 : fa ρ with
  | none => simp [e1,e2] at h
  | some y =>
   cases e3 : ownO ρ i with
   | none => simp [e1,e2,e3] at h
   | some x =>
    cases e4 : CG x y v with
    | none => simp [e1,e2,e3,e4] at h
    | some z =>
     simp [e1,e2,e3,e4] at h
     exact ⟨v,y,x,z,rfl,rfl,N5 e3,e4,h.symm⟩
theorem Gn {i : Nat} {x : Str} {xpos spos : Pos} (hu : X.A.units + 1 < cLine) (hv : PE X (.Name x xpos) (tVar i)) (ha : PF X G a fa) (hb : PF X G b fb)
  (hs : swapsWith b (some (.Subscript (.Name x xpos) a spos)) pos.line X.env = pure false:=by rfl) : PSD X G (.Assign [.Subscript (.Name x xpos) a spos] b pos) (putF i fa fb):=fun A0 He pins s σ H D I ⟨ρ,o,⟨A,w⟩,e,k⟩ => by
 obtain ⟨v,y,x0,z,e1,e2,hi,e3,rfl⟩:=Y4 e
 refine Rx hu hv (ha A) (hb A) hs pins s σ H D I ?_
 unfold CG at e3
 split at e3
 ·rename_i kds
  cases e4 : keyD y with
  | none => simp [e4] at e3
  | some q =>
   simp only [e4,Option.bind_some] at e3
   split at e3
   ·rename_i hz
    cases e3
    obtain ⟨p,h1,hA,kvs,h2,hk,r⟩:=w.ok.ow i _ hi
    refine ⟨ρ,v,w.ok,e1,fun u H1 s1 r1 => ⟨_,h1,ρ,y,(w.mono s1).ok,e2,fun yv H2 s2 r2 => ?_⟩⟩
    have ek:=JL r2 e4
    subst ek
    have hl : kvs.length < sizeLine:=by
     have:=congrArg List.length hk
     rw [List.length_map,List.length_map] at this
     omega
    refine ⟨p,_,rfl,DPut.k (s2 _ _ (s1 _ _ h2)) hl,?_⟩
    have w2:=(w.mono s1).mono s2
    have pk:=PB (k:=q) (r1.mono (Ao s2)) hk (r.mono (Ao (s1.trans s2)))
    refine k _ _ ⟨A,w2.wr hi h1 ⟨_,Aj,pk.1,?_⟩⟩
    rw [Ba hA]
    exact pk.2
   ·cases e3
 ·cases e3
def Om : D->Option D
 | .dk kds => some (.dk kds)
 | _ => none
theorem Vx : Dh X (.type "dict") (fun xs H Q => ∃ a kvs,xs = [.ref a]/\Rd H a (.dK kvs)/\∀ p,H p = none->Q (.ref p) (upd H p (.dK kvs))):=by
 intro pins s σ H xs us Q I rs h
 obtain ⟨a,kvs,rfl,e,q⟩:=h
 obtain ⟨u,rfl,ru⟩:=rs.one
 cases ru
 exact Z9 I e fun p s' hp I' => ⟨.ref p,_,I',rfl,q p hp⟩
theorem Sg {x : Str} {p : Pos} (hg : Gl X x) (hm : X.mg x = none) (hv : bootBuiltins x = some (.type "dict")) (ha : PU X G a fa)
  (hn : x ≠ "__name__":=by decide) (hdb : (x == ("__debug__" : Str)) = false:=by decide) (he : starEach [a] X.env = [(false,eval a X.env)]:=by rfl) : PN X G (.Call (.Name x p) [a] [] pos) (uF Om fa):=
 fun A => Ca (Nj Vx hg hm hv (DK (ha A) Ga he) hn hdb he rfl) fun σ H Q ⟨ρ,d,o,e,k⟩ => by
  obtain ⟨x0,e1,e2⟩:=Ja e
  unfold Om at e2
  split at e2
  ·cases e2
   refine ⟨ρ,_,o,e1,fun v H1 s1 r1 => ?_⟩
   obtain ⟨q,kvs,rfl,h1,h2,r⟩:=r1.dk
   exact ⟨q,kvs,rfl,h1,fun p hp => k p _ (s1.trans (Ar hp _)) (s1.free hp) ⟨kvs,Aj,h2,r.mono (JG (Ar hp _) hp)⟩⟩
  ·cases e2
end
end PV
namespace PV
open PySem PySem.Spec L2
open PyProof.Rows hiding St
theorem Jc {α β : Type} {R : α->β->Prop} : ∀ {xs : List α} {ys : List β} {i : Nat} {x : α} {y : β},Paired R xs ys->xs[i]? = some x->ys[i]? = some y->R x y
 | _,_,i,x,y,.nil,h,_ => by simp at h
 | _,_,0,x,y,.cons r _,h1,h2 => by
  simp at h1 h2
  rw [<-h1,<-h2]
  exact r
 | _,_,i + 1,x,y,.cons _ t,h1,h2 => Jc t (by simpa using h1) (by simpa using h2)
def Itd (a : Addr) (o : Obj) (kvs : List (Key × V)) : It:=
 ⟨fun i H => H a = some (.frz o (.dK kvs))/\i < kvs.length,fun i H x H' => H' = H/\∃ p,kvs[i]? = some p/\x = kV p.1,fun i H => H a = some (.frz o (.dK kvs))/\kvs.length<=i⟩
theorem relK {P : Program} {w : World} {k : Key} {u : Value} (h : (Ax P w).is k u = true) : RelV (kV k) u:=by
 rcases B_ h with ⟨i,t,rfl,rfl⟩ | ⟨x,t,rfl,rfl⟩
 ·exact ⟨t,rfl⟩
 ·exact ⟨t,rfl⟩
theorem N7 {X : Cx} {pins : List (Addr × Obj)} {σ : St} {H : Hp} {s : Shared} {a : Addr} {o : Obj} {kvs : List (Key × V)} {es : Array DictEntry} {ep : Nat} (I : Inv X pins σ H s) (e : H a = some (.frz o (.dK kvs))) (hd : o.data = .dict es ep) :
  (a == sysModules) = false/\∃ vs,KV kvs vs/\s.heap.DictAt (Ax X.prog X.w) a vs ep:=by
 obtain ⟨ho,z,hm,vs,rel,o',es',ep',ho',h1,h2,h3⟩:=(show Bj X.prog X.w H s.heap a (.frz o (.dK kvs)) from I.hok a _ e)
 rw [ho] at ho'
 cases ho'
 rw [hd] at h2
 cases h2
 exact ⟨hm,vs,rel,o,es,ho,h1,hd,h3⟩
theorem Y5 {P : Program} {w : World} {K : PySem.W.Frag} {tg : Expr} (a it : Addr) {o : Obj} {es : Array DictEntry} {ep : Nat} (hd : o.data = .dict es ep) (kvs : List (Key × V)) : Turn P w K tg (Itd a o kvs) [it] it (fun i h => h.IsKeyIter it a i kvs.length ep) where
 mem:=by simp
 obj:=fun i h st b hb => by
  have e : b = it:=by simpa using hb
  subst e
  obtain ⟨o,e,c,d⟩:=st
  exact ⟨o,e,fun v z => by rw [d] at z; cases z⟩
 keep:=fun i h h' st k => let ⟨o,e,c,d⟩:=st; ⟨o,k it (by simp) o e,c,d⟩
 item:=by
  intro X hP hw hK hc i pins s σ H E I hf st hg
  subst hP hw hK
  obtain ⟨he,hi⟩:=hg
  obtain ⟨hm,vs,rel,dd⟩:=N7 I he hd
  have hl : kvs.length = vs.length:=rel.length
  obtain ⟨f0,f1,f2,f3,f4,f5⟩:=hf it (by simp)
  have hv : vs[i]? = some (vs[i]'(by omega)):=by simp [show i < vs.length by omega]
  have hk : kvs[i]? = some (kvs[i]'hi):=by simp [hi]
  have hkk : (kvs[i]'hi).1 = (vs[i]'(by omega)).1:=(Jc rel hk hv).1
  refine wpAny_pyNext_dict_item (knd:=Ax X.prog X.w) (kvs:=vs) (k:=(vs[i]'(by omega)).1) (v:=(vs[i]'(by omega)).2) (by rw [<-hl]; exact st) dd hv fun key h' hkey st' sb => ?_
  rw [<-hl] at st'
  have I1 : Inv X pins σ H { s with heap:=h' }:=I.turned (t':=s.toks) (fun b o hb e => (sb.2 b hb).trans e) f0 f1 f3 f4 f5
  obtain ⟨o1,e1,c1,d1⟩:=id st'
  exact ⟨key,rfl,Ti (s:={ s with heap:=h' }) e1 c1 d1 (by decide) ⟨kV (kvs[i]'hi).1,H,I1,by rw [hkk]; exact relK hkey,⟨rfl,_,hk,rfl⟩,st',fun b hb => (hf b hb).1⟩⟩
 done:=by
  intro X hP hw hK hc i pins s σ H E I hf st hg
  subst hP hw hK
  obtain ⟨he,hi⟩:=hg
  obtain ⟨hm,vs,rel,dd⟩:=N7 I he hd
  have hl : kvs.length = vs.length:=rel.length
  obtain ⟨f0,f1,f2,f3,f4,f5⟩:=hf it (by simp)
  exact wpAny_pyNext_dict_end (I.ok.hd hc) (by rw [<-hl]; exact st) dd (by rw [List.getElem?_eq_none]; omega) fun h' eb => ⟨rfl,I.turned (t':=s.toks) (fun b o hb e => eb b o hb e) f0 f1 f3 f4 f5⟩
 self:=fun _ _ _ _ _ st h => wpAny_pyIter_keyiter st h
section
variable {X : Cx} {G : Gx} {a b c tg : Expr} {fa fb fc : FE} {pos p2 : Pos} {tl : TE}
def qH (tl : TE) : TI:=fun σ H R => tl σ H fun x H1 => ∃ a o kvs,x = .ref a/\H1 a = some (.frz o (.dK kvs))/\R (Itd a o kvs) H1
theorem iV {l : Expr} (hl : PE X l tl) : PI X tg l (qH tl):=by
 intro pins s σ H R I h
 refine thn (hl pins s σ H _ I h) fun v s1 ⟨x,H1,I1,r1,q1⟩ => ?_
 obtain ⟨a,o,kvs,e,hq,q⟩:=q1
 subst e
 cases r1
 obtain ⟨_,_,_,_,_,o',es,ep,ho',h1,h2,_⟩:=(show Bj X.prog X.w H1 s1.heap a (.frz o (.dK kvs)) from I1.hok a _ hq)
 obtain ⟨ho,_⟩:=(show Bj X.prog X.w H1 s1.heap a (.frz o (.dK kvs)) from I1.hok a _ hq)
 rw [ho] at ho'
 cases ho'
 obtain ⟨hm,vs,rel,dd⟩:=N7 I1 hq h2
 have hl' : kvs.length = vs.length:=rel.length
 refine wpAny_pyIter_dict hm dd ?_
 refine ⟨s1.heap.objs.size,[s1.heap.objs.size],_,_,H1,rfl,I1.kept (t':=s1.toks) fun b o e => Heap.get?_push_of_some _ e,Y5 a _ h2 kvs,⟨_,Heap.get?_push_size _ rfl,rfl,by rw [hl']; rfl⟩,fun b hb => ?_,q⟩
 have e : b = s1.heap.objs.size:=by simpa using hb
 subst e
 exact I1.fpOk (Nat.le_refl _) (I1.hok.fresh (Nat.le_refl _))
def kDt : Key->D
 | .inl i => .int i
 | .inr x => .str x
theorem PJ {H : Hp} (k : Key) : Rep G H (kV k) (kDt k):=by
 cases k with
 | inl i => exact .int i
 | inr x => exact .str x
def seqE (f : FE) : FI:=fun ρ => match f ρ with | some (.lst ds) => some ds | some (.tup ds) => some ds | some (.dk kds) => some (kds.map fun p => kDt p.1) | _ => none
theorem cL {F1 F2 : Hp} {p : Addr} {o : Obj} {kvs : List (Key × V)} {kds : List (Key × D)} (h : F1 p = some (.frz o (.dK kvs))) (e : kvs.map (·.1) = kds.map (·.1)) : Src G (Itd p o kvs) (kds.map fun p => kDt p.1) F1 F2:=by
 have hl : kvs.length = kds.length:=by have:=congrArg List.length e; rwa [List.length_map,List.length_map] at this
 refine ⟨fun i H s hi => ⟨s _ _ h,by rw [hl]; rwa [List.length_map] at hi⟩,fun i H x H' d s hd y => ?_,fun i H s hi => ⟨s _ _ h,by rw [hl]; rwa [List.length_map] at hi⟩⟩
 obtain ⟨y1,q,y2,y3⟩:=y
 refine Nz ⟨y1,?_⟩
 have e1 : (kvs.map (·.1))[i]? = some q.1:=by rw [List.getElem?_map,y2]; rfl
 rw [e,List.getElem?_map] at e1
 rw [List.getElem?_map] at hd
 cases e2 : kds[i]? with
 | none => rw [e2] at hd; cases hd
 | some z =>
  rw [e2] at e1 hd
  cases hd
  injection e1 with e1
  rw [y3,<-e1]
  exact PJ _
theorem cM (hG : G.K = X.K) (h : PF X G a fa) : PFI X G false tg a (seqE fa):=fun A => P0 (piOr (gn hG h A) (iV (h A))) fun σ H R ⟨ρ,ds,o,e,k⟩ => by
 unfold seqE at e
 split at e
 ·rename_i ds' e1
  cases e
  exact .inl ⟨ρ,_,o,by unfold seqI; rw [e1],k⟩
 ·rename_i ds' e1
  cases e
  exact .inl ⟨ρ,_,o,by unfold seqI; rw [e1],k⟩
 ·rename_i kds e1
  cases e
  refine .inr ⟨ρ,_,o,e1,fun v H1 s1 r1 => ?_⟩
  cases r1 with
  | dk h l r => exact ⟨_,_,_,rfl,Az _ _ h,k _ H1 s1 (cL h l)⟩
 ·cases e
end
end PV
namespace PV
open PySem PySem.Spec L2
open PyProof.Rows hiding St
section
variable {prog : Program} {w : World} {A : Around} {E : Value->Shared->Prop}
theorem qI {it l : Addr} {its : Array Value} (ne : l ≠ it) : ∀ (m i : Nat) (s : Shared) (Q : List Value->Shared->Prop),s.heap.IsListIter it l i->s.heap.IsList l its->i + m = its.size ->
  (∀ h',h'.IsListIter it l its.size->Heap.SameBut it s.heap h'->Q (its.toList.drop i) { s with heap:=h' })->wpAny (model prog w) A (draw (.ref it) m) Q E s:=by
 intro m
 induction m with
 | zero =>
  intro i s Q hi hl hm k
  refine wpAny_pure ?_
  have hz : i = its.size:=by omega
  have e : its.toList.drop i = []:=by rw [List.drop_eq_nil_iff]; simp [hz]
  rw [<-e]
  exact k s.heap (hz ▸ hi) (Heap.SameBut.refl ..)
 | succ m ih =>
  intro i s Q hi hl hm k
  have lt : i < its.size:=by omega
  refine wpAny_bind (m:=pyNext (.ref it)) (wpAny_pyNext_list_item hi hl (x:=its[i]) (by simp [lt]) fun h1 hi1 sb1 => ?_)
  have hl1 : h1.IsList l its:=let ⟨o,e,r⟩:=hl; ⟨o,(sb1.2 l ne).trans e,r⟩
  refine wpAny_bind (wpAny_holding (ih (i + 1) _ _ hi1 hl1 (by omega) fun h2 hi2 sb2 => wpAny_pure ?_))
  have e : its.toList.drop i = its[i] :: its.toList.drop (i + 1):=by simp [List.drop_eq_getElem_cons,lt]
  rw [<-e]
  exact k h2 hi2 (sb1.trans sb2)
theorem iW {l : Addr} {its : Array Value} {s : Shared} {Q : List Value->Shared->Prop} (hh : A.handled = none) (hl : s.heap.IsList l its)
  (k : ∀ h',Heap.ExtBut s.heap.objs.size s.heap h'->Q its.toList { s with heap:=h' }) : wpAny (model prog w) A (unpackItems (.ref l) its.size none) Q E s:=by
 have ne : l ≠ s.heap.objs.size:=by obtain ⟨o,ho,_⟩:=hl; exact Nat.ne_of_lt (Heap.lt_size ho)
 have ty : s.TypeIs (.ref l) "list":=let ⟨o,e,c,_⟩:=hl; ⟨o,e,c⟩
 unfold unpackItems notIterableAtAll
 refine wpAny_bind (wpAny_bind (wpAny_specialOf ty PySem.F.slot_list_iter.lookup (wpAny_pure ?_)))
 simp only [Bool.false_eq_true,if_false]
 refine wpAny_bind (wpAny_holding (wpAny_pyIter_list hl ?_))
 have hl0 : (s.heap.push { cls:=.type "list_iterator",data:=.fields #[.ref l,.int 0 0] }).IsList l its:=let ⟨o,e,r⟩:=hl; ⟨o,Heap.get?_push_of_some _ e,r⟩
 refine wpAny_bind (wpAny_holding (qI ne its.size 0 _ _ ⟨_,Heap.get?_push_size _ rfl,rfl,rfl⟩ hl0 (by omega) fun h1 hi1 sb1 => ?_))
 rw [List.drop_zero,if_neg (by simp)]
 have hl1 : h1.IsList l its:=let ⟨o,e,r⟩:=hl0; ⟨o,(sb1.2 l ne).trans e,r⟩
 refine wpAny_bind (wpAny_holding (wpAny_pyNext_list_end hh hi1 hl1 (by simp) fun h2 eb => ?_))
 simp only [Option.isSome_none,Bool.false_eq_true,if_false]
 exact wpAny_pure (k h2 fun b o hb e => eb b o hb ((sb1.2 b hb).trans (Heap.get?_push_of_some _ e)))
end
end PV
namespace PV
open PySem PySem.Spec L2
open PyProof.Rows hiding St
section
variable {X : Cx} {G : Gx} {a b c tg : Expr} {fa fb fc : FE} {pos p2 : Pos} {es : List Expr}
def gLst (K : PySem.W.Frag) (n : Nat) (t : TGs) : TG:=fun v σ H Q => ∃ a xs,v = .ref a/\SqL K H a xs/\xs.length = n/\t xs σ H Q
theorem n6 {k : Nat} {t : TGs} {n : Nat} (hc : X.calm = true) (h : PGs X es t)
  (hn : (assignEach es X.env).length = n:=by rfl) (hst : (assignEach es X.env).findIdx? (·.1) = none:=by rfl) : PG X (.Tuple es k pos) (gLst X.K n t):=by
 intro pins s σ H v u Q I r hw
 obtain ⟨a,xs,rfl,hq,hl,hw⟩:=hw
 cases r
 obtain ⟨its,rv,ht,hz⟩:=I.list hq
 rw [assign_Tuple]
 refine wpAny_bind (wpAny_standAt ?_)
 unfold unpack
 have e : (assignEach es X.env).length = its.toArray.size:=by simp [hn,<-hl,rv.length]
 rw [e,hst]
 refine wpAny_bind (wpAny_holding (iW (I.ok.hd hc) ht.isList fun h' hx => ?_))
 have I1 : Inv X pins σ H { s with heap:=h' }:=I.kept (t':=s.toks) fun b o e => hx b o (Nat.ne_of_lt (Heap.lt_size e)) e
 exact h pins _ σ H xs _ Q I1 (by simpa using rv) hw
theorem PG.or {t t' : TG} (h : PG X tg t) (h' : PG X tg t') : PG X tg (fun v σ H Q => t v σ H Q ∨ t' v σ H Q):=fun pins s σ H v u Q I r q => by
 rcases q with q | q
 ·exact h pins s σ H v u Q I r q
 ·exact h' pins s σ H v u Q I r q
abbrev FGs:=List D->Rho->Option Rho
def nilG : FGs:=fun ds ρ => match ds with | [] => some ρ | _ => none
def Bo (i : Nat) (g : FGs) : FGs:=fun ds ρ => match ds with | d :: r => g r (ρ.set i (.fz d)) | [] => none
def tupG (n : Nat) (g : FGs) : FG:=fun d ρ => match d with
 | .tup ds => if ds.length = n then g ds ρ else none
 | .lst ds => if ds.length = n then g ds ρ else none
 | _ => none
def tGDs (G : Gx) (A0 : List Addr) (He : Hp) (g : FGs) : TGs:=fun vs σ H Q => ∃ A ρ ds ρ',OkW G A0 He A σ H ρ/\RepL G (hid A H) vs ds/\g ds ρ = some ρ'/\∀ σ' H',OkS G A0 He σ' H' ρ'->Q σ' H'
def PGDs (X : Cx) (G : Gx) (es : List Expr) (g : FGs) : Prop:=∀ A0 He,PGs X es (tGDs G A0 He g)
theorem Ha : PGDs X G [] nilG:=fun A0 He pins s σ H vs us Q I r ⟨A,ρ,ds,ρ',w,rv,e,k⟩ => by
 unfold nilG at e
 split at e
 ·cases e
  exact fQ pins s σ H vs us Q I r ⟨rv.nil_inv,k _ _ ⟨A,w⟩⟩
 ·cases e
theorem BZ {i : Nat} {e : Expr} {g : FGs} (h1 : PG X e (Jv i)) (h2 : PGDs X G es g)
  (hs : (assignEach (e :: es) X.env).map (·.2) = assign e X.env :: (assignEach es X.env).map (·.2):=by rfl) : PGDs X G (e :: es) (Bo i g):=fun A0 He pins s σ H vs us Q I r ⟨A,ρ,ds,ρ',w,rv,e,k⟩ => by
 unfold Bo at e
 split at e
 ·rename_i d ds'
  obtain ⟨x,ys,rfl,r1,r2⟩:=rv.uncons
  exact Zc h1 (h2 A0 He) hs pins s σ H _ us Q I r ⟨x,ys,rfl,A,_,ds',ρ',w.set r1 i,r2,e,k⟩
 ·cases e
theorem Jd {k n : Nat} {g : FGs} (hG : G.K = X.K) (hc : X.calm = true) (h : PGDs X G es g)
  (hn : (assignEach es X.env).length = n:=by rfl) (hst : (assignEach es X.env).findIdx? (·.1) = none:=by rfl) : PGD X G (.Tuple es k pos) (tupG n g):=fun A0 He pins s σ H v u Q I r ⟨A,ρ,d,ρ',w,rv,e,k⟩ => by
 refine PG.or (mC hc (h A0 He) hn hst) (n6 hc (h A0 He) hn hst) pins s σ H v u Q I r ?_
 unfold tupG at e
 split at e
 ·rename_i ds
  split at e
  ·rename_i hl
   cases rv with
   | tup h1 l1 r1 => exact .inl ⟨_,_,rfl,by rw [<-hG]; exact HY Az h1,by rw [l1]; exact hl,A,ρ,ds,ρ',w,⟨l1,r1⟩,e,k⟩
  ·cases e
 ·rename_i ds
  split at e
  ·rename_i hl
   cases rv with
   | lst h1 l1 r1 => exact .inr ⟨_,_,rfl,by rw [<-hG]; exact Az.seq h1,by rw [l1]; exact hl,A,ρ,ds,ρ',w,⟨l1,r1⟩,e,k⟩
  ·cases e
 ·cases e
def asgF (f : FE) (g : FG) : FS:=fun ρ => (f ρ).bind fun d => (g d ρ).map .nx
theorem Sh {g : FG} (hg : PGD X G tg g) (ha : PF X G a fa) (hs : swapsWithSole [tg] a pos.line X.env = pure false:=by rfl) (hw : swappedStores [tg] a X.env = pure none:=by rfl)
  (h1 : (assignEach [tg] X.env).map (·.2) = [assign tg X.env]:=by rfl) : PSD X G (.Assign [tg] a pos) (asgF fa g):=fun A0 He pins s σ H D I ⟨ρ,o,⟨A,w⟩,e,k⟩ => by
 unfold asgF at e
 cases e1 : fa ρ with
 | none => simp [e1] at e
 | some d =>
  cases e2 : g d ρ with
  | none => simp [e1,e2] at e
  | some ρ' =>
   simp [e1,e2] at e
   subst e
   exact Zd (ha A) (hg A0 He) hs hw h1 pins s σ H D I ⟨ρ,d,w.ok,e1,fun v H1 s1 r1 => ⟨A,ρ,d,ρ',w.mono s1,r1,e2,fun σ' H' ok => k σ' H' ok⟩⟩
theorem Cr : Dh X (.builtin "len") (fun xs H Q => ∃ a kvs,xs = [V.ref a]/\Rd H a (.dK kvs)/\Q (.int kvs.length) H):=by
 intro pins s σ H xs us Q I rs h
 obtain ⟨a,kvs,rfl,e,q⟩:=h
 obtain ⟨u,rfl,ru⟩:=rs.one
 cases ru
 exact ph I e fun t s' I' => ⟨.int kvs.length,H,I',⟨t,rfl⟩,q⟩
def lenE : D->Option D
 | .dk kds => some (.int kds.length)
 | d => lenD d
theorem Eh : SndC G (fun xs H Q => (∃ x n,xs = [x]/\LenV G.K x H n/\Q (.int n) H) ∨ ∃ a kvs,xs = [V.ref a]/\Rd H a (.dK kvs)/\Q (.int kvs.length) H) lenE:=by
 intro A H x dx d Q lv rx h k
 unfold lenE at h
 split at h
 ·cases h
  obtain ⟨p,kvs,rfl,h1,h2,r⟩:=rx.dk
  have hl:=congrArg List.length h2
  rw [List.length_map,List.length_map] at hl
  refine .inr ⟨p,kvs,rfl,h1,?_⟩
  rw [hl]
  exact k _ H (Same.refl H) (.int _)
 ·exact .inl (Hu A H x dx d Q lv rx h k)
end
end PV
namespace PV
open PySem PySem.Spec L2
open PyProof.Rows hiding St
def Iti (a : Addr) (o : Obj) (kvs : List (Key × V)) : It:=
 ⟨fun i H => H a = some (.frz o (.dK kvs))/\i < kvs.length,fun i H x H' => ∃ T p,H T = none/\kvs[i]? = some p/\x = .ref T/\H' = upd H T (.tup [kV p.1,p.2]),fun i H => H a = some (.frz o (.dK kvs))/\kvs.length<=i⟩
theorem Vy {P : Program} {w : World} {K : PySem.W.Frag} {elts : List Expr} {x1 : Nat} {tp : Pos} (a it : Addr) {o : Obj} {es : Array DictEntry} {ep : Nat} (hd : o.data = .dict es ep) (kvs : List (Key × V)) :
  Turn P w K (.Tuple elts x1 tp) (Iti a o kvs) [it] it (fun i h => ∃ ok ov,IsItemIter h it a i kvs.length ep ok ov) where
 mem:=by simp
 obj:=fun i h st b hb => by
  have e : b = it:=by simpa using hb
  subst e
  obtain ⟨ok,ov,e⟩:=st
  exact ⟨_,e,fun v z => by
   have z' : Data.fields _ = Data.cell v:=z
   cases z'⟩
 keep:=fun i h h' st k => let ⟨ok,ov,e⟩:=st; ⟨ok,ov,k it (by simp) _ e⟩
 item:=by
  intro X hP hw hK hc i pins s σ H E I hf st hg
  subst hP hw hK
  obtain ⟨he,hi⟩:=hg
  obtain ⟨ok,ov,st⟩:=st
  obtain ⟨hm,vs,rel,dd⟩:=N7 I he hd
  have hl : kvs.length = vs.length:=rel.length
  obtain ⟨f0,f1,f2,f3,f4,f5⟩:=hf it (by simp)
  have hv : vs[i]? = some (vs[i]'(by omega)):=by simp [show i < vs.length by omega]
  have hk : kvs[i]? = some (kvs[i]'hi):=by simp [hi]
  obtain ⟨hkk,hvv⟩:=Jc rel hk hv
  have hlt : it < s.heap.objs.size:=Heap.lt_size st
  refine wpAny_pyNext_items_item (knd:=Ax X.prog X.w) (kvs:=vs) (k:=(vs[i]'(by omega)).1) (v:=(vs[i]'(by omega)).2) (by rw [<-hl]; exact st) dd hv fun key h1 hkey out ht hz kk => ?_
  refine ⟨_,rfl,wpAny_letOwnedTupleGo_items (s:={ s with heap:=h1 }) out fun h2 st2 sb => ?_⟩
  have hT : H s.heap.objs.size = none:=I.hok.fresh (Nat.le_refl _)
  have rk : RelV (kV (kvs[i]'hi).1) key:=by rw [hkk]; exact relK hkey
  have I1 : Inv X pins σ (upd H s.heap.objs.size (.tup [kV (kvs[i]'hi).1,(kvs[i]'hi).2])) { s with heap:=s.heap.push { cls:=.type "tuple",data:=.seq #[key,(vs[i]'(by omega)).2] } }:=
   I.laid (a:=s.heap.objs.size) (t':=s.toks) (fun b u e => Heap.get?_push_of_some _ e) (Nat.le_refl _) ⟨by show 2<=sizeLine; decide,[key,(vs[i]'(by omega)).2],.cons rk (.cons hvv .nil),_,Heap.get?_push_size _ rfl,rfl,_,rfl⟩
  have kp : ∀ b u,b ≠ it->(s.heap.push { cls:=.type "tuple",data:=.seq #[key,(vs[i]'(by omega)).2] }).get? b = some u->h2.get? b = some u:=fun b u hb e => by
   refine (sb.2 b hb).trans ?_
   rcases Heap.get?_push_cases e with ⟨rfl,rfl⟩ | e'
   ·exact ht
   ·exact kk b u hb e'
  have I2:=L2.Inv.turned (t':=s.toks) (it:=it) (h':=h2) I1 kp (by rw [Al (Nat.ne_of_lt hlt)]; exact f0) f1 f3 f4 f5
  refine ⟨.ref s.heap.objs.size,_,I2,rfl,⟨_,_,hT,hk,rfl,rfl⟩,⟨key,(vs[i]'(by omega)).2,by rw [hl]; exact st2⟩,fun b hb => ?_⟩
  have e : b = it:=by simpa using hb
  subst e
  rw [Al (Nat.ne_of_lt hlt)]
  exact f0
 done:=by
  intro X hP hw hK hc i pins s σ H E I hf st hg
  subst hP hw hK
  obtain ⟨he,hi⟩:=hg
  obtain ⟨ok,ov,st⟩:=st
  obtain ⟨hm,vs,rel,dd⟩:=N7 I he hd
  have hl : kvs.length = vs.length:=rel.length
  obtain ⟨f0,f1,f2,f3,f4,f5⟩:=hf it (by simp)
  exact wpAny_pyNext_items_end (I.ok.hd hc) (by rw [<-hl]; exact st) dd (by rw [List.getElem?_eq_none]; omega) fun h' eb => ⟨rfl,I.turned (t':=s.toks) (fun b o hb e => eb b o hb e) f0 f1 f3 f4 f5⟩
 self:=fun _ _ _ _ _ ⟨ok,ov,st⟩ h => PySem.W.kcp_self st h
section
variable {X : Cx} {G : Gx} {a b c tg : Expr} {fa fb fc : FE} {pos p2 : Pos} {tl : TE}
def n8 (tl : TE) : TI:=fun σ H R => tl σ H fun x H1 => ∃ a o kvs,x = .ref a/\H1 a = some (.frz o (.dK kvs))/\R (Iti a o kvs) H1
theorem cP {l : Expr} {elts : List Expr} {x1 : Nat} {tp apos cpos : Pos} (hl : PE X l tl) (hbase : attributeBase l "items" X.env (eval l X.env) = eval l X.env:=by rfl) (hline : (apos.endLine == cpos.line) = true:=by rfl) :
  PI X (.Tuple elts x1 tp) (.Call (.Attribute l "items" apos) [] [] cpos) (n8 tl):=by
 intro pins s σ H R I h
 refine wpAny_Call_method (T := "dict") (id := "dict.items") hbase rfl hline F.plainAttrs_dict F.slot_dict_items F.type_dict_items (thn (hl pins s σ H _ I h) fun v s1 ⟨x,H1,I1,r1,q1⟩ => ?_)
 obtain ⟨a,o,kvs,e,hq,q⟩:=q1
 subst e
 cases r1
 obtain ⟨_,_,_,_,_,o',es,ep,ho',h1,h2,_⟩:=(show Bj X.prog X.w H1 s1.heap a (.frz o (.dK kvs)) from I1.hok a _ hq)
 obtain ⟨ho,_⟩:=(show Bj X.prog X.w H1 s1.heap a (.frz o (.dK kvs)) from I1.hok a _ hq)
 rw [ho] at ho'
 cases ho'
 obtain ⟨hm,vs,rel,dd⟩:=N7 I1 hq h2
 have hl' : kvs.length = vs.length:=rel.length
 have hm1:=dd.dictOf
 refine ⟨hm1.typeIs,hm1.mapOf.noDict,?_⟩
 show wpAny _ _ (callWith cpos (.builtin "dict.items") [.ref a] [] []) _ _ s1
 refine method_meetsIn F.slot_dict_items F.entry_dict_items rfl (PySem.evalArgs_none ⟨rfl,hm1.typeIs,F.args_dict_items_1 _,_,meets_dict_items (Ax X.prog X.w) a hm,⟨vs,hm1⟩,?_⟩)
 have I2 : Inv X pins σ H1 { s1 with heap:=s1.heap.push { cls:=.type "dict_items",data:=.fields #[.ref a] } }:=I1.kept (t':=s1.toks) fun b o e => Heap.get?_push_of_some _ e
 refine wpAny_pyIter_items (knd:=Ax X.prog X.w) (kvs:=vs) (s:={ s1 with heap:=s1.heap.push { cls:=.type "dict_items",data:=.fields #[.ref a] } }) ⟨_,Heap.get?_push_size _ rfl,rfl,rfl⟩ (dd.push _) ?_
 refine ⟨(s1.heap.push { cls:=.type "dict_items",data:=.fields #[.ref a] }).objs.size,[(s1.heap.push { cls:=.type "dict_items",data:=.fields #[.ref a] }).objs.size],_,_,H1,rfl,I2.kept (t':=s1.toks) fun b o e => Heap.get?_push_of_some _ e,Vy a _ h2 kvs,⟨.none,.none,?_⟩,fun b hb => ?_,q⟩
 ·rw [hl']
  exact Heap.get?_push_size _ rfl
 ·have e : b = (s1.heap.push { cls:=.type "dict_items",data:=.fields #[.ref a] }).objs.size:=by simpa using hb
  subst e
  exact I2.fpOk (Nat.le_refl _) (I2.hok.fresh (Nat.le_refl _))
def Lp (f : FE) : FI:=fun ρ => match f ρ with | some (.dk kds) => some (kds.map fun p => .tup [kDt p.1,p.2]) | _ => none
theorem cQ {α β : Type} {f : α->β} {l : List α} {i : Nat} {y : β} (h : (l.map f)[i]? = some y) : ∃ x,l[i]? = some x/\f x = y:=by
 rw [List.getElem?_map] at h
 exact Option.map_eq_some_iff.mp h
theorem Y6 {F1 F2 : Hp} {p : Addr} {o : Obj} {kvs : List (Key × V)} {kds : List (Key × D)} (h : F1 p = some (.frz o (.dK kvs))) (e : kvs.map (·.1) = kds.map (·.1)) (r : RepL G F2 (kvs.map (·.2)) (kds.map (·.2))) :
  Src G (Iti p o kvs) (kds.map fun p => .tup [kDt p.1,p.2]) F1 F2:=by
 have hl : kvs.length = kds.length:=by have:=congrArg List.length e; rwa [List.length_map,List.length_map] at this
 refine ⟨fun i H s hi => ⟨s _ _ h,by rw [hl]; rwa [List.length_map] at hi⟩,fun i H x H' d s hd y => ?_,fun i H s hi => ⟨s _ _ h,by rw [hl]; rwa [List.length_map] at hi⟩⟩
 obtain ⟨T,q,hT,y2,rfl,rfl⟩:=y
 obtain ⟨z,hz,rfl⟩:=cQ hd
 have e1 : (kvs.map (·.1))[i]? = some q.1:=by rw [List.getElem?_map,y2]; rfl
 rw [e,List.getElem?_map,hz] at e1
 injection e1 with e1
 have rz : Rep G F2 q.2 z.2:=r.2 i q.2 z.2 (by rw [List.getElem?_map,y2]; rfl) (by rw [List.getElem?_map,hz]; rfl)
 refine ⟨Ar hT _,fun B lv sm => ?_⟩
 have rr : RepL G (hid B H) [kV q.1,q.2] [kDt z.1,z.2]:=.cons (by rw [<-e1]; exact PJ _) (.cons (rz.mono sm) .nil)
 exact J3 lv hT rr
theorem RT {top : Bool} {elts : List Expr} {x1 : Nat} {tp apos cpos : Pos} (h : PF X G a fa) (hbase : attributeBase a "items" X.env (eval a X.env) = eval a X.env:=by rfl) (hline : (apos.endLine == cpos.line) = true:=by rfl) :
  PFI X G false (.Tuple elts x1 tp) (.Call (.Attribute a "items" apos) [] [] cpos) (Lp fa):=fun A => P0 (cP (h A) hbase hline) fun σ H R ⟨ρ,ds,o,e,k⟩ => by
 unfold Lp at e
 split at e
 ·rename_i kds e1
  cases e
  refine ⟨ρ,_,o,e1,fun v H1 s1 r1 => ?_⟩
  cases r1 with
  | dk h l r => exact ⟨_,_,_,rfl,Az _ _ h,k _ H1 s1 (Y6 h l ⟨by have:=congrArg List.length l; rwa [List.length_map,List.length_map] at this ⊢,r⟩)⟩
 ·cases e
end
end PV
namespace PV
open PySem PySem.Spec L2
open PyProof.Rows hiding St
section
variable {X : Cx} {G : Gx} {a b c tg : Expr} {fa fb fc : FE} {pos p2 : Pos} {es : List Expr} {fs : FA}
theorem Xd {P : Program} {w : World} : ∀ {kvs : List (Key × V)} {us : List Value},us.length = kvs.length->(∀ (j : Nat) u,us[j]? = some u->∃ p,kvs[j]? = some p/\(Ax P w).is p.1 u = true)->Vals (kvs.map fun p => kV p.1) us
 | [],us,hl,_ => by
  have : us = []:=List.eq_nil_of_length_eq_zero hl
  subst this
  exact .nil
 | p :: kvs,[],hl,_ => by simp at hl
 | p :: kvs,u :: us,hl,h => by
  obtain ⟨q,h1,h2⟩:=h 0 u rfl
  simp at h1
  subst h1
  exact .cons (relK h2) (Xd (P:=P) (w:=w) (by simpa using hl) fun j v hv => by simpa using h (j + 1) v (by simpa using hv))
theorem Fo (hc : X.calm = true) : Dh X (.type "list") (fun xs H Q => ∃ p kvs,xs = [.ref p]/\Rd H p (.dK kvs)/\∀ l,H l = none->Q (.ref l) (upd H l (.lst (kvs.map fun q => kV q.1)))):=by
 intro pins s σ H xs us Q I r h
 obtain ⟨p,kvs,rfl,e,q⟩:=h
 obtain ⟨u,rfl,ru⟩:=r.one
 cases ru
 obtain ⟨z,hd,vs,rel,dd⟩:=I_ I.hok e
 obtain ⟨ep,dd⟩:=dd.dictAt
 have hl : kvs.length = vs.length:=rel.length
 refine PySem.W.kdl_call (PySem.W.kdl_dict (knd:=Ax X.prog X.w) (kvs:=vs) (ep:=ep) hd) (I.ok.hd hc) dd (by omega) fun h' tk acc c' kp hn hi => ?_
 have va : Vals (kvs.map fun q => kV q.1) acc.toList:=by
  refine Xd (P:=X.prog) (w:=X.w) (by simp [hi.1,hl]) fun j u hu => ?_
  obtain ⟨k,x,h1,h2⟩:=hi.2 j u (by simpa using hu)
  have hj : j < kvs.length:=by rw [hl]; exact (List.getElem?_eq_some_iff.mp h1).1
  refine ⟨kvs[j],by simp [hj],?_⟩
  rw [(Jc rel (by simp [hj]) h1).1]
  exact h2
 exact ⟨.ref s.heap.objs.size,_,I.laid (t':=tk) kp (Nat.le_refl _) (show Bj X.prog X.w _ h' _ (.lst (kvs.map fun q => kV q.1)) from ⟨by rw [List.length_map]; exact z,acc.toList,c',va,by simpa using hn⟩),rfl,q _ (I.hok.fresh (Nat.le_refl _))⟩
def listE : D->Option D
 | .dk kds => some (.lst (kds.map fun p => kDt p.1))
 | d => aA d
theorem kJ {H : Hp} : ∀ {kvs : List (Key × V)} {kds : List (Key × D)},kvs.map (·.1) = kds.map (·.1)->RepL G H (kvs.map fun q => kV q.1) (kds.map fun p => kDt p.1)
 | [],[],_ => RepL.nil
 | [],_ :: _,h => by simp at h
 | _ :: _,[],h => by simp at h
 | p :: kvs,q :: kds,h => by
  rw [List.map_cons,List.map_cons] at h
  injection h with h1 h2
  exact .cons (by show Rep G H (kV p.1) (kDt q.1); rw [h1]; exact PJ _) (kJ h2)
theorem Y7 : SndC G (fun xs H Q => (∃ p ys,xs = [.ref p]/\(SqL G.K H p ys ∨ SqT G.K H p ys)/\∀ l,H l = none->Q (.ref l) (upd H l (.lst ys))) ∨ ∃ p kvs,xs = [.ref p]/\Rd H p (.dK kvs)/\∀ l,H l = none->Q (.ref l) (upd H l (.lst (kvs.map fun q => kV q.1)))) listE:=by
 intro A H x dx d Q lv rx h k
 unfold listE at h
 split at h
 ·cases h
  obtain ⟨p,kvs,rfl,h1,h2,r⟩:=rx.dk
  exact .inr ⟨p,kvs,rfl,h1,fun l hl => k _ _ (Ar hl _) (Dm lv hl (kJ h2))⟩
 ·exact .inl (bV A H x dx d Q lv rx h k)
def Mu (x : D) (ds : List D) (v : D) : Option D:=match x with
 | .dt kds => (Ol ds).bind fun k => if kds.length < sizeLine/\ds.length<=sizeLine then some (.dt (putL k v kds)) else none
 | _ => none
def UT (i : Nat) (fk : FA) (fv : FE) : FS:=fun ρ => (fv ρ).bind fun v => (fk ρ).bind fun y => (ownO ρ i).bind fun x => (Mu x y v).map fun z => .nx (ρ.set i (.ow z))
theorem Vz {i : Nat} {ρ : Rho} {o : Out} (h : UT i fs fb ρ = some o) : ∃ v y x z,fb ρ = some v/\fs ρ = some y/\ρ[i]? = some (.ow x)/\Mu x y v = some z/\o = .nx (ρ.set i (.ow z)):=by
 unfold UT at h
 cases e1 : fb ρ with
 | none => simp [e1] at h
 | some v =>
  cases e2 : fs ρ with
  | none => simp [e1,e2] at h
  | some y =>
   cases e3 : ownO ρ i with
   | none => simp [e1,e2,e3] at h
   | some x =>
    cases e4 : Mu x y v with
    | none => simp [e1,e2,e3,e4] at h
    | some z =>
     simp [e1,e2,e3,e4] at h
     exact ⟨v,y,x,z,rfl,rfl,N5 e3,e4,h.symm⟩
theorem cR {i : Nat} {x : Str} {xpos spos tp : Pos} {x1 : Nat} (hu : X.A.units + 1 < cLine) (hv : PE X (.Name x xpos) (tVar i)) (ha : PFA X G es fs) (hb : PF X G b fb)
  (hs : swapsWith b (some (.Subscript (.Name x xpos) (.Tuple es x1 tp) spos)) pos.line X.env = pure false:=by rfl) : PSD X G (.Assign [.Subscript (.Name x xpos) (.Tuple es x1 tp) spos] b pos) (UT i fs fb):=fun A0 He pins s σ H D I ⟨ρ,o,⟨A,w⟩,e,k⟩ => by
 obtain ⟨v,y,x0,z,e1,e2,hi,e3,rfl⟩:=Vz e
 refine Rx hu hv (Zo (ha A)) (hb A) hs pins s σ H D I ?_
 unfold Mu at e3
 split at e3
 ·rename_i kds
  cases e4 : Ol y with
  | none => simp [e4] at e3
  | some q =>
   simp only [e4,Option.bind_some] at e3
   split at e3
   ·rename_i hz
    cases e3
    obtain ⟨p,h1,hA,kvs,h2,hk,r⟩:=w.ok.ow i _ hi
    refine ⟨ρ,v,w.ok,e1,fun u H1 s1 r1 => ⟨_,h1,ρ,y,(w.mono s1).ok,e2,fun vs H2 s2 r2 => ⟨by rw [r2.1]; exact hz.2,fun T hT => ?_⟩⟩⟩
    have ek:=RQ r2 e4
    subst ek
    have hl : kvs.length < sizeLine:=by
     have:=congrArg List.length hk
     rw [List.length_map,List.length_map] at this
     omega
    have s3 : Same H2 (upd H2 T (.tup (q.map kV))):=Ar hT _
    refine ⟨p,_,rfl,DPut.t (s3 _ _ (s2 _ _ (s1 _ _ h2))) Aj hl,?_⟩
    have w2:=((w.mono s1).mono s2).mono s3
    have pk:=PB (k:=q) (r1.mono (Ao (s2.trans s3))) hk (r.mono (Ao (s1.trans (s2.trans s3))))
    refine k _ _ ⟨A,w2.wr hi h1 ⟨_,Aj,pk.1,?_⟩⟩
    rw [Ba hA]
    exact pk.2
   ·cases e3
 ·cases e3
end
end PV
namespace PV
open PySem PySem.Spec L2
open PyProof.Rows hiding St
section
variable {X : Cx} {G : Gx} {a b c tg : Expr} {fa fb fc : FE} {pos p2 : Pos} {es : List Expr} {fs : FA} {src : FI}
theorem PFI.top (h : PFI X G false tg a src) : PFI X G true tg a src:=fun A => P0 (h A) fun σ H R ⟨ρ,ds,o,e,k⟩ =>
 ⟨ρ,ds,o,e,fun J H1 s1 sr => k J H1 s1 ⟨fun i H s hi => sr.go i H (Az.trans s) hi,fun i H x H' d s hd y => sr.yld i H x H' d (Az.trans s) hd y,fun i H s hi => sr.stop i H (Az.trans s) hi⟩⟩
theorem RepT.ob {A : List Addr} {H : Hp} {v : V} {c : Str} {gs : List (Str × D)} (r : RepT G A H v (.ob c gs)) : ∃ a C dx fs,v = .ref a/\G.cl c = some C/\H a = some (.ins C dx fs)/\fs.map (·.1) = gs.map (·.1)/\RepL G (hid A H) (fs.map (·.2)) (gs.map (·.2)):=by
 rcases r with r | ⟨a,e,C,dx,fs,h,k,r⟩
 ·cases r with
  | ob hc h l r =>
   have hl:=congrArg List.length l
   rw [List.length_map,List.length_map] at hl
   exact ⟨_,_,_,_,rfl,hc,Az _ _ h,l,by rw [List.length_map,List.length_map]; exact hl,r⟩
 ·exact ⟨a,C,dx,fs,e,k.1,h,k.2,r⟩
def fldD (f : Str) : D->Option D
 | .ob _ gs => gs.lookup f
 | _ => none
theorem RV {H : Hp} {f : Str} {d : D} : ∀ {gs : List (Str × D)} {fs : List (Str × V)},fs.map (·.1) = gs.map (·.1)->RepL G H (fs.map (·.2)) (gs.map (·.2))->gs.lookup f = some d->∃ v,fs.lookup f = some v/\Rep G H v d
 | [],fs,e,r,h => by simp at h
 | p :: gs,[],e,r,h => by simp at e
 | p :: gs,q :: fs,e,r,h => by
  rw [List.map_cons,List.map_cons] at e r
  injection e with e1 e2
  obtain ⟨x,ys,e3,r1,r2⟩:=r.uncons
  injection e3 with e4 e5
  subst e4 e5
  obtain ⟨p1,p2⟩:=p
  obtain ⟨q1,q2⟩:=q
  simp only at e1 r1
  subst e1
  by_cases hf : f = q1
  ·subst hf
   simp only [List.lookup_cons,beq_self_eq_true,Option.some.injEq] at h ⊢
   subst h
   exact ⟨q2,rfl,r1⟩
  ·have hb : (f == q1) = false:=beq_eq_false_iff_ne.mpr hf
   simp only [List.lookup_cons,hb] at h ⊢
   exact RV e2 r2 h
theorem Hb {f : Str} (hcl : ∀ c C,G.cl c = some C->Cls X.K C/\Ew X.K C f) (he : PU X G a fa) (hb : attributeBase a f X.env (eval a X.env) = eval a X.env:=by rfl) : PF X G (.Attribute a f pos) (uF (fldD f) fa):=
 fun A => Ca (VN (he A) hb) fun σ H Q ⟨ρ,d,o,e,k⟩ => by
  obtain ⟨x0,e1,e2⟩:=Ja e
  unfold fldD at e2
  split at e2
  ·rename_i cn gs
   refine ⟨ρ,_,o,e1,fun v H1 s1 r1 => ?_⟩
   obtain ⟨p,C,dx,fs,rfl,hc,h,l,r⟩:=r1.ob
   obtain ⟨v,h1,h2⟩:=RV (f:=f) (d:=d) l r e2
   exact ⟨_,_,_,_,v,rfl,h,(hcl _ _ hc).1,(hcl _ _ hc).2,h1,k v H1 s1 h2⟩
  ·cases e2
end
end PV
namespace PV
open PySem PySem.Spec L2
open PyProof.Rows hiding St
def Its (x : Str) : It:=⟨fun i _ => i < x.cps.size,fun i H y H' => H' = H/\∃ c,x.cps[i]? = some c/\y = .str ⟨#[c]⟩,fun i _ => x.cps.size<=i⟩
theorem UV {P : Program} {w : World} {K : PySem.W.Frag} {tg : Expr} (it : Addr) (x : Str) (t : Tok) (ty : String) (W : ∀ A : Around,A.handled = none->Walks P w A it [it] [it] x.cps.size (SignAt x) (fun i h => h.IsStrIter it ty x t i))
  (hn : ["enumerate", "zip", "dict_itemiterator", "dict_reverseitemiterator", "odict_iterator", "itertools.zip_longest", "itertools.pairwise"].contains ty = false)
  (fin : ∀ (A : Around),A.handled = none->∀ (i : Nat) (s : Shared) (Q : Option Value->Shared->Prop) (E : Value->Shared->Prop),s.heap.IsStrIter it ty x t i->x.cps[i]? = none->(∀ h',Heap.ExtBut it s.heap h'->Q none { s with heap:=h' })->wpAny (model P w) A (pyNext (.ref it)) Q E s)
  (self : ∀ (A : Around) (i : Nat) (s : Shared) (Q : Value->Shared->Prop) (E : Value->Shared->Prop),s.heap.IsStrIter it ty x t i->Q (.ref it) s->wpAny (model P w) A (pyIter (.ref it)) Q E s) :
  Turn P w K tg (Its x) [it] it (fun i h => h.IsStrIter it ty x t i) where
 mem:=by simp
 obj:=fun i h st b hb => by
  have e : b = it:=by simpa using hb
  subst e
  obtain ⟨o,e,c,d⟩:=st
  exact ⟨o,e,fun v z => by rw [d] at z; cases z⟩
 keep:=fun i h h' st k => let ⟨o,e,c,d⟩:=st; ⟨o,k it (by simp) o e,c,d⟩
 item:=by
  intro X hP hw hK hc i pins s σ H E I hf st hg
  subst hP hw hK
  obtain ⟨f0,f1,f2,f3,f4,f5⟩:=hf it (by simp)
  refine (W X.A (I.ok.hd hc)).item i s _ _ hg st fun v h' tk hv st' kk => ?_
  obtain ⟨c,u,e1,rfl⟩:=hv
  have I1 : Inv X pins σ H { s with heap:=h',toks:=tk }:=I.turned (fun b o hb e => kk b o (by simpa using hb) e) f0 f1 f3 f4 f5
  obtain ⟨o1,e2,c1,d1⟩:=id st'
  exact ⟨_,rfl,Ti (s:={ s with heap:=h',toks:=tk }) e2 c1 d1 hn ⟨.str ⟨#[c]⟩,H,I1,⟨u,rfl⟩,⟨rfl,c,e1,rfl⟩,st',fun b hb => (hf b hb).1⟩⟩
 done:=by
  intro X hP hw hK hc i pins s σ H E I hf st hg
  subst hP hw hK
  obtain ⟨f0,f1,f2,f3,f4,f5⟩:=hf it (by simp)
  exact fin X.A (I.ok.hd hc) i s _ _ st (by rw [Array.getElem?_eq_none_iff]; exact hg) fun h' eb => ⟨rfl,I.turned (t':=s.toks) (fun b o hb e => eb b o hb e) f0 f1 f3 f4 f5⟩
 self:=fun A i s Q E st h => self A i s Q E st h
section
variable {X : Cx} {G : Gx} {a b c tg : Expr} {fa fb fc : FE} {pos p2 : Pos} {tl : TE}
def iStr (tl : TE) : TI:=fun σ H R => tl σ H fun x H1 => ∃ y,x = .str y/\R (Its y) H1
theorem n_ {l : Expr} (hl : PE X l tl) : PI X tg l (iStr tl):=by
 intro pins s σ H R I h
 refine thn (hl pins s σ H _ I h) fun v s1 ⟨x,H1,I1,r1,q1⟩ => ?_
 obtain ⟨y,e,q⟩:=q1
 subst e
 obtain ⟨t,e⟩:=(show ∃ t,v = Value.str y t from r1)
 subst e
 have fp : ∀ b ∈ [s1.heap.objs.size],FpOk X pins H1 b:=fun b hb => by
  have e : b = s1.heap.objs.size:=by simpa using hb
  subst e
  exact I1.fpOk (Nat.le_refl _) (I1.hok.fresh (Nat.le_refl _))
 cases ha : y.cps.all (· < 128)
 ·exact wpAny_pyIter_wide ha ⟨s1.heap.objs.size,[s1.heap.objs.size],_,_,H1,rfl,I1.kept (t':=s1.toks) fun b o e => Heap.get?_push_of_some _ e,
   UV _ y t "str_iterator" (fun A hA => Walks.strWide hA _ y t) (by decide) (fun _ hh _ _ _ _ st hx k => wpAny_pyNext_wide_end hh st hx k) (fun _ _ _ _ _ st h => wpAny_pyIter_striter_wide st h),⟨_,Heap.get?_push_size _ rfl,rfl,rfl⟩,fp,q⟩
 ·exact wpAny_pyIter_ascii ha ⟨s1.heap.objs.size,[s1.heap.objs.size],_,_,H1,rfl,I1.kept (t':=s1.toks) fun b o e => Heap.get?_push_of_some _ e,
   UV _ y t "str_ascii_iterator" (fun A hA => Walks.strAscii hA _ y t) (by decide) (fun _ hh _ _ _ _ st hx k => wpAny_pyNext_ascii_end hh st hx k) (fun _ _ _ _ _ st h => wpAny_pyIter_striter_ascii st h),⟨_,Heap.get?_push_size _ rfl,rfl,rfl⟩,fp,q⟩
def UW (x : Str) : List D:=x.cps.toList.map fun c => .str ⟨#[c]⟩
theorem iY {F1 F2 : Hp} {x : Str} : Src G (Its x) (UW x) F1 F2:=by
 have hl : (UW x).length = x.cps.size:=by unfold UW; simp
 refine ⟨fun i H s hi => by rw [hl] at hi; exact hi,fun i H y H' d s hd q => ?_,fun i H s hi => by rw [hl] at hi; exact hi⟩
 obtain ⟨q1,c,q2,q3⟩:=q
 refine Nz ⟨q1,?_⟩
 obtain ⟨z,hz,rfl⟩:=cQ hd
 have e : x.cps[i]? = some z:=by simpa using hz
 rw [e] at q2
 cases q2
 rw [q3]
 exact .str _
def seqA (f : FE) : FI:=fun ρ => match f ρ with | some (.str x) => some (UW x) | _ => seqE f ρ
theorem Bk (hG : G.K = X.K) (h : PF X G a fa) : PFI X G false tg a (seqA fa):=fun A => P0 (piOr (cM hG h A) (n_ (h A))) fun σ H R ⟨ρ,ds,o,e,k⟩ => by
 unfold seqA at e
 split at e
 ·rename_i x e1
  cases e
  refine .inr ⟨ρ,_,o,e1,fun v H1 s1 r1 => ?_⟩
  cases r1
  exact ⟨_,rfl,k _ H1 s1 iY⟩
 ·exact .inl ⟨ρ,_,o,e,k⟩
def blsD : List D->Option (List Bool)
 | [] => some []
 | .bl i :: r => (blsD r).map (i :: ·)
 | _ :: _ => none
theorem Sq {H : Hp} : ∀ {ds : List D} {xs : List V} {bs : List Bool},RepL G H xs ds->blsD ds = some bs->xs = bs.map V.bl
 | [],xs,bs,r,h => by cases h; exact r.nil_inv
 | d :: ds,xs,bs,r,h => by
  obtain ⟨x,ys,rfl,r1,r2⟩:=r.uncons
  cases d with
  | bl i =>
   cases e : blsD ds with
   | none => simp [blsD,e] at h
   | some bs' =>
    simp [blsD,e] at h
    subst h
    cases r1
    rw [Sq r2 e]
    rfl
  | _ => simp [blsD] at h
theorem N8 (hc : X.calm = true) : Dh X (.builtin "all") (fun xs H Q => ∃ (p : Addr) (bs : List Bool),xs = [.ref p]/\SqL X.K H p (bs.map V.bl)/\Q (.bl (bs.all id)) H):=by
 intro pins s σ H xs us Q I r h
 obtain ⟨p,bs,rfl,hs,k⟩:=h
 obtain ⟨u,rfl,ru⟩:=r.one
 cases ru
 obtain ⟨its,rv,pl,hz⟩:=I.list hs
 have hl:=pl.isList
 have hlt : p ≠ s.heap.objs.size:=by obtain ⟨o,ho,_⟩:=hl; exact Nat.ne_of_lt (Heap.lt_size ho)
 have hlen : bs.length = its.length:=by have:=rv.length; rwa [List.length_map] at this
 refine call_all_walk (wpAny_pyIter_list hl ?_)
 refine ⟨_,_,_,_,_,_,fun i => bs.getD i true,rfl,Walks.list (A:=X.A.in1) (I.ok.hd hc) s.heap.objs.size p hlt its.toArray,⟨⟨_,Heap.get?_push_size _ rfl,rfl,rfl⟩,hl.push _⟩,?_,fun h' tk kk => ?_⟩
 ·intro i v s' Q' E' hv hq
  have hi : its[i]? = some v:=by simpa using hv
  have hlt' : i < bs.length:=by rw [hlen]; exact (List.getElem?_eq_some_iff.mp hi).1
  obtain ⟨u',hu,ru⟩:=rv.get (i:=i) (x:=.bl (bs[i]'hlt')) (by rw [List.getElem?_map]; simp [hlt'])
  rw [hi] at hu
  cases hu
  cases (show v = Value.bool (bs[i]'hlt') from ru)
  have e : bs.getD i true = bs[i]'hlt':=by simp [List.getD,hlt']
  have hq' : Q' (bs.getD i true) s':=hq
  rw [e] at hq'
  exact wpAny_truthy_bool hq'
 ·refine ⟨.bl (bs.all id),H,I.kept (fun b o e => kk b o ?_ (Heap.get?_push_of_some _ e)),?_,k⟩
  ·intro hb
   have : b = s.heap.objs.size:=by simpa using hb
   exact absurd (Heap.lt_size e) (by rw [this]; exact Nat.lt_irrefl _)
  ·show Value.bool _ = Value.bool _
   congr 1
   rw [List.size_toArray,<-hlen]
   rw [Bool.eq_iff_iff,List.all_eq_true,List.all_eq_true]
   constructor
   ·intro q b hb
    obtain ⟨i,hi,rfl⟩:=List.getElem_of_mem hb
    have:=q i (List.mem_range.mpr hi)
    simpa [List.getD,hi] using this
   ·intro q i hi
    have hi':=List.mem_range.mp hi
    have:=q (bs[i]'hi') (List.getElem_mem hi')
    simpa [List.getD,hi'] using this
def allD : D->Option D
 | .lst ds => (blsD ds).map fun bs => .bl (bs.all id)
 | _ => none
theorem Ss : SndC G (fun xs H Q => ∃ (p : Addr) (bs : List Bool),xs = [.ref p]/\SqL G.K H p (bs.map V.bl)/\Q (.bl (bs.all id)) H) allD:=by
 intro A H x dx d Q lv rx h k
 unfold allD at h
 split at h
 ·rename_i ds
  cases e : blsD ds with
  | none => simp [e] at h
  | some bs =>
   rw [e] at h
   cases h
   obtain ⟨p,xs,rfl,h1,r⟩:=rx.lst
   have e2:=Sq r e
   subst e2
   exact ⟨p,bs,rfl,h1,k _ H (Same.refl H) (.bl _)⟩
 ·cases h
theorem V0 : bootBuiltins "all" = some (.builtin "all"):=by decide +kernel
end
end PV
namespace PV
open PySem PySem.Spec L2
open PyProof.Rows hiding St
section
variable {X : Cx} {G : Gx} {a b c tg : Expr} {fa fb fc : FE} {pos p2 : Pos}
def isND (neg : Bool) : D->Option D
 | .non => some (.bl (!neg))
 | _ => some (.bl neg)
theorem iZ {A : List Addr} {H : Hp} {v : V} {d : D} (r : RepT G A H v d) : (decide (v = .non)) = (match d with | .non => true | _ => false):=by
 rcases r with r | ⟨p,e,r⟩
 ·cases r <;> simp
 ·subst e
  cases d <;> first | exact r.elim | simp
theorem ie {j : Nat} {p' : Pos} (ha : PU X G a fa) : PFT X G (.Compare a [.Is] [.Constant .none j p'] pos) (blF (uF (isND false) fa)):=fun A => XD (lW (lV (ha A))) fun σ H Q ⟨ρ,b,o,e,k⟩ => by
 obtain ⟨x0,e1,e2⟩:=Ja (Tv e)
 refine ⟨ρ,x0,o,e1,fun v H1 s1 r1 => ⟨_,rfl,?_⟩⟩
 rw [iZ r1]
 cases x0 <;> (cases e2; exact k H1 s1)
end
end PV
namespace PV
open PySem PySem.Spec L2
open PyProof.Rows hiding St
section
variable {X : Cx} {G : Gx} {a b c tg : Expr} {fa fb fc : FE} {pos p2 : Pos}
def eqTo (x d : D) : Bool:=match eqK 62 d x with | some b => b | none => false
def knows (x d : D) : Bool:=(eqK 62 d x).isSome
def rInP (G : Gx) (neg : Bool) : R2:=fun x y H Q => ∃ (A : List Addr) (as ds : List D),RepT G A H x (.tup as)/\RepT G A H y (.lst ds)/\ds.all (knows (.tup as)) = true/\Q (.bl (if neg then !ds.any (eqTo (.tup as)) else ds.any (eqTo (.tup as)))) H
open Classical in
theorem Xe (hG : G.K = X.K) (hu : X.A.units + 64 < cLine) {pins : List (Addr × Obj)} {s : Shared} {σ : St} {H : Hp} {A : List Addr} {x : V} {u : Value} {as ds : List D} {xs : List V} {its : List Value} (I : Inv X pins σ H s) (rx : RepT G A H x (.tup as)) (ru : RelV x u)
  (r : RepL G (hid A H) xs ds) (v : Vals xs its) (hk : ds.all (knows (.tup as)) = true) :
  ∃ e : Value->Bool,(∀ y,y ∈ its.toArray->SeqAt.EqAt X.A.in1 s y u (e y))/\its.toArray.any e = ds.any (eqTo (.tup as)):=by
 have rx' : Rep G H x (.tup as):=by
  rcases rx with q | ⟨p,_,q⟩
  ·exact q.mono Az
  ·exact q.elim
 have one : ∀ (i : Nat) y,its[i]? = some y->∃ d,ds[i]? = some d/\SeqAt.EqAt X.A.in1 s y u (eqTo (.tup as) d):=fun i y hy => by
  have hi : i < its.length:=(List.getElem?_eq_some_iff.mp hy).1
  have hx : i < xs.length:=by rw [v.length]; exact hi
  have hd : i < ds.length:=by rw [<-r.1]; exact hx
  obtain ⟨y',h1,h2⟩:=v.get (i:=i) (x:=xs[i]) (by simp [hx])
  rw [hy] at h1
  cases h1
  refine ⟨ds[i],by simp [hd],?_⟩
  have kn : knows (.tup as) ds[i] = true:=List.all_eq_true.mp hk _ (List.getElem_mem hd)
  unfold knows at kn
  obtain ⟨b,hb⟩:=Option.isSome_iff_exists.mp kn
  have eb : eqTo (.tup as) ds[i] = b:=by unfold eqTo; rw [hb]
  rw [eb]
  exact Ny I hG 62 X.A.in1 (by show X.A.units + 1 + 62 < cLine; omega) hb ((r.2 i _ _ (by simp [hx]) (by simp [hd])).mono Az) rx' h2 ru
 refine ⟨fun y => decide (∃ (i : Nat) (d : D),its[i]? = some y/\ds[i]? = some d/\eqTo (.tup as) d = true),fun y hy => ?_,?_⟩
 ·by_cases h : ∃ (i : Nat) (d : D),its[i]? = some y/\ds[i]? = some d/\eqTo (.tup as) d = true
  ·obtain ⟨i,d,h1,h2,h3⟩:=id h
   obtain ⟨d',h4,h5⟩:=one i y h1
   rw [h2] at h4
   cases h4
   rw [h3] at h5
   show SeqAt.EqAt X.A.in1 s y u (decide (∃ (i : Nat) (d : D),its[i]? = some y/\ds[i]? = some d/\eqTo (.tup as) d = true))
   rw [decide_eq_true h]
   exact h5
  ·obtain ⟨i,hi,rfl⟩:=List.getElem_of_mem (show y ∈ its by simpa using hy)
   have hii : its[i]? = some its[i]:=List.getElem?_eq_getElem hi
   obtain ⟨d,h4,h5⟩:=one i _ hii
   have h6 : eqTo (.tup as) d = false:=by
    cases q : eqTo (.tup as) d with
    | false => rfl
    | true => exact absurd ⟨i,d,hii,h4,q⟩ h
   rw [h6] at h5
   show SeqAt.EqAt X.A.in1 s its[i] u (decide (∃ (j : Nat) (d : D),its[j]? = some its[i]/\ds[j]? = some d/\eqTo (.tup as) d = true))
   rw [decide_eq_false h]
   exact h5
 ·rw [Bool.eq_iff_iff,List.any_eq_true]
  rw [show its.toArray.any (fun y => decide (∃ (i : Nat) (d : D),its[i]? = some y/\ds[i]? = some d/\eqTo (.tup as) d = true)) = its.any (fun y => decide (∃ (i : Nat) (d : D),its[i]? = some y/\ds[i]? = some d/\eqTo (.tup as) d = true)) by simp,List.any_eq_true]
  constructor
  ·rintro ⟨y,hy,h⟩
   obtain ⟨i,d,h1,h2,h3⟩:=of_decide_eq_true h
   exact ⟨d,List.mem_of_getElem? h2,h3⟩
  ·rintro ⟨d,hd,h⟩
   obtain ⟨i,hi,rfl⟩:=List.getElem_of_mem hd
   have hx : i < its.length:=by rw [<-v.length,r.1]; exact hi
   exact ⟨its[i],List.getElem_mem hx,decide_eq_true ⟨i,_,List.getElem?_eq_getElem hx,List.getElem?_eq_getElem hi,h⟩⟩
theorem cT (hG : G.K = X.K) (hu : X.A.units + 64 < cLine) : OpR X (compareOp .In) (rInP G false):=by
 intro pins s σ H x y v u Q I rx ry h
 obtain ⟨A,as,ds,r1,r2,hk,k⟩:=h
 obtain ⟨c,ys,rfl,h2,q2⟩:=r2.lst
 cases ry
 obtain ⟨jts,v2,p2,_⟩:=I.list (by rw [<-hG]; exact h2)
 obtain ⟨e,he,ea⟩:=Xe hG hu I r1 rx q2 v2 hk
 exact SeqAt.in_listAt e p2.isList he ⟨.bl _,H,I,rfl,by rw [ea]; exact k⟩
theorem Y8 (hG : G.K = X.K) (hu : X.A.units + 64 < cLine) : OpR X (compareOp .NotIn) (rInP G true):=by
 intro pins s σ H x y v u Q I rx ry h
 obtain ⟨A,as,ds,r1,r2,hk,k⟩:=h
 obtain ⟨c,ys,rfl,h2,q2⟩:=r2.lst
 cases ry
 obtain ⟨jts,v2,p2,_⟩:=I.list (by rw [<-hG]; exact h2)
 obtain ⟨e,he,ea⟩:=Xe hG hu I r1 rx q2 v2 hk
 exact SeqAt.notIn_listAt e p2.isList he ⟨.bl _,H,I,rfl,by rw [ea]; exact k⟩
def inF (neg : Bool) (x y : D) : Option D:=match x,y with
 | .tup as,.lst ds => if ds.all (knows (.tup as)) = true then some (.bl (if neg then !ds.any (eqTo (.tup as)) else ds.any (eqTo (.tup as)))) else none
 | x,y => inE neg x y
theorem Su (neg : Bool) : Cw G (fun x y H Q => (rInA G.K neg x y H Q ∨ rDIn neg x y H Q) ∨ rInP G neg x y H Q) (inF neg):=by
 intro A H x y dx dy d Q lv rx ry h k
 unfold inF at h
 split at h
 ·split at h
  ·rename_i hk
   cases h
   exact .inr ⟨A,_,_,rx,ry,hk,k _ H (Same.refl H) (.bl _)⟩
  ·cases h
 ·exact .inl (iT neg A H x y _ _ d Q lv rx ry h k)
end
end PV
namespace PySem
open PySem.Spec
theorem cU {prog : Program} {w : World} {A : Around} {E : Value->Shared->Prop} {s : Shared} {Q : Value->Shared->Prop}
  (h : ∀ h' e,(∀ b o,s.heap.get? b = some o->h'.get? b = some o)->Shared.TypeIs { s with heap:=h' } (.ref e) "StopIteration"->Q (.ref e) { s with heap:=h' }) : wpAny (model prog w) A (newExc (.type "StopIteration") []) Q E s:=by
 unfold newExc newTuple
 wp_walk
 exact h _ _ (fun b o e => Heap.get?_push_of_some _ (Heap.get?_push_of_some _ e)) ⟨_,Heap.get?_push_size _ rfl,rfl⟩
theorem cV (it d : Addr) (i ep : Nat) (es : Array DictEntry) (od : Obj) (hod : od.data = .dict es ep) (hi : i < es.size) :
  Meets (Builtin.«dict_keyiterator.__next__» ⟨[.ref it],[]⟩) (fun _ R s => s.heap.get? it = some { cls:=.type "dict_keyiterator",data:=.fields #[.ref d,.int i 0,.int es.size 0,.int ep 0] }/\s.heap.get? d = some od/\R (.ok (.ret (es[i]'hi).key)) { s with heap:=s.heap.update it (Obj.mapFields (·.setIfInBounds 1 (rawInt ((i : Int) + 1)))),toks:=s.toks }):=
 .of_wp fun prog w A R s h => by
  obtain ⟨hp,g,dr,tk,os⟩:=s
  obtain ⟨h1,h2,h⟩:=h
  wp_walk using wpAny_dictEntries h2 hod,wpAny_dictEpoch h2 hod,wpAny_fieldsOf h1 rfl,wpAny_setField h1 rfl
  have e0 : (if (i : Int) < 0 then none else es[(i : Int).toNat]?) = some (es[i]'hi):=by rw [if_neg (by omega),Int.toNat_natCast,Array.getElem?_eq_getElem hi]
  rw [e0]
  dsimp only
  wp_walk using wpAny_setField h1 rfl
  ·rw [if_neg (show ¬ Builtin.Dict_items.ownsTuple ((Manifest.find? "dict_keyiterator").elim "dict_keyiterator" fun x => x.tpName) = true by decide +kernel)]
   show 1 < 4
   decide
  ·rw [if_neg (show ¬ Builtin.Dict_items.ownsTuple ((Manifest.find? "dict_keyiterator").elim "dict_keyiterator" fun x => x.tpName) = true by decide +kernel)]
   rw [if_neg]
   case hnc => decide +kernel
   rw [Nat.zero_add]
   have ti : Shared.TypeIs { heap:=hp.update it (Obj.mapFields fun x => x.setIfInBounds 1 (rawInt ((i : Int) + 1))),gens:=g,drawn:=dr,toks:=tk,os:=os } (.ref it) "dict_keyiterator":=
    ⟨_,Heap.get?_update_self _ h1 (Obj.isFreed_of_fields (Obj.data_mapFields rfl _)),Obj.cls_mapFields ..⟩
   wp_walk using wpAny_isOneOf_keyiter ti
   exact ⟨_,rfl,h⟩
theorem V1 {prog : Program} {w : World} {A : Around} {E : Value->Shared->Prop} {s : Shared} {it d : Addr} {i ep : Nat} {es : Array DictEntry} {od : Obj} {Q : Option Value->Shared->Prop} (hod : od.data = .dict es ep) (hi : i < es.size)
  (h1 : s.heap.get? it = some { cls:=.type "dict_keyiterator",data:=.fields #[.ref d,.int i 0,.int es.size 0,.int ep 0] }) (h2 : s.heap.get? d = some od)
  (h : Q (some (es[i]'hi).key) { s with heap:=s.heap.update it (Obj.mapFields (·.setIfInBounds 1 (rawInt ((i : Int) + 1)))) }) : wpAny (model prog w) A (pyNext (.ref it)) Q E s:=by
 have ti : s.TypeIs (.ref it) "dict_keyiterator":=⟨_,h1,rfl⟩
 unfold pyNext
 refine wpAny_bind (wpAny_attempt (wpAny_callSpecial?_slot (name:=Str.ofString "__next__") ti F.slot_dict_keyiterator_next ?_))
 refine call_meets F.slot_dict_keyiterator_next ti F.entry_dict_keyiterator_next (F.args_dict_keyiterator_next_1 _) (cV it d i ep es od hod hi) ⟨h1,h2,?_⟩
 exact wpAny_pure h
theorem Qp {prog : Program} {w : World} {A : Around} {E : Value->Shared->Prop} {s : Shared} {it d : Addr} {i ep : Nat} {es : Array DictEntry} {od : Obj} {Q : Option Value->Shared->Prop} (hh : A.handled = none) (hod : od.data = .dict es ep) (hi : es.size<=i)
  (h1 : s.heap.get? it = some { cls:=.type "dict_keyiterator",data:=.fields #[.ref d,.int i 0,.int es.size 0,.int ep 0] }) (h2 : s.heap.get? d = some od)
  (h : ∀ h',Heap.ExtBut it s.heap h'->Q none { s with heap:=h' }) : wpAny (model prog w) A (pyNext (.ref it)) Q E s:=by
 have ti : s.TypeIs (.ref it) "dict_keyiterator":=⟨_,h1,rfl⟩
 unfold pyNext
 refine wpAny_bind (wpAny_attempt (wpAny_callSpecial?_slot (name:=Str.ofString "__next__") ti F.slot_dict_keyiterator_next
  (wpAny_call_entry F.slot_dict_keyiterator_next ti F.entry_dict_keyiterator_next ?_ (F.args_dict_keyiterator_next_1 _))))
 have hh1 : A.in1.handled = none:=hh
 wp_walk using wpAny_dictEntries h2 hod,wpAny_dictEpoch h2 hod,wpAny_fieldsOf h1 rfl,wpAny_setField h1 rfl
 have e0 : (if (i : Int) < 0 then none else es[(i : Int).toNat]?) = none:=by rw [if_neg (by omega),Int.toNat_natCast,Array.getElem?_eq_none hi]
 rw [e0]
 dsimp only
 wp_walk using wpAny_setField h1 rfl
 ·rw [if_neg (show ¬ Builtin.Dict_items.ownsTuple ((Manifest.find? "dict_keyiterator").elim "dict_keyiterator" fun x => x.tpName) = true by decide +kernel)]
  show 0 < 4
  decide
 ·refine wpAny_bind ?_
  refine cU fun h' e kp ty => wpAny_raiseNew_none hh1 ?_
  refine wpAny_bind (wpAny_isInstance ty isSubtype_stop (wpAny_pure (h h' fun b o hb z => kp b o ?_)))
  exact ((Heap.SameBut.update ..).2 b hb).trans z
end PySem
namespace PySem
open PySem.Spec
theorem V2 {prog : Program} {w : World} {A : Around} {E : Value->Shared->Prop} {s : Shared} {d : Addr} {ep : Nat} {es : Array DictEntry} {od : Obj} {Q : Value->Shared->Prop} (hd : (d == sysModules) = false) (hx : od.ExactDict) (hod : od.data = .dict es ep) (h2 : s.heap.get? d = some od)
  (h : Q (.ref s.heap.objs.size) { s with heap:=s.heap.push { cls:=.type "dict_keyiterator",data:=.fields #[.ref d,.int 0 0,.int es.size 0,.int ep 0] } }) : wpAny (model prog w) A (pyIter (.ref d)) Q E s:=by
 have ti : s.TypeIs (.ref d) "dict":=⟨_,h2,hx.1⟩
 refine wpAny_pyIter_slot ti F.slot_dict_iter (wpAny_call_entry F.slot_dict_iter ti F.entry_dict_iter ?_ (F.args_dict_iter_1 _))
 unfold Builtin.«dict.__iter__»
 wp_walk using wpAny_dictEntries h2 hod,wpAny_dictEpoch h2 hod,wpAny_notOrdered_dict ti
 exact ⟨_,rfl, "dict_keyiterator",_,⟨_,Heap.get?_push_size _ rfl,rfl⟩,F.slot_dict_keyiterator_next.lookup,h⟩
end PySem
namespace PV
open PySem PySem.Spec L2
open PyProof.Rows hiding St
section
variable {G : Gx} {x : Addr} {H : Hp}
theorem Top.sub {A B : List Addr} {a : Addr} {d : D} (t : Top G B H a d) (h : ∀ a ∈ A,a ∈ B) : Top G A H a d:=by
 cases d with
 | lst ds => obtain ⟨xs,q1,q2⟩:=t; exact ⟨xs,q1,q2.mono (Gk h)⟩
 | dk ds => obtain ⟨xs,q1,q2,q3⟩:=t; exact ⟨xs,q1,q2,q3.mono (Gk h)⟩
 | dt ds => obtain ⟨xs,q1,q2,q3⟩:=t; exact ⟨xs,q1,q2,q3.mono (Gk h)⟩
 | ob c gs => obtain ⟨C,dx,xs,q1,q2,q3⟩:=t; exact ⟨C,dx,xs,q1,q2,q3.mono (Gk h)⟩
 | _ => exact t.elim
def Oo (x : Addr) (H H' : Hp) : Prop:=∀ b o,b ≠ x->H b = some o->H' b = some o
theorem JM {A : List Addr} {H' : Hp} (hx : x ∈ A) (s : Oo x H H') : Same (hid A H) (hid A H'):=fun b o h => by
 unfold hid at h ⊢
 split at h
 ·cases h
 ·rename_i hb; rw [if_neg hb]; exact s b o (fun z => hb (z ▸ hx)) h
theorem Top.other {A : List Addr} {H' : Hp} {q : Addr} {d : D} (t : Top G A H q d) (nq : q ≠ x) (hx : x ∈ A) (s : Oo x H H') : Top G A H' q d:=by
 have sm:=JM hx s
 cases d with
 | lst ds => obtain ⟨xs,q1,q2⟩:=t; exact ⟨xs,s _ _ nq q1,q2.mono sm⟩
 | dk ds => obtain ⟨xs,q1,q2,q3⟩:=t; exact ⟨xs,s _ _ nq q1,q2,q3.mono sm⟩
 | dt ds => obtain ⟨xs,q1,q2,q3⟩:=t; exact ⟨xs,s _ _ nq q1,q2,q3.mono sm⟩
 | ob c gs => obtain ⟨C,dx,xs,q1,q2,q3⟩:=t; exact ⟨C,dx,xs,s _ _ nq q1,q2,q3.mono sm⟩
 | _ => exact t.elim
end
section
variable {X : Cx} {G : Gx} {a b c : Expr} {fa fb fc : FE} {pos p2 px rp p apos : Pos} {es : List Expr} {fs : FA} {h : FZ} {hs : FZA}
end
end PV
namespace PV
open PySem L2
abbrev Ef:=List (Str × Bool × D)
abbrev FEs:=Rho->Ef->Option (Rho × Ef)
abbrev FTE:=Rho->Ef->Option Bool
def noOw (ρ : Rho) : Bool:=ρ.all fun z => match z with | .ow _ => false | _ => true
def pureE (g : FS) : FEs:=fun ρ ε => match g ρ with | some (.nx ρ') => if noOw ρ' = true then some (ρ',ε) else none | _ => none
def Xf (f : Str) (fe : FE) : FEs:=fun ρ ε => (fe ρ).bind fun d => if (ε.lookup f).isNone = true/\ε.length < 1000 then some (ρ,ε ++ [(f,false,d)]) else none
def Oq (f : Str) (fe : FE) : FEs:=fun ρ ε => (fe ρ).bind fun d => if (ε.lookup f).isNone = true/\ε.length < 1000 then some (ρ,ε ++ [(f,true,d)]) else none
def repE (f : Str) (d : D) : Ef->Ef
 | [] => []
 | (g,b,x) :: r => if g = f then (g,b,d) :: r else (g,b,x) :: repE f d r
def Ot (f : Str) (fk fv : FE) : FEs:=fun ρ ε => (fv ρ).bind fun v => (fk ρ).bind fun k => match ε.lookup f with | some (true,d) => (CG d k v).map fun d' => (ρ,repE f d' ε) | _ => none
def QD (t : FT) : FTE:=fun ρ _ => t ρ
def inTE (f : Str) (fk : FE) : FTE:=fun ρ ε => (fk ρ).bind fun k => match ε.lookup f with | some (true,.dk kds) => (keyD k).map fun q => (getK q kds).isSome | _ => none
def orTE (a b : FTE) : FTE:=fun ρ ε => match a ρ ε with | some true => some true | some false => b ρ ε | none => none
def ifE (t : FTE) : FEs:=fun ρ ε => match t ρ ε with | some false => some (ρ,ε) | _ => none
def nilE : FEs:=fun ρ ε => some (ρ,ε)
def Hd (g gs : FEs) : FEs:=fun ρ ε => (g ρ ε).bind fun r => gs r.1 r.2
def Hv (tg : FG) (b : FEs) : List D->FEs
 | [],ρ,ε => some (ρ,ε)
 | d :: r,ρ,ε => (tg d ρ).bind fun ρ1 => if noOw ρ1 = true then (b ρ1 ε).bind fun q => Hv tg b r q.1 q.2 else none
def forE (src : FI) (tg : FG) (b : FEs) : FEs:=fun ρ ε => (src ρ).bind fun ds => Hv tg b ds ρ ε
def Sv (n : Nat) (x : Addr) (ds : List D) : Rho:=Fb n (.adr x :: ds)
def runI (n np : Nat) (b : FEs) (x : Addr) (ds : List D) : Option Ef:=if ds.length + 1 = np then (b (Sv n x ds) []).map (·.2) else none
def finE (c : Str) (ε : Ef) : D:=.ob c (ε.map fun p => (p.1,p.2.2))
open Classical in
noncomputable def mkI (c : Str) (g : Addr->List D->Option Ef) (fs : FA) : FE:=fun ρ => (fs ρ).bind fun ds => (g 0 ds).bind fun ε => if ∀ x,g x ds = some ε then some (finE c ε) else none
end PV
namespace PV
open PySem PySem.Spec L2
open PyProof.Rows hiding St
theorem Cg {ρ : Rho} (h : noOw ρ = true) (i : Nat) (d : D) : ρ[i]? ≠ some (.ow d):=fun e => by
 unfold noOw at h
 rw [List.all_eq_true] at h
 have:=h _ (List.mem_of_getElem? e)
 cases this
inductive FsOk (G : Gx) (A0 A : List Addr) (H : Hp) (x : Addr) : List (Str × V)->Ef->List Addr->Prop
 | nil : FsOk G A0 A H x [] [] []
 | pl {f : Str} {v : V} {d : D} {fs : List (Str × V)} {ε : Ef} {as : List Addr} : Rep G (hid A H) v d->FsOk G A0 A H x fs ε as->FsOk G A0 A H x ((f,v) :: fs) ((f,false,d) :: ε) as
 | ow {f : Str} {a : Addr} {d : D} {fs : List (Str × V)} {ε : Ef} {as : List Addr} : a ∈ A->a ∉ A0->a ≠ x->a ∉ as->Top G A H a d->FsOk G A0 A H x fs ε as->FsOk G A0 A H x ((f,.ref a) :: fs) ((f,true,d) :: ε) (a :: as)
section
variable {G : Gx} {A0 A A' : List Addr} {H H' : Hp} {x : Addr} {fs : List (Str × V)} {ε : Ef} {as : List Addr}
theorem FsOk.mp (h : FsOk G A0 A H x fs ε as) (r : ∀ v d,Rep G (hid A H) v d->Rep G (hid A' H') v d) (t : ∀ a ∈ as,∀ d,Top G A H a d->Top G A' H' a d) (s : ∀ a ∈ as,a ∈ A->a ∈ A') : FsOk G A0 A' H' x fs ε as:=by
 induction h with
 | nil => exact .nil
 | pl rv _ ih => exact .pl (r _ _ rv) (ih t s)
 | ow h1 h2 h3 h4 h5 _ ih => exact .ow (s _ List.mem_cons_self h1) h2 h3 h4 (t _ List.mem_cons_self _ h5) (ih (fun a ha => t a (List.mem_cons_of_mem _ ha)) (fun a ha => s a (List.mem_cons_of_mem _ ha)))
theorem FsOk.names (h : FsOk G A0 A H x fs ε as) : fs.map (·.1) = ε.map (·.1):=by
 induction h with
 | nil => rfl
 | pl _ _ ih => simp [ih]
 | ow _ _ _ _ _ _ ih => simp [ih]
theorem FsOk.len (h : FsOk G A0 A H x fs ε as) : fs.length = ε.length:=by
 have:=congrArg List.length h.names
 simpa using this
theorem FsOk.ne (h : FsOk G A0 A H x fs ε as) : ∀ a ∈ as,a ∈ A/\a ∉ A0/\a ≠ x:=by
 induction h with
 | nil => intro a ha; cases ha
 | pl _ _ ih => exact ih
 | ow h1 h2 h3 _ _ _ ih =>
  intro a ha
  rcases List.mem_cons.mp ha with z | z
  ·subst z; exact ⟨h1,h2,h3⟩
  ·exact ih a z
theorem N_ {f : Str} {v : V} : ∀ {fs : List (Str × V)},fs.lookup f = none->L2.putF f v fs = fs ++ [(f,v)]
 | [],_ => rfl
 | (g,y) :: r,h => by
  by_cases hf : f = g
  ·subst hf; simp [List.lookup_cons] at h
  ·have hb : (f == g) = false:=beq_eq_false_iff_ne.mpr hf
   simp only [List.lookup_cons,hb] at h
   show (if g = f then (g,v) :: r else (g,y) :: L2.putF f v r) = _
   rw [if_neg (fun z => hf z.symm),N_ h]
   rfl
theorem FsOk.none {f : Str} (h : FsOk G A0 A H x fs ε as) (e : ε.lookup f = none) : fs.lookup f = none:=by
 induction h with
 | nil => rfl
 | @pl g v d fs ε as _ _ ih =>
  by_cases hf : f = g
  ·subst hf; simp [List.lookup_cons] at e
  ·have hb : (f == g) = false:=beq_eq_false_iff_ne.mpr hf
   simp only [List.lookup_cons,hb] at e ⊢
   exact ih e
 | @ow g a d fs ε as _ _ _ _ _ _ ih =>
  by_cases hf : f = g
  ·subst hf; simp [List.lookup_cons] at e
  ·have hb : (f == g) = false:=beq_eq_false_iff_ne.mpr hf
   simp only [List.lookup_cons,hb] at e ⊢
   exact ih e
theorem FsOk.snocP {f : Str} {v : V} {d : D} (h : FsOk G A0 A H x fs ε as) (r : Rep G (hid A H) v d) : FsOk G A0 A H x (fs ++ [(f,v)]) (ε ++ [(f,false,d)]) as:=by
 induction h with
 | nil => exact .pl r .nil
 | pl rv _ ih => exact .pl rv ih
 | ow h1 h2 h3 h4 h5 _ ih => exact .ow h1 h2 h3 h4 h5 ih
theorem FsOk.snocO {f : Str} {a : Addr} {d : D} (h : FsOk G A0 A H x fs ε as) (h1 : a ∈ A) (h2 : a ∉ A0) (h3 : a ≠ x) (h4 : a ∉ as) (t : Top G A H a d) : FsOk G A0 A H x (fs ++ [(f,.ref a)]) (ε ++ [(f,true,d)]) (as ++ [a]):=by
 induction h with
 | nil => exact .ow h1 h2 h3 (fun z => nomatch z) t .nil
 | pl rv _ ih => exact .pl rv (ih h4)
 | @ow g b e fs ε as q1 q2 q3 q4 q5 _ ih =>
  have hb : a ≠ b:=fun z => h4 (by simp [z])
  refine .ow q1 q2 q3 (fun z => ?_) q5 (ih fun z => h4 (List.mem_cons_of_mem _ z))
  rcases List.mem_append.mp z with z | z
  ·exact q4 z
  ·simp at z; exact hb z.symm
theorem FsOk.get {f : Str} {d : D} (h : FsOk G A0 A H x fs ε as) (e : ε.lookup f = some (true,d)) : ∃ a,fs.lookup f = some (.ref a)/\a ∈ as/\a ∈ A/\a ∉ A0/\a ≠ x/\Top G A H a d:=by
 induction h with
 | nil => cases e
 | @pl g v d' fs ε as _ _ ih =>
  by_cases hf : f = g
  ·subst hf; simp [List.lookup_cons] at e
  ·have hb : (f == g) = false:=beq_eq_false_iff_ne.mpr hf
   simp only [List.lookup_cons,hb] at e ⊢
   exact ih e
 | @ow g a d' fs ε as h1 h2 h3 _ h5 _ ih =>
  by_cases hf : f = g
  ·subst hf
   simp only [List.lookup_cons,beq_self_eq_true,Option.some.injEq,Prod.mk.injEq,true_and] at e ⊢
   subst e
   exact ⟨a,rfl,List.mem_cons_self,h1,h2,h3,h5⟩
  ·have hb : (f == g) = false:=beq_eq_false_iff_ne.mpr hf
   simp only [List.lookup_cons,hb] at e ⊢
   obtain ⟨a',q1,q2,q3⟩:=ih e
   exact ⟨a',q1,List.mem_cons_of_mem _ q2,q3⟩
theorem FsOk.wr {f : Str} {d d' : D} {a : Addr} (h : FsOk G A0 A H x fs ε as) (e : ε.lookup f = some (true,d)) (ea : fs.lookup f = some (.ref a)) (sx : Oo a H H') (hA : a ∈ A) (t : Top G A H' a d') : FsOk G A0 A H' x fs (repE f d' ε) as:=by
 have sm:=JM hA sx
 induction h with
 | nil => cases e
 | @pl g v d2 fs ε as rv hr ih =>
  by_cases hf : f = g
  ·subst hf; simp [List.lookup_cons] at e
  ·have hb : (f == g) = false:=beq_eq_false_iff_ne.mpr hf
   simp only [List.lookup_cons,hb] at e ea
   unfold repE
   rw [if_neg (fun z => hf z.symm)]
   exact .pl (rv.mono sm) (ih e ea)
 | @ow g b d2 fs ε as h1 h2 h3 h4 h5 hr ih =>
  by_cases hf : f = g
  ·subst hf
   simp only [List.lookup_cons,beq_self_eq_true,Option.some.injEq,V.ref.injEq] at ea
   subst ea
   unfold repE
   rw [if_pos rfl]
   refine .ow h1 h2 h3 h4 t (hr.mp (fun v d r => r.mono sm) (fun c hc d t' => t'.other (fun z => h4 (by rw [<-z]; exact hc)) hA sx) fun _ _ z => z)
  ·have hb : (f == g) = false:=beq_eq_false_iff_ne.mpr hf
   simp only [List.lookup_cons,hb] at e ea
   obtain ⟨a',q1,q2,_⟩:=hr.get e
   rw [ea] at q1
   cases q1
   unfold repE
   rw [if_neg (fun z => hf z.symm)]
   exact .ow h1 h2 h3 h4 (h5.other (fun z => h4 (z ▸ q2)) hA sx) (ih e ea)
end
structure EOk (G : Gx) (c : Str) (A0 : List Addr) (He : Hp) (x : Addr) (A : List Addr) (σ : St) (H : Hp) (ρ : Rho) (ε : Ef) : Prop where
 w : OkW G A0 He A σ H ρ
 no : noOw ρ = true
 xA : x ∈ A
 x0 : x ∉ A0
 s0 : ρ[0]? = some (.fz (.adr x))
 ob : ∃ C dx fs as,H x = some (.ins C dx fs)/\G.cl c = some C/\FsOk G A0 A H x fs ε as
def EOkS (G : Gx) (c : Str) (A0 : List Addr) (He : Hp) (x : Addr) (σ : St) (H : Hp) (ρ : Rho) (ε : Ef) : Prop:=∃ A,EOk G c A0 He x A σ H ρ ε
section
variable {G : Gx} {c : Str} {A0 : List Addr} {He : Hp} {x : Addr} {A : List Addr} {σ : St} {H H' : Hp} {ρ : Rho} {ε : Ef}
theorem EOk.at0 (o : EOk G c A0 He x A σ H ρ ε) : σ[0]? = some (some (.ref x)):=by
 obtain ⟨v,h1,h2⟩:=o.w.ok.fz 0 _ o.s0
 cases h2
 exact h1
theorem EOk.mono (o : EOk G c A0 He x A σ H ρ ε) (s : Same H H') : EOk G c A0 He x A σ H' ρ ε:=by
 obtain ⟨C,dx,fs,as,h1,h2,h3⟩:=o.ob
 exact ⟨o.w.mono s,o.no,o.xA,o.x0,o.s0,C,dx,fs,as,s _ _ h1,h2,h3.mp (fun v d r => r.mono (Ao s)) (fun a ha d t => t.mono s) fun _ _ z => z⟩
theorem cW {B : List Addr} (s : Same H H') (fr : ∀ a ∈ B,a ∈ A ∨ H a = none) : Same (hid A H) (hid B H'):=fun b u h => by
 unfold hid at h
 split at h
 ·cases h
 ·rename_i hb
  rw [Bv]
  ·exact s b u h
  ·intro z
   rcases fr b z with q | q
   ·exact hb q
   ·rw [q] at h; cases h
theorem Top.plain {B : List Addr} {a : Addr} {d : D} (t : Top G A H a d) (s : Same H H') (p : Same (hid A H) (hid B H')) : Top G B H' a d:=by
 cases d with
 | lst ds => obtain ⟨xs,q1,q2⟩:=t; exact ⟨xs,s _ _ q1,q2.mono p⟩
 | dk ds => obtain ⟨xs,q1,q2,q3⟩:=t; exact ⟨xs,s _ _ q1,q2,q3.mono p⟩
 | dt ds => obtain ⟨xs,q1,q2,q3⟩:=t; exact ⟨xs,s _ _ q1,q2,q3.mono p⟩
 | ob c gs => obtain ⟨C,dx,xs,q1,q2,q3⟩:=t; exact ⟨C,dx,xs,s _ _ q1,q2,q3.mono p⟩
 | _ => exact t.elim
theorem EOk.frame (o : EOk G c A0 He x A σ H ρ ε) : OkS G A H σ H ρ:=⟨A,Same.refl H,fun _ h => h,fun a h => .inl h,fun a ha => (o.w.ok.live a ha).ne,o.w.ok,fun i d a h _ => absurd h (Cg o.no i d),fun y d _ h => absurd h (Cg o.no 0 d)⟩
theorem EOk.unframe {σ' : St} {ρ' : Rho} (o : EOk G c A0 He x A σ H ρ ε) (w : OkS G A H σ' H' ρ') (no : noOw ρ' = true) (s0 : ρ'[0]? = some (.fz (.adr x))) : EOkS G c A0 He x σ' H' ρ' ε:=by
 obtain ⟨B,w⟩:=w
 have pl : Same (hid A H) (hid B H'):=cW w.same w.fr
 obtain ⟨C,dx,fs,as,h1,h2,h3⟩:=o.ob
 refine ⟨B,⟨o.w.same.trans w.same,fun a ha => w.sub a (o.w.sub a ha),fun a ha => ?_,o.w.l0,w.ok,fun i d a h _ => absurd h (Cg no i d),fun y d _ h => absurd h (Cg no 0 d)⟩,no,w.sub x o.xA,o.x0,s0,C,dx,fs,as,w.same _ _ h1,h2,h3.mp (fun v d r => r.mono pl) (fun a ha d t => t.plain w.same pl) fun a _ ha => w.sub a ha⟩
 rcases w.fr a ha with q | q
 ·exact o.w.fr a q
 ·exact .inr (o.w.same.free q)
theorem EOk.wr {p : Addr} {ε' : Ef} (o : EOk G c A0 He x A σ H ρ ε) (hp : p ∈ A) (h0 : p ∉ A0) (sx : Oo p H H') (lv : Nt (H' p)) (ob : ∃ C dx fs as,H' x = some (.ins C dx fs)/\G.cl c = some C/\FsOk G A0 A H' x fs ε' as) : EOk G c A0 He x A σ H' ρ ε':=by
 have hep : He p = none:=(o.w.fr p hp).resolve_left h0
 have sm:=JM hp sx
 refine ⟨⟨fun b u h => sx b u (Ck h hep) (o.w.same b u h),o.w.sub,o.w.fr,o.w.l0,⟨o.w.ok.len,fun b hb => ?_,fun j e h => ?_,fun j e h => absurd h (Cg o.no j e),fun i j d e a h _ _ _ => absurd h (Cg o.no i d)⟩,fun i d a h _ => absurd h (Cg o.no i d),fun y d _ h => absurd h (Cg o.no 0 d)⟩,o.no,o.xA,o.x0,o.s0,ob⟩
 ·by_cases z : b = p
  ·rw [z]; exact lv
  ·exact (o.w.ok.live b hb).mono fun u e => sx b u z e
 ·obtain ⟨v,q1,q2⟩:=o.w.ok.fz j e h
  exact ⟨v,q1,q2.mono sm⟩
end
def tE (G : Gx) (c : Str) (A0 : List Addr) (He : Hp) (x : Addr) (g : FEs) : TS:=fun D σ H => ∃ ρ ε r,EOkS G c A0 He x σ H ρ ε/\g ρ ε = some r/\∀ σ' H',EOkS G c A0 He x σ' H' r.1 r.2->D.nx σ' H'
def PSE (X : Cx) (G : Gx) (c : Str) (st : Stmt) (g : FEs) : Prop:=∀ A0 He x,PS X st (tE G c A0 He x g)
def PSEs (X : Cx) (G : Gx) (c : Str) (st : List Stmt) (g : FEs) : Prop:=∀ A0 He x,PSs X st (tE G c A0 He x g)
def tTE (G : Gx) (c : Str) (A0 : List Addr) (He : Hp) (x : Addr) (t : FTE) : TT:=fun σ H Q => ∃ A ρ ε b,EOk G c A0 He x A σ H ρ ε/\t ρ ε = some b/\∀ H',Same H H'->Q b H'
def PTE (X : Cx) (G : Gx) (c : Str) (e : Expr) (t : FTE) : Prop:=∀ A0 He x,PT X e (tTE G c A0 He x t)
def PWE (X : Cx) (G : Gx) (c : Str) (e : Expr) (t : FTE) : Prop:=∀ A0 He x,PW X e (tTE G c A0 He x t)
section
variable {X : Cx} {G : Gx} {c : Str} {a b e k it tg : Expr} {fa fb fk : FE} {pos p2 p px : Pos} {st : Stmt} {rest body : List Stmt} {g gs : FEs} {gp : FS} {ta tb : FTE} {tp : FT}
theorem Ua (h1 : PSE X G c st g) (h2 : PSEs X G c rest gs) : PSEs X G c (st :: rest) (Hd g gs):=fun A0 He x pins s σ H D I ⟨ρ,ε,r,o,e,k⟩ => by
 refine PX (h1 A0 He x) (h2 A0 He x) pins s σ H D I ?_
 unfold Hd at e
 cases e1 : g ρ ε with
 | none => simp [e1] at e
 | some q =>
  simp only [e1,Option.bind_some] at e
  exact ⟨ρ,ε,q,o,e1,fun σ' H' o' => ⟨q.1,q.2,r,o',e,k⟩⟩
theorem Xg (h1 : PSE X G c st g) : PSEs X G c [st] g:=fun A0 He x => WN (h1 A0 He x)
theorem QF (h : PSD X G st gp) (hk : ∀ ρ ρ',gp ρ = some (.nx ρ')->ρ'[0]? = ρ[0]?) : PSE X G c st (pureE gp):=fun A0 He x pins s σ H D I ⟨ρ,ε,r,⟨A,o⟩,e,k⟩ => by
 unfold pureE at e
 split at e
 ·rename_i ρ' e1
  split at e
  ·rename_i no
   cases e
   refine h A H pins s σ H D I ⟨ρ,_,o.frame,e1,fun σ' H' w => k σ' H' (o.unframe w no (by rw [hk ρ ρ' e1]; exact o.s0))⟩
  ·cases e
 ·cases e
theorem Ub (h : PFT X G e tp) : PTE X G c e (QD tp):=fun A0 He x => fun pins s σ H Q I ⟨A,ρ,ε,b,o,e,k⟩ => h A pins s σ H Q I ⟨ρ,b,o.w.ok,e,k⟩
theorem ir (h : PTE X G c a ta) : PWE X G c (.BoolOp .Or [a] pos) ta:=fun A0 He x => Za (h A0 He x)
theorem oA {rest : List Expr} (ha : PTE X G c a ta) (hb : PWE X G c (.BoolOp .Or (b :: rest) pos) tb) : PWE X G c (.BoolOp .Or (a :: b :: rest) pos) (orTE ta tb):=fun A0 He x => bJ (jZ (ha A0 He x) (hb A0 He x)) fun σ H Q ⟨A,ρ,ε,d,o,e,k⟩ => by
 unfold orTE at e
 split at e
 ·rename_i e1
  cases e
  exact ⟨A,ρ,ε,_,o,e1,fun H1 s1 => iteT (k H1 s1)⟩
 ·rename_i e1
  exact ⟨A,ρ,ε,_,o,e1,fun H1 s1 => iteF ⟨A,ρ,ε,d,o.mono s1,e,fun H2 s2 => k H2 (s1.trans s2)⟩⟩
 ·cases e
theorem PWE.pt (h : PWE X G c a ta) : PTE X G c a ta:=fun A0 He x => (h A0 He x).pt
theorem oE {x f : Str} {ap : Pos} (hu : X.A.units + 1 < cLine) (hcl : ∀ c C,G.cl c = some C->Cls X.K C/\Ew X.K C f) (hv : PE X (.Name x px) (tVar 0)) (ha : PF X G a fa) (hb : attributeBase (.Name x px) f X.env (eval (.Name x px) X.env) = eval (.Name x px) X.env:=by rfl)
  (hm : behindInMarks .In (.Attribute (.Name x px) f ap) = false:=by rfl) : PTE X G c (.Compare a [.In] [.Attribute (.Name x px) f ap] pos) (inTE f fa):=fun A0 He y pins s σ H Q I ⟨A,ρ,ε,d,o,e,k⟩ => by
 refine WX (Vw hu) (ha A) (VN hv hb) hm pins s σ H Q I ?_
 unfold inTE at e
 cases e1 : fa ρ with
 | none => simp [e1] at e
 | some kd =>
  simp only [e1,Option.bind_some] at e
  split at e
  ·rename_i kds e2
   cases e3 : keyD kd with
   | none => simp [e3] at e
   | some q =>
    simp only [e3,Option.map_some] at e
    cases e
    refine ⟨ρ,kd,o.w.ok,e1,fun v H1 s1 r1 => ?_⟩
    obtain ⟨C,dx,fs,as,h1,h2,h3⟩:=(o.mono s1).ob
    obtain ⟨p,q1,q2,q3,q4,q5,kvs,t1,t2,t3⟩:=h3.get e2
    refine ⟨_,o.at0,y,C,dx,fs,_,rfl,h1,(hcl _ _ h2).1,(hcl _ _ h2).2,q1,p,kvs,q,rfl,.of t1,JL r1 e3,?_⟩
    rw [(Kq (k:=q) t2 t3).2]
    exact ⟨_,rfl,k H1 s1⟩
  ·cases e
theorem cX {s1 : List Stmt} (ht : PTE X G c e ta) (h1 : PSDs X G s1 badF) : PSE X G c (.If e s1 [] pos) (ifE ta):=fun A0 He x pins s σ H D I ⟨ρ,ε,r,⟨A,o⟩,e,k⟩ => by
 refine jb (ht A0 He x) (h1 A0 He) Rq pins s σ H D I ?_
 unfold ifE at e
 split at e
 ·rename_i e1
  cases e
  exact ⟨A,ρ,ε,_,o,e1,fun H1 s1 => iteF (k σ H1 ⟨A,o.mono s1⟩)⟩
 ·cases e
theorem cY {x f : Str} {pos' : Pos} (hcl : ∀ c C,G.cl c = some C->Cls X.K C/\Ew X.K C f) (hv : PE X (.Name x px) (tVar 0)) (ha : PF X G a fa) (hsw : swapsWith a (some (.Attribute (.Name x px) f pos')) pos.line X.env = pure false:=by rfl) :
  PSE X G c (.Assign [.Attribute (.Name x px) f pos'] a pos) (Xf f fa):=fun A0 He y pins s σ H D I ⟨ρ,ε,r,⟨A,o⟩,e,k⟩ => by
 refine Zn hv (ha A) hsw pins s σ H D I ?_
 unfold Xf at e
 cases e1 : fa ρ with
 | none => simp [e1] at e
 | some d =>
  simp only [e1,Option.bind_some] at e
  split at e
  ·rename_i hz
   cases e
   refine ⟨ρ,d,o.w.ok,e1,fun u H1 s1 r1 => ?_⟩
   have o1:=o.mono s1
   obtain ⟨C,dx,fs,as,h1,h2,h3⟩:=o1.ob
   have hn:=h3.none (Option.isNone_iff_eq_none.mp hz.1)
   refine ⟨_,o.at0,y,C,dx,fs,rfl,h1,(hcl _ _ h2).1,(hcl _ _ h2).2,by rw [h3.len]; exact hz.2,?_⟩
   rw [N_ hn]
   have sx : Oo y H1 (upd H1 y (.ins C dx (fs ++ [(f,u)]))):=fun b w hb hw => by rw [Al hb]; exact hw
   have sm:=JM o1.xA sx
   refine k _ _ ⟨A,o1.wr o1.xA o1.x0 sx (by rw [Aj]; exact Nt.ins) ⟨C,dx,_,as,Aj,h2,?_⟩⟩
   exact (h3.mp (fun v d r => r.mono sm) (fun p hp d t => t.other (h3.ne p hp).2.2 o1.xA sx) fun _ _ z => z).snocP (r1.mono sm)
  ·cases e
theorem Uc {x f : Str} {pos' : Pos} (hcl : ∀ c C,G.cl c = some C->Cls X.K C/\Ew X.K C f) (hv : PE X (.Name x px) (tVar 0)) (ha : PN X G a fa) (hsw : swapsWith a (some (.Attribute (.Name x px) f pos')) pos.line X.env = pure false:=by rfl) :
    PSE X G c (.Assign [.Attribute (.Name x px) f pos'] a pos) (Oq f fa):=fun A0 He y pins s σ H D I ⟨ρ,ε,r,⟨A,o⟩,e,k⟩ => by
  refine Zn hv (ha A) hsw pins s σ H D I ?_
  unfold Oq at e
  cases e1 : fa ρ with
  | none => simp [e1] at e
  | some d =>
    simp only [e1,Option.bind_some] at e
    split at e
    · rename_i hz
      cases e
      refine ⟨ρ,d,o.w.ok,e1,fun q H1 s1 hq t => ?_⟩
      obtain ⟨C,dx,fs,as,h1,h2,h3⟩:=o.ob
      have nqA : q ∉ A:=fun z => (o.w.ok.live q z).ne hq
      have pl : Same (hid A H) (hid (q :: A) H1):=JG s1 hq
      have hn:=h3.none (Option.isNone_iff_eq_none.mp hz.1)
      have nq0 : q ∉ A0:=fun z => nqA (o.w.sub q z)
      have nqy : q ≠ y:=fun z => nqA (z ▸ o.xA)
      have nqs : q ∉ as:=fun z => nqA (h3.ne q z).1
      have o1 : EOk G c A0 He y (q :: A) σ H1 ρ ε:=⟨⟨o.w.same.trans s1,fun a ha => List.mem_cons_of_mem _ (o.w.sub a ha),fun a ha => by
          rcases List.mem_cons.mp ha with z | z
          · rw [z]; exact .inr (o.w.same.free hq)
          · exact o.w.fr a z,o.w.l0,o.w.ok.fill s1 hq t.live,fun i d a h _ => absurd h (Cg o.no i d),fun y d _ h => absurd h (Cg o.no 0 d)⟩,o.no,List.mem_cons_of_mem _ o.xA,o.x0,o.s0,C,dx,fs,as,s1 _ _ h1,h2,
          h3.mp (fun v d r => r.mono pl) (fun p hp d t => t.plain s1 pl) fun p _ hp => List.mem_cons_of_mem _ hp⟩
      have g1:=s1 _ _ h1
      have g2:=h2
      have g3 : FsOk G A0 (q :: A) H1 y fs ε as:=h3.mp (fun v d r => r.mono pl) (fun p hp d t => t.plain s1 pl) fun p _ hp => List.mem_cons_of_mem _ hp
      have hn':=g3.none (Option.isNone_iff_eq_none.mp hz.1)
      refine ⟨_,o.at0,y,C,dx,fs,rfl,g1,(hcl _ _ g2).1,(hcl _ _ g2).2,by rw [g3.len]; exact hz.2,?_⟩
      rw [N_ hn']
      have sx : Oo y H1 (upd H1 y (.ins C dx (fs ++ [(f,.ref q)]))):=fun b w hb hw => by rw [Al hb]; exact hw
      have sm:=JM o1.xA sx
      refine k _ _ ⟨q :: A,o1.wr o1.xA o1.x0 sx (by rw [Aj]; exact Nt.ins) ⟨C,dx,_,as ++ [q],Aj,g2,?_⟩⟩
      exact (g3.mp (fun v d r => r.mono sm) (fun p hp d t => t.other (g3.ne p hp).2.2 o1.xA sx) fun _ _ z => z).snocO List.mem_cons_self nq0 nqy nqs (t.other nqy o1.xA sx)
    · cases e
theorem Ud {x f : Str} {ap spos : Pos} (hu : X.A.units + 1 < cLine) (hcl : ∀ c C,G.cl c = some C->Cls X.K C/\Ew X.K C f) (hv : PE X (.Name x px) (tVar 0)) (ha : PF X G a fa) (hb : PF X G b fb) (hbase : attributeBase (.Name x px) f X.env (eval (.Name x px) X.env) = eval (.Name x px) X.env:=by rfl)
  (hs : swapsWith b (some (.Subscript (.Attribute (.Name x px) f ap) a spos)) pos.line X.env = pure false:=by rfl) : PSE X G c (.Assign [.Subscript (.Attribute (.Name x px) f ap) a spos] b pos) (Ot f fa fb):=fun A0 He y pins s σ H D I ⟨ρ,ε,r,⟨A,o⟩,e,k⟩ => by
 refine Rx hu (VN hv hbase) (ha A) (hb A) hs pins s σ H D I ?_
 unfold Ot at e
 cases e1 : fb ρ with
 | none => simp [e1] at e
 | some v =>
  cases e2 : fa ρ with
  | none => simp [e1,e2] at e
  | some kd =>
   simp only [e1,e2,Option.bind_some] at e
   split at e
   ·rename_i d e3
    cases e4 : CG d kd v with
    | none => simp [e4] at e
    | some d' =>
     simp only [e4,Option.map_some] at e
     cases e
     unfold CG at e4
     split at e4
     ·rename_i kds
      cases e5 : keyD kd with
      | none => simp [e5] at e4
      | some q =>
       simp only [e5,Option.bind_some] at e4
       split at e4
       ·rename_i hz
        cases e4
        refine ⟨ρ,v,o.w.ok,e1,fun u H1 s1 r1 => ?_⟩
        have o1:=o.mono s1
        obtain ⟨C,dx,fs,as,h1,h2,h3⟩:=o1.ob
        obtain ⟨p,q1,q2,q3,q4,q5,kvs,t1,t2,t3⟩:=h3.get e3
        refine ⟨_,o.at0,y,C,dx,fs,_,rfl,h1,(hcl _ _ h2).1,(hcl _ _ h2).2,q1,ρ,kd,o1.w.ok,e2,fun yv H2 s2 r2 => ?_⟩
        have ek:=JL r2 e5
        subst ek
        have o2:=o1.mono s2
        obtain ⟨C',dx',fs',as',g1,g2,g3⟩:=o2.ob
        rw [s2 _ _ h1] at g1
        cases g1
        have hl : kvs.length < sizeLine:=by
         have:=congrArg List.length t2
         rw [List.length_map,List.length_map] at this
         omega
        refine ⟨p,_,rfl,DPut.k (s2 _ _ t1) hl,?_⟩
        have pk:=PB (k:=q) (r1.mono (Ao s2)) t2 (t3.mono (Ao s2))
        have sx : Oo p H2 (upd H2 p (.dK (putK kvs q u))):=fun b w hb hw => by rw [Al hb]; exact hw
        refine k _ _ ⟨A,o2.wr q3 q4 sx (by rw [Aj]; exact Nt.dK) ⟨C,dx,fs,as',by rw [Al (Ne.symm q5)]; exact s2 _ _ h1,g2,?_⟩⟩
        refine g3.wr e3 q1 sx q3 ⟨_,Aj,pk.1,?_⟩
        rw [Ba q3]
        exact pk.2
       ·cases e4
     ·cases e4
   ·cases e
theorem EOk.frameW {A0 : List Addr} {He : Hp} {x : Addr} {A : List Addr} {σ : St} {H : Hp} {ρ : Rho} {ε : Ef} (o : EOk G c A0 He x A σ H ρ ε) : OkW G A H A σ H ρ:=⟨Same.refl H,fun _ h => h,fun a h => .inl h,fun a ha => (o.w.ok.live a ha).ne,o.w.ok,fun i d a h _ => absurd h (Cg o.no i d),fun y d _ h => absurd h (Cg o.no 0 d)⟩
theorem Xh {src : FI} {fg : FG} {gb : FEs} (hp : PassesOwn (model X.prog X.w) X.A X.env X.xe) (hc : X.calm = true) (hi : PFI X G false tg it src) (hg : PGD X G tg fg) (hk : ∀ d ρ ρ',fg d ρ = some ρ'->ρ'[0]? = ρ[0]?) (hb : PSEs X G c body gb)
  (hs : ∀ x,foldedSetIterable it X.env x = pure x:=by intro _; rfl) : PSE X G c (.For tg it body [] pos) (forE src fg gb):=fun A0 He x pins s σ H D I ⟨ρ,ε,r,⟨A,o⟩,e,k⟩ => by
 cases e1 : src ρ with
 | none => simp [forE,e1] at e
 | some ds =>
  have e' : Hv fg gb ds ρ ε = some r:=by simpa [forE,e1] using e
  have hb' : PSs X body (fun D σ H => ∃ A0 He x,tE G c A0 He x gb D σ H):=fun pins s σ H D I ⟨A0,He,x,q⟩ => hb A0 He x pins s σ H D I q
  have hg' : PG X tg (fun v σ H Q => ∃ A0 He,tGD G A0 He fg v σ H Q):=fun pins s σ H v u Q I r ⟨A0,He,q⟩ => hg A0 He pins s σ H v u Q I r q
  refine Zh hp hc (hi A) hg' hb' hs pins s σ H D I ⟨ρ,ds,o.w.ok,e1,fun J H1 s1 sr => ?_⟩
  have o1:=o.mono s1
  obtain ⟨sHe,w2⟩:=o1.w.here
  generalize hHf : hid (A.filter fun a => decide (a ∉ A0)) H1 = Hf at sHe w2
  have k2 : ∀ σ' H',EOkS G c A0 Hf x σ' H' r.1 r.2->D.nx σ' H':=fun σ' H' ⟨B,q⟩ => k σ' H' ⟨B,q.w.base sHe o.w.l0,q.no,q.xA,q.x0,q.s0,q.ob⟩
  refine ⟨fun i m σ' H' => m = ds.length - i/\i<=ds.length/\∃ ρ' ε',EOkS G c A0 Hf x σ' H' ρ' ε'/\Hv fg gb (ds.drop i) ρ' ε' = some r,⟨ds.length,by simp,Nat.zero_le _,ρ,ε,⟨A,w2,o1.no,o1.xA,o1.x0,o1.s0,o1.ob⟩,by simpa using e'⟩,?_⟩
  rintro i m σ3 H3 ⟨rfl,hil,ρ3,ε3,⟨B,o3⟩,e3⟩
  have pl : Same (hid A H1) (hid B H3):=by rw [<-hHf] at o3; exact OkW.plain o.w.sub o3.w
  by_cases hlt : i < ds.length
  ·right
   have hd : ds[i]? = some ds[i]:=by simp [hlt]
   have ed : ds.drop i = ds[i] :: ds.drop (i + 1):=List.drop_eq_getElem_cons hlt
   rw [ed] at e3
   unfold Hv at e3
   refine ⟨sr.go i H3 (pl.trans Az) hlt,fun σ' H' => ∃ ρ' ε',EOkS G c A0 Hf x σ' H' ρ' ε'/\Hv fg gb (ds.drop (i + 1)) ρ' ε' = some r,fun σ' H' q => ⟨ds.length - (i + 1),by omega,rfl,hlt,q⟩,fun y H' yy => ?_⟩
   obtain ⟨sy,rx⟩:=sr.yld i H3 y H' _ (pl.trans Az) hd yy
   have o4:=o3.mono sy
   cases e4 : fg ds[i] ρ3 with
   | none => simp [e4] at e3
   | some ρ4 =>
    simp only [e4,Option.bind_some] at e3
    split at e3
    ·rename_i no
     refine ⟨B,H',B,ρ3,ds[i],ρ4,o4.frameW,rx B o3.w.ok.live pl,e4,fun σ5 H5 ok5 => ?_⟩
     cases e5 : gb ρ4 ε3 with
     | none => simp [e5] at e3
     | some q =>
      simp only [e5,Option.bind_some] at e3
      exact ⟨A0,Hf,x,ρ4,ε3,q,o4.unframe ok5 no (by rw [hk _ _ _ e4]; exact o4.s0),e5,fun σ' H' o' => ⟨q.1,q.2,o',e3⟩⟩
    ·cases e3
  ·left
   have ei : i = ds.length:=by omega
   subst ei
   rw [List.drop_length] at e3
   cases e3
   exact ⟨sr.stop _ H3 (pl.trans Az) (Nat.le_refl _),k2 σ3 H3 ⟨B,o3⟩⟩
end
end PV
namespace PV
open PySem PySem.Spec L2
open PyProof.Rows hiding St
theorem QG {A : List Addr} {p b : Addr} : b ∈ A.filter (fun b => decide (b ≠ p)) ↔ b ∈ A/\b ≠ p:=by simp [List.mem_filter]
theorem iu {X : Cx} {G : Gx} {A : List Addr} {pins : List (Addr × Obj)} {s : Shared} {σ : St} {H : Hp} {a : Addr} {d : D} (I : Inv X pins σ H s) (hA : a ∈ A) (t : Top G A H a d) :
  ∃ H',Inv X pins σ H' s/\(∀ b,b ≠ a->H' b = H b)/\Same (hid A H) (hid (A.filter fun b => decide (b ≠ a)) H')/\Rep G (hid (A.filter fun b => decide (b ≠ a)) H') (.ref a) d:=by
 have key : ∀ H' : Hp,(∀ b,b ≠ a->H' b = H b)->Same (hid A H) (hid (A.filter fun b => decide (b ≠ a)) H'):=fun H' hh b u h => by
  unfold hid at h
  split at h
  ·cases h
  ·rename_i hb
   rw [Bv (fun z => hb (QG.mp z).1),hh b (fun z => hb (z ▸ hA))]
   exact h
 have at0 : ∀ H' : Hp,hid (A.filter fun b => decide (b ≠ a)) H' a = H' a:=fun H' => Bv (fun z => (QG.mp z).2 rfl)
 cases d with
 | lst ds =>
  obtain ⟨xs,a1,a2⟩:=t
  have sm:=key H fun _ _ => rfl
  exact ⟨H,I,fun _ _ => rfl,sm,.lst (.of (by rw [at0]; exact a1)) (a2.mono sm).1 (a2.mono sm).2⟩
 | dk ds =>
  obtain ⟨xs,a1,a2,a3⟩:=t
  obtain ⟨o,I'⟩:=Inv.frzK I a1
  have sm:=key _ fun b hb => Al (o:=.frz o (.dK xs)) hb
  exact ⟨_,I',fun b hb => Al hb,sm,.dk (by rw [at0]; exact Aj) a2 (a3.mono sm).2⟩
 | dt ds =>
  obtain ⟨xs,a1,a2,a3⟩:=t
  obtain ⟨o,I'⟩:=Inv.frzT I a1
  have sm:=key _ fun b hb => Al (o:=.frz o (.dT xs)) hb
  exact ⟨_,I',fun b hb => Al hb,sm,.dt (by rw [at0]; exact Aj) a2 (a3.mono sm).2⟩
 | ob c gs =>
  obtain ⟨C,dx,xs,a1,a2,a3⟩:=t
  have sm:=key H fun _ _ => rfl
  exact ⟨H,I,fun _ _ => rfl,sm,.ob a2.1 (by rw [at0]; exact a1) a2.2 (a3.mono sm).2⟩
 | _ => exact t.elim
theorem FsOk.frz {X : Cx} {G : Gx} {A0 A : List Addr} {pins : List (Addr × Obj)} {s : Shared} {σ : St} {H : Hp} {x : Addr} {fs : List (Str × V)} {ε : Ef} {as : List Addr} (h : FsOk G A0 A H x fs ε as) (I : Inv X pins σ H s) :
  ∃ H' A',Inv X pins σ H' s/\(∀ b,b ∉ as->H' b = H b)/\(∀ b,b ∈ A' ↔ b ∈ A/\b ∉ as)/\Same (hid A H) (hid A' H')/\RepL G (hid A' H') (fs.map (·.2)) (ε.map fun p => p.2.2):=by
 induction h with
 | nil => exact ⟨H,A,I,fun _ _ => rfl,fun b => by simp,Same.refl _,.nil⟩
 | pl rv _ ih =>
  obtain ⟨H',A',i1,i2,i3,i4,i5⟩:=ih
  exact ⟨H',A',i1,i2,i3,i4,.cons (rv.mono i4) i5⟩
 | @ow f a d fs ε as h1 h2 h3 h4 t _ ih =>
  obtain ⟨H1,A1,i1,i2,i3,i4,i5⟩:=ih
  have ha : a ∈ A1:=(i3 a).mpr ⟨h1,h4⟩
  have e1 : H1 a = H a:=i2 a h4
  have t1 : Top G A1 H1 a d:=by
   cases d with
   | lst ds => obtain ⟨xs,q1,q2⟩:=t; exact ⟨xs,by rw [e1]; exact q1,q2.mono i4⟩
   | dk ds => obtain ⟨xs,q1,q2,q3⟩:=t; exact ⟨xs,by rw [e1]; exact q1,q2,q3.mono i4⟩
   | dt ds => obtain ⟨xs,q1,q2,q3⟩:=t; exact ⟨xs,by rw [e1]; exact q1,q2,q3.mono i4⟩
   | ob c gs => obtain ⟨C,dx,xs,q1,q2,q3⟩:=t; exact ⟨C,dx,xs,by rw [e1]; exact q1,q2,q3.mono i4⟩
   | _ => exact t.elim
  obtain ⟨H2,j1,j2,j3,j4⟩:=iu i1 ha t1
  refine ⟨H2,A1.filter fun b => decide (b ≠ a),j1,fun b hb => ?_,fun b => ?_,i4.trans j3,.cons j4 (i5.mono j3)⟩
  ·rw [j2 b (fun z => hb (by simp [z])),i2 b (fun z => hb (List.mem_cons_of_mem _ z))]
  ·rw [QG,i3 b]
   simp only [List.mem_cons,not_or]
   exact ⟨fun ⟨⟨p1,p2⟩,p3⟩ => ⟨p1,p3,p2⟩,fun ⟨p1,p3,p2⟩ => ⟨⟨p1,p2⟩,p3⟩⟩
theorem EOk.whole {X : Cx} {G : Gx} {c : Str} {A0 : List Addr} {He : Hp} {x : Addr} {A : List Addr} {pins : List (Addr × Obj)} {s : Shared} {σ : St} {H : Hp} {ρ : Rho} {ε : Ef} (o : EOk G c A0 He x A σ H ρ ε) (I : Inv X pins σ H s) :
  ∃ H',Inv X pins σ H' s/\Same He H'/\Rep G (hid A0 H') (.ref x) (finE c ε):=by
 obtain ⟨C,dx,fs,as,h1,h2,h3⟩:=o.ob
 obtain ⟨H',A',i1,i2,i3,i4,i5⟩:=h3.frz I
 have nx : x ∉ as:=fun z => (h3.ne x z).2.2 rfl
 refine ⟨H',i1,fun b u hb => ?_,?_⟩
 ·rw [i2 b (fun z => ?_)]
  ·exact o.w.same b u hb
  ·obtain ⟨q1,q2,_⟩:=h3.ne b z
   rw [(o.w.fr b q1).resolve_left q2] at hb
   cases hb
 ·have sb : ∀ a ∈ A0,a ∈ A':=fun a ha => (i3 a).mpr ⟨o.w.sub a ha,fun z => (h3.ne a z).2.1 ha⟩
  have en : fs.map (·.1) = (ε.map fun p => (p.1,p.2.2)).map (·.1):=by
   rw [h3.names,List.map_map]
   rfl
  have es : (ε.map fun p => (p.1,p.2.2)).map (·.2) = ε.map fun p => p.2.2:=by rw [List.map_map]; rfl
  refine .ob h2 (by rw [Bv o.x0,i2 x nx]; exact h1) en ?_
  rw [es]
  exact (i5.mono (Gk sb)).2
def tEI (G : Gx) (c : Str) (A0 : List Addr) (He : Hp) (x : Addr) (g : FEs) : TS:=fun D σ H => ∃ ρ ε r,EOkS G c A0 He x σ H ρ ε/\g ρ ε = some r/\∀ σ' H',Same He H'->Rep G (hid A0 H') (.ref x) (finE c r.2)->D.nx σ' H'
def PSI (X : Cx) (G : Gx) (c : Str) (st : List Stmt) (g : FEs) : Prop:=∀ A0 He x,PSs X st (tEI G c A0 He x g)
theorem iw {X : Cx} {G : Gx} {c : Str} : PSI X G c [] nilE:=fun A0 He x pins s σ H D I ⟨ρ,ε,r,⟨A,o⟩,e,k⟩ => by
 cases e
 obtain ⟨H',I',q1,q2⟩:=o.whole I
 exact Rq pins s σ H' D I' (k σ H' q1 q2)
theorem G4 {X : Cx} {G : Gx} {c : Str} {st : Stmt} {rest : List Stmt} {g gs : FEs} (h1 : PSE X G c st g) (h2 : PSI X G c rest gs) : PSI X G c (st :: rest) (Hd g gs):=fun A0 He x pins s σ H D I ⟨ρ,ε,r,o,e,k⟩ => by
 refine PX (h1 A0 He x) (h2 A0 He x) pins s σ H D I ?_
 unfold Hd at e
 cases e1 : g ρ ε with
 | none => simp [e1] at e
 | some q =>
  simp only [e1,Option.bind_some] at e
  exact ⟨ρ,ε,q,o,e1,fun σ' H' o' => ⟨q.1,q.2,r,o',e,k⟩⟩
def spI (G : Gx) (c : Str) (g : Addr->List D->Option Ef) : Sp:=fun vs H Q _ => ∃ A x vs' ds ε C dx,vs = .ref x :: vs'/\(∀ a ∈ A,Nt (H a))/\x ∉ A/\H x = some (.ins C dx [])/\G.cl c = some C/\RepL G (hid (x :: A) H) vs' ds/\g x ds = some ε ∧
 ∀ H',Oo x H H'->Rep G (hid A H') (.ref x) (finE c ε)->Q .non H'
theorem Lq (n : Nat) (ds : List D) : noOw (Fb n ds) = true:=by
 unfold noOw Fb
 rw [List.all_eq_true]
 intro z hz
 rcases List.mem_append.mp hz with q | q
 ·obtain ⟨d,_,rfl⟩:=List.mem_map.mp q; rfl
 ·rw [(List.mem_replicate.mp q).2]
theorem fn_I {P : Program} {w : World} {G : Gx} {mg : Str->Option Value} {base : Heap} {x qual c : Str} {st : Stmt} {f : Addr} {fd : FuncData} {N ps : List Str} {k : Nat} {b : FEs} (F : Fun G.K x qual st f fd) (S : FnScope N ps (Af st)) (hl : ps.length<=N.length)
  (hb : ∀ (cdv : Value) (A : Around) (outer : List Env) (s : Shared) (H : Hp) (E : XK),Room k (A.deeper (envOfC qual (Af st) s.heap.objs.size f cdv))->PSI (cxOf CX0 P w G.K mg base N qual (Af st) f cdv A outer s H E).nox G c (CV st) b) :
  FnOk P w G.K mg base CX0 (k + 1) f fd ps (spI G c (runI N.length ps.length b)):=by
 refine F.ok S (fun vs H Q E h => ?_) (fun cdv A outer s H vs Q E hr h => ?_)
 ·obtain ⟨A,x,vs',ds,ε,C,dx,rfl,lv,hx,hH,hc,r,e,_⟩:=h
  unfold runI at e
  split at e
  ·rename_i hz; rw [List.length_cons,r.1]; exact hz
  ·cases e
 ·obtain ⟨A1,x,vs',ds,ε,C,dx,rfl,lv,hx,hH,hc,r,e,k⟩:=h
  unfold runI at e
  split at e
  ·rename_i hz
   have lv' : ∀ a ∈ x :: A1,Nt (H a):=fun a ha => by
    rcases List.mem_cons.mp ha with z | z
    ·rw [z,hH]; exact Nt.ins
    ·exact lv a z
   have r' : RepL G (hid (x :: A1) H) (.ref x :: vs') (.adr x :: ds):=.cons (.adr x) r
   obtain ⟨B,w⟩:=T4 (N:=N) lv' r' (by rw [List.length_cons,r.1]; omega)
   cases e1 : b (Sv N.length x ds) [] with
   | none => simp [e1] at e
   | some q =>
    simp only [e1,Option.map_some] at e
    cases e
    refine ⟨_,hb cdv A outer s H E hr A1 (hid [x] H) x,Sv N.length x ds,[],q,?_,e1,fun σ' H' s' rv => k H' (fun b o hb ho => s' b o (by rw [Bv (by simpa using hb)]; exact ho)) rv⟩
    refine ⟨B,⟨Az,fun a ha => w.sub a (List.mem_cons_of_mem _ ha),fun a ha => ?_,fun a ha => ?_,w.ok,fun i d a h _ => absurd h (Cg (Lq _ _) i d),fun y d _ h => absurd h (Cg (Lq _ _) 0 d)⟩,Lq _ _,w.sub x List.mem_cons_self,hx,rfl,C,dx,[],[],hH,hc,.nil⟩
    ·rcases w.fr a ha with z | z
     ·rcases List.mem_cons.mp z with z | z
      ·right; unfold hid; rw [if_pos (by simp [z])]
      ·exact .inl z
     ·right; unfold hid; split
      ·rfl
      ·exact z
    ·rw [Bv (fun z => hx (by simp at z; rw [<-z]; exact ha))]
     exact (lv a ha).ne
  ·cases e
section
variable {X : Cx} {G : Gx} {a b : Expr} {fa fb : FE} {pos p2 p : Pos} {es : List Expr} {fs : FA}
theorem cZ {k : Nat} {f C : Addr} {fd : FuncData} {ps : List Str} {g : Addr->List D->Option Ef} {cn x : Str} (hcl : G.cl cn = some C) (M : Mk X.K C f) (F : FnOk X.prog X.w X.K X.mg X.base CX0 k f fd ps (spI G cn g)) (hr : Room (k + 1) X.A) (hg : Gl X x) (hm : X.mg x = some (.ref C)) (hb : Binds X.K fd ps [])
  (ha : PFA X G (a :: es) fs) (hdb : (x == ("__debug__" : Str)) = false:=by decide) (he : starEach (a :: es) X.env = (false,eval a X.env) :: starEach es X.env:=by rfl) (hpl : (backTo pos (starEach es X.env)).any (·.1) = false:=by rfl) :
  PF X G (.Call (.Name x p) (a :: es) [] pos) (mkI cn g fs):=fun A => Ca (fu M F hr hg hm hb .nil jf (ha A) hdb he hpl) fun σ H Q ⟨ρ,d,o,e,k⟩ => by
 unfold mkI at e
 cases e1 : fs ρ with
 | none => simp [e1] at e
 | some ds =>
  cases e3 : g 0 ds with
  | none => simp [e1,e3] at e
  | some ε =>
   simp only [e1,e3,Option.bind_some] at e
   split at e
   ·rename_i hall
    cases e
    refine ⟨ρ,ds,o,e1,fun vs H1 s1 rv => fun y dx hy hdx hne => ?_⟩
    have sm : Same H1 (upd (upd H1 dx (.own y)) y (.ins C dx [])):=(Ar hdx _).trans (Ar (by rw [Al (Ne.symm hne)]; exact hy) _)
    have lv1:=(o.mono s1).live
    refine ⟨A,y,vs,ds,ε,C,dx,by rw [List.append_nil],fun b hb => ?_,fun z => (lv1 y z).ne hy,Aj,hcl,rv.mono (JG sm hy),hall y,fun H' sx rv' => ?_⟩
    ·exact (lv1 b hb).mono fun u e => sm _ _ e
    ·refine ⟨rfl,k _ H' (fun b u hb => sx b u (fun z => ?_) (sm _ _ (s1 _ _ hb))) rv'⟩
     have:=s1 _ _ hb
     rw [z,hy] at this
     cases this
   ·cases e
end
theorem Sw {f : FE} (ρ ρ' : Rho) (h : GZ f ρ = some (.nx ρ')) : ρ'[0]? = ρ[0]?:=by
 unfold GZ at h
 cases e : f ρ with
 | none => simp [e] at h
 | some d => simp [e] at h; rw [h]
def K0s (g : FGs) : Prop:=∀ ds ρ ρ',g ds ρ = some ρ'->ρ'[0]? = ρ[0]?
theorem cg : K0s nilG:=fun ds ρ ρ' h => by
 unfold nilG at h
 split at h
 ·cases h; rfl
 ·cases h
theorem PK {i : Nat} {g : FGs} (hi : i ≠ 0) (hg : K0s g) : K0s (Bo i g):=fun ds ρ ρ' h => by
 unfold Bo at h
 split at h
 ·rw [hg _ _ _ h,List.getElem?_set_ne hi]
 ·cases h
theorem cj {n : Nat} {g : FGs} (hg : K0s g) (d : D) (ρ ρ' : Rho) (h : tupG n g d ρ = some ρ') : ρ'[0]? = ρ[0]?:=by
 unfold tupG at h
 split at h
 ·split at h
  ·exact hg _ _ _ h
  ·cases h
 ·split at h
  ·exact hg _ _ _ h
  ·cases h
 ·cases h
end PV
namespace PV
open PySem PySem.W PySem.Calls PyProof.Rows L2
theorem V3 : ∀ (ns : List Int) (i : Int),i ∈ ns->Builtin.Int.intBits i<=WData.weightAll (ns.map WData.int):=by
 intro ns
 induction ns with
 | nil => intro i h; cases h
 | cons n r ih =>
  intro i h
  rw [List.map_cons]
  show Builtin.Int.intBits i<=WData.weight (.int n) + 1 + WData.weightAll (r.map WData.int)
  rcases List.mem_cons.mp h with q | q
  ·subst q
   have : WData.weight (.int i) = Builtin.Int.intBits i:=by unfold WData.weight Builtin.Int.intBits; rfl
   omega
  ·have:=ih i q
   omega
theorem iy {l : OpenLaw} {n : Nat} {q : Program} {loose : List Str} {XP : (Str->Option Value)->Heap->Prop} {YP : World->Heap->Prop} {d : DefRec}
  (hn : l.most = some n) (hdf : d.params.defaults = [])
  (call : ∀ (w : World) (s₀ s₁ : Shared) (mg mb : Str->Option Value) (fa : Addr) (o : Obj) (pm cd doc : Value) (a : Addr) (vs : List Value) (ns : List Int),
   Ground q loose [] XP w s₀ mg mb s₁.heap->YP w s₁.heap ->
   s₁.heap.get? fa = some o->o.data = .func (docDef d.name d.params d.body d.scope pm cd doc)->s₁.heap.CodeRec cd d.name->mg d.name = some (.ref fa) ->
   s₁.heap.get? a = some { cls:=.type "list",data:=.seq vs.toArray }->IntsAre vs ns->ns.length<=n->(∀ i ∈ ns,Builtin.Int.intBits i<=1048576)->s₁.gens = #[] ->
   codeAny (model l.prog w) callerA (.call (.ref fa) ⟨[.ref a],[]⟩) (fun r s' => r = .ok (.ret (.bool true))/\OldK s₁.heap s'.heap/\s'.os = s₁.os/\AllBare s'.gens) s₁) :
  WalkO q loose XP YP l.row.toRowW d [] (fun f vs => PySem.call f vs):=by
 intro w s₀ s₁ mg mb G Y fa o pm cd doc dV kV ho hd hcd hD hmg hg args vals as hpre hlay hrd hwl hlo
 obtain rfl : dV = .none:=Dflts.none hD hdf
 obtain rfl : kV = .none:=Dflts.noKw hD
 obtain ⟨a,vs,ns,rfl,rfl,hobj,hints,hlen⟩:=Att.Yp hn hpre hwl
 have hb : ∀ i ∈ ns,Builtin.Int.intBits i<=1048576:=fun i hi => by
  have h1:=V3 ns i hi
  have h2 : WData.weightAll (ns.map WData.int)<=1048576:=by
   have h3 : WData.layable (.list (ns.map WData.int)) = true:=List.all_eq_true.mp hlay _ (List.mem_cons_self ..)
   unfold WData.layable at h3
   rw [Bool.and_eq_true] at h3
   exact of_decide_eq_true h3.2
  omega
 refine enter_call (codeAny_mono (call w s₀ s₁ mg mb fa o pm cd doc a vs ns G Y ho (fd_plain hd) hcd hmg hobj hints hlen hb hg) fun r s' hq => ?_)
 obtain ⟨rfl,h2,h3,h4⟩:=hq
 exact ⟨.inl ⟨.bool true,.bool true,[],rfl,fun _ => rfl,.bool true,Att.Yq l _,fun _ => ⟨List.Pairwise.nil,fun _ hm => (nomatch hm)⟩⟩,h2,h3,h4⟩
theorem cu {l : PySem.W.OpenLaw} {n k : Nat} {q : Program} {loose : List Str} {XP : (Str->Option Value)->Heap->Prop} {YP : World->Heap->Prop} {d : DefRec} {K : Params->PySem.W.Frag} {CX : World->CXT} {sp : World->Sp} {x : Str}
  (hn : l.most = some n) (hn2 : n<=sizeLine) (hdf : d.params.defaults = []) (hr : Room k callerA)
  (hY : ∀ (w : World) (h : Heap),YP w h->(K w.params).In h)
  (F : ∀ (w : World) (mg : Str->Option Value) (fa : Addr) (h : Heap),(K w.params).In h->h.Ns mainGlobals mg->mg d.name = some (.ref fa) ->
   ∃ fd : FuncData,(∀ (s : Shared) (u : Value),BindsTo s fd ⟨[u],[]⟩ [(x,u)]) ∧
    ∀ base : Heap,(K w.params).In base->base.Ns mainGlobals mg->FnOk l.prog w (K w.params) mg base (CX w) k fa fd [x] (sp w))
  (hsp : ∀ (w : World) (H : Hp) (a : Addr) (ns : List Int),ns.length<=n->(∀ i ∈ ns,Builtin.Int.intBits i<=1048576)->Only H->SqL (K w.params) H a (ns.map V.int)->sp w [.ref a] H (fun v _ => v = .bl true) fun _ _ _ => False)
  (hCX : ∀ (w : World) (H : Hp) (s : Shared) (e : Value) (s' : Shared),CX w [] H s (fun _ _ _ => False) e s'->False) :
  PySem.W.WalkO q loose XP YP l.row.toRowW d [] (fun f vs => PySem.call f vs):=by
 refine iy hn hdf fun w s₀ s₁ mg mb fa o pm cd doc a vs ns G Y ho hd hcd hmg hobj hints hlen hbits hg => ?_
 have KX:=hY w _ Y
 obtain ⟨fd,hb,hF⟩:=F w mg fa _ KX G.T.g hmg
 exact Z_ KX G.T.g G.T.b G.T.builtins G.T.nolimit hg hobj hints (Nat.le_trans hlen hn2) hr hF hb (fun H hO hS => hsp w H a ns hlen hbits hO hS) fun H e s' => hCX w H s₁ e s'
end PV
namespace PySem
open PySem.Spec
section
variable {prog : Program} {w : World} {A : Around} {I d : Addr} {ep : Nat} {es : Array DictEntry} {od : Obj}
def qJ (h : Heap) (I d : Addr) (i n ep : Nat) (od : Obj) : Prop:=h.get? I = some { cls:=.type "dict_keyiterator",data:=.fields #[.ref d,.int i 0,.int n 0,.int ep 0] }/\h.get? d = some od
theorem Walks.raw (hh : A.handled = none) (hne : d ≠ I) (hod : od.data = .dict es ep) : Walks prog w A I [I,d] [I] es.size (fun i v => ∃ hi : i < es.size,v = (es[i]'hi).key) (fun i h => qJ h I d i es.size ep od) where
 sub:=fun b hb => by simp at hb; simp [hb]
 frame:=fun _ _ _ st hk => ⟨hk I (by simp) _ st.1,hk d (by simp) _ st.2⟩
 item:=fun i s Q E hi st hQ => by
  refine V1 hod hi st.1 st.2 ?_
  have e1 : (s.heap.update I (Obj.mapFields (·.setIfInBounds 1 (rawInt ((i : Int) + 1))))).get? I = some { cls:=.type "dict_keyiterator",data:=.fields #[.ref d,.int ((i + 1 : Nat) : Int) 0,.int es.size 0,.int ep 0] }:=Heap.get?_update_self _ st.1 rfl
  exact hQ _ _ s.toks ⟨hi,rfl⟩ ⟨e1,(Heap.get?_update_other _ _ (Ne.symm hne)).trans st.2⟩ fun b o hb e => (Heap.get?_update_other _ _ (fun z => hb (by simp [<-z]))).trans e
 done:=fun s Q E st hQ => Qp hh hod (Nat.le_refl _) st.1 st.2 fun h' he => hQ h' s.toks fun b o hb e => he b o (fun z => hb (by simp [z])) e
 self:=fun _ _ _ _ st hQ => wpAny_pyIter_keyiter ⟨_,st.1,rfl,rfl⟩ hQ
theorem iz (hd : (d == sysModules) = false) (hx : od.ExactDict) (hod : od.data = .dict es ep) : PySem.W.KdlSrc prog w "dict" d d es.size (fun i v => ∃ hi : i < es.size,v = (es[i]'hi).key) (fun h => h.get? d = some od) where
 type:=fun _ hm => ⟨_,hm,hx.1⟩
 there:=fun _ hm => ⟨Heap.lt_size hm,Heap.lt_size hm⟩
 keep:=fun _ _ hm hk => hk d (.inl rfl) _ hm
 notList:=by decide
 notTuple:=by decide
 hint:=fun _ _ _ _ hm hq => PySem.W.kdl_hint_dict ⟨_,hm,hx.1⟩ hq
 iter:=fun A s hh hm => ⟨_,_,fun E Q hq => V2 hd hx hod hm hq,Walks.raw hh (Nat.ne_of_lt (Heap.lt_size hm)) hod,Heap.get?_push_size _ rfl,Heap.get?_push_of_some _ hm⟩
end
end PySem
namespace PV
open PySem PySem.Spec L2
open PyProof.Rows hiding St
section
variable {X : Cx} {G : Gx}
theorem Fp (hc : X.calm = true) : Dh X (.type "list") (fun xs H Q => ∃ p kvs,xs = [.ref p]/\Rd H p (.dT kvs)/\∀ l (cs : List Addr),H l = none->cs.length = kvs.length->(∀ (i : Nat) (c : Addr) (q : List Key × V),cs[i]? = some c->kvs[i]? = some q->H c = some (.tup (q.1.map kV)))->Q (.ref l) (upd H l (.lst (cs.map V.ref)))):=by
 intro pins s σ H xs us Q I r h
 obtain ⟨p,kvs,rfl,e,q⟩:=h
 obtain ⟨u,rfl,ru⟩:=r.one
 cases ru
 obtain ⟨z,hd,ys,rel,o,es,ep,ho,hx,hod,hes,nd⟩:=(show Bj X.prog X.w H s.heap p (.dT kvs) from Z2 I.hok e)
 have hl : kvs.length = ys.length:=rel.length
 have hn : es.size = ys.length:=by rw [<-Array.length_toList,hes,List.length_map]
 refine PySem.W.kdl_call (PySem.iz hd hx hod) (I.ok.hd hc) ho (by omega) fun h' tk acc c' kp hnew hi => ?_
 have va : Vals ((ys.map (·.2.1)).map V.ref) acc.toList:=by
  have hla : acc.toList.length = ys.length:=by rw [Array.length_toList,hi.1,hn]
  have g : ∀ (j : Nat) u,acc.toList[j]? = some u->∃ y,ys[j]? = some y/\u = .ref y.2.1:=fun j u hu => by
   obtain ⟨h1,h2⟩:=hi.2 j u (by simpa using hu)
   have hj : j < ys.length:=by omega
   refine ⟨ys[j],by simp [hj],?_⟩
   have e1 : es[j] = entryOfKey (tupleKind (Ax X.prog X.w)) ys[j]:=by
    have : es.toList[j]? = some (entryOfKey (tupleKind (Ax X.prog X.w)) ys[j]):=by rw [hes]; simp [hj]
    have h3 : es.toList[j]? = some es[j]:=by simp [h1]
    rw [h3] at this
    exact Option.some.inj this
   rw [h2,e1]
   rfl
  have build : ∀ {ys : List (List Key × Addr × Value)} {us : List Value},us.length = ys.length->(∀ (j : Nat) u,us[j]? = some u->∃ y,ys[j]? = some y/\u = .ref y.2.1)->Vals ((ys.map (·.2.1)).map V.ref) us:=by
   intro ys
   induction ys with
   | nil => intro us h1 _; rw [List.eq_nil_of_length_eq_zero h1]; exact .nil
   | cons y r ih =>
    intro us h1 h2
    cases us with
    | nil => simp at h1
    | cons u us =>
     obtain ⟨y',a1,a2⟩:=h2 0 u rfl
     simp at a1
     subst a1
     exact .cons a2 (ih (by simpa using h1) fun j v hv => by simpa using h2 (j + 1) v (by simpa using hv))
  exact build hla g
 refine ⟨.ref s.heap.objs.size,_,I.laid (t':=tk) kp (Nat.le_refl _) (show Bj X.prog X.w _ h' _ (.lst ((ys.map (·.2.1)).map V.ref)) from ⟨by rw [List.length_map,List.length_map]; omega,acc.toList,c',va,by simpa using hnew⟩),rfl,q _ _ (I.hok.fresh (Nat.le_refl _)) (by rw [List.length_map]; exact hl.symm) fun i c qq h1 h2 => ?_⟩
 rw [List.getElem?_map] at h1
 cases e3 : ys[i]? with
 | none => rw [e3] at h1; cases h1
 | some y =>
  rw [e3] at h1
  cases h1
  exact (Jc rel h2 e3).2.1
def K7 : D->Option D
 | .dt kds => some (.lst (kds.map fun p => .tup (p.1.map kDt)))
 | d => listE d
theorem Ue {H : Hp} : ∀ (k : List Key),RepL G H (k.map kV) (k.map kDt)
 | [] => .nil
 | k :: r => .cons (PJ k) (Ue r)
theorem RepT.dt {A : List Addr} {H : Hp} {v : V} {kds : List (List Key × D)} (r : RepT G A H v (.dt kds)) : ∃ a kvs,v = .ref a/\Rd H a (.dT kvs)/\kvs.map (·.1) = kds.map (·.1)/\RepL G (hid A H) (kvs.map (·.2)) (kds.map (·.2)):=by
 rcases r with r | ⟨a,e,kvs,h,k,r⟩
 ·cases r with
  | dt h k r =>
   refine ⟨_,_,rfl,.inr ⟨_,Az _ _ h⟩,k,?_,r⟩
   have:=congrArg List.length k
   rw [List.length_map,List.length_map] at this ⊢
   exact this
 ·exact ⟨a,kvs,e,.of h,k,r⟩
theorem JN : SndC G (fun xs H Q => ((∃ p ys,xs = [.ref p]/\(SqL G.K H p ys ∨ SqT G.K H p ys)/\∀ l,H l = none->Q (.ref l) (upd H l (.lst ys))) ∨ ∃ p kvs,xs = [.ref p]/\Rd H p (.dK kvs)/\∀ l,H l = none->Q (.ref l) (upd H l (.lst (kvs.map fun q => kV q.1)))) ∨
  ∃ p kvs,xs = [.ref p]/\Rd H p (.dT kvs)/\∀ l (cs : List Addr),H l = none->cs.length = kvs.length->(∀ (i : Nat) (c : Addr) (q : List Key × V),cs[i]? = some c->kvs[i]? = some q->H c = some (.tup (q.1.map kV)))->Q (.ref l) (upd H l (.lst (cs.map V.ref)))) K7:=by
 intro A H x dx d Q lv rx h k
 unfold K7 at h
 split at h
 ·rename_i kds
  cases h
  obtain ⟨p,kvs,rfl,h1,h2,r⟩:=rx.dt
  have hl : kvs.length = kds.length:=by have:=congrArg List.length h2; rwa [List.length_map,List.length_map] at this
  refine .inr ⟨p,kvs,rfl,h1,fun l cs hfree hcs hc => k _ _ (Ar hfree _) (Dm lv hfree ⟨by rw [List.length_map,List.length_map]; omega,fun i v dd e1 e2 => ?_⟩)⟩
  rw [List.getElem?_map] at e1 e2
  cases g1 : cs[i]? with
  | none => rw [g1] at e1; cases e1
  | some c =>
   cases g2 : kds[i]? with
   | none => rw [g2] at e2; cases e2
   | some qd =>
    rw [g1] at e1
    rw [g2] at e2
    cases e1
    cases e2
    have hi : i < kvs.length:=by rw [hl]; exact (List.getElem?_eq_some_iff.mp g2).1
    have g3 : kvs[i]? = some kvs[i]:=by simp [hi]
    have ek : (kvs[i]).1 = qd.1:=by
     have a1 : (kvs.map (·.1))[i]? = some (kvs[i]).1:=by rw [List.getElem?_map,g3]; rfl
     rw [h2,List.getElem?_map,g2] at a1
     exact (Option.some.inj a1).symm
    have ht:=hc i c _ g1 g3
    rw [ek] at ht
    have nA : c ∉ A:=fun z => (lv c z).tup _ ht
    have kr:=Ue (G:=G) (H:=hid A H) qd.1
    exact .tup (.of (by rw [Bv nA]; exact ht)) kr.1 kr.2
 ·exact .inl (Y7 A H x dx d Q lv rx h k)
end
end PV
namespace PV
open PySem PySem.Spec L2
open PyProof.Rows hiding St
section
variable {X : Cx} {G : Gx}
def dkEq (a b : List (Key × D)) : Option Bool:=if a.map (·.1) = b.map (·.1) then allO flD (a.map (·.2)) (b.map (·.2)) else none
theorem Xi {A : Around} {s : Shared} {kb : List (Key × Value)} : ∀ {ka : List (Key × Value)} {ds es : List D} {b : Bool},ka.length = ds.length ->
  (∀ (j : Nat) (k : Key) (v : Value) (d e : D) (c : Bool),ka[j]? = some (k,v)->ds[j]? = some d->es[j]? = some e->flD d e = some c->∃ y,valueAt kb k = some y/\SeqAt.EqAt A s v y c)->allO flD ds es = some b->PySem.W.KeqHits A s kb ka b
 | [],ds,es,b,hl,_,h => by
  cases ds with
  | nil =>
   cases es with
   | nil => cases h; exact .nil
   | cons e r => cases h
  | cons d r => simp at hl
 | (k,v) :: ka,[],es,b,hl,_,h => by simp at hl
 | (k,v) :: ka,d :: ds,[],b,hl,_,h => by cases h
 | (k,v) :: ka,d :: ds,e :: es,b,hl,g,h => by
  unfold allO at h
  cases e1 : flD d e with
  | none => rw [e1] at h; cases h
  | some c =>
   cases e2 : allO flD ds es with
   | none => rw [e1,e2] at h; cases h
   | some b' =>
    rw [e1,e2] at h
    cases h
    obtain ⟨y,h1,h2⟩:=g 0 k v d e c rfl rfl rfl e1
    exact .hit h1 h2 (Xi (by simpa using hl) (fun j k v d e c a1 a2 a3 a4 => g (j + 1) k v d e c (by simpa using a1) (by simpa using a2) (by simpa using a3) a4) e2)
def kO (G : Gx) (neg : Bool) : R2:=fun x y H Q => ∃ (A : List Addr) (a b : List (Key × D)) (c : Bool),RepT G A H x (.dk a)/\RepT G A H y (.dk b)/\dkEq a b = some c/\Q (.bl (if neg then !c else c)) H
theorem Y9 {pins : List (Addr × Obj)} {σ : St} {H : Hp} {s : Shared} (hG : G.K = X.K) (hu : X.A.units + 64 < cLine) (I : Inv X pins σ H s) {A : List Addr} {a b : List (Key × D)} {c : Bool} {x y : V} (rx : RepT G A H x (.dk a)) (ry : RepT G A H y (.dk b)) (e : dkEq a b = some c) :
  ∃ p q ka kb,x = .ref p/\y = .ref q/\(p == sysModules) = false/\(q == sysModules) = false/\s.heap.DictOf (Ax X.prog X.w) p ka/\s.heap.DictOf (Ax X.prog X.w) q kb/\ka.length = kb.length/\PySem.W.KeqHits X.A.in1 s kb ka c:=by
 obtain ⟨p,kvs,rfl,h1,h2,r1⟩:=rx.dk
 obtain ⟨q,kws,rfl,h3,h4,r2⟩:=ry.dk
 unfold dkEq at e
 split at e
 ·rename_i hk
  obtain ⟨z1,hd1,va,rela,da⟩:=I_ I.hok h1
  obtain ⟨z2,hd2,vb,relb,db⟩:=I_ I.hok h3
  have la : kvs.length = va.length:=rela.length
  have lb : kws.length = vb.length:=relb.length
  have l1 : kvs.length = a.length:=by have:=congrArg List.length h2; simpa using this
  have l2 : kws.length = b.length:=by have:=congrArg List.length h4; simpa using this
  have l3 : a.length = b.length:=by have:=congrArg List.length hk; simpa using this
  have nd : (vb.map (·.1)).Nodup:=by obtain ⟨_,_,_,_,_,_,_,_,nd⟩:=db; exact nd
  refine ⟨p,q,va,vb,rfl,rfl,hd1,hd2,da,db,by omega,Xi (ds:=a.map (·.2)) (es:=b.map (·.2)) (by rw [List.length_map]; omega) (fun j k v d e' c' g1 g2 g3 g4 => ?_) e⟩
  have hj : j < va.length:=(List.getElem?_eq_some_iff.mp g1).1
  have kj : kvs[j]? = some kvs[j]:=by simp [show j < kvs.length by omega]
  have wj : kws[j]? = some kws[j]:=by simp [show j < kws.length by omega]
  have bj : vb[j]? = some vb[j]:=by simp [show j < vb.length by omega]
  have p1:=Jc rela kj g1
  have p2:=Jc relb wj bj
  have ek : (kvs[j]).1 = (kws[j]).1:=by
   have a1 : (kvs.map (·.1))[j]? = some (kvs[j]).1:=by rw [List.getElem?_map,kj]; rfl
   have a2 : (kws.map (·.1))[j]? = some (kws[j]).1:=by rw [List.getElem?_map,wj]; rfl
   rw [h2,hk,<-h4,a2] at a1
   exact (Option.some.inj a1).symm
  have key : k = (vb[j]).1:=by rw [<-p2.1,<-ek]; exact p1.1.symm
  refine ⟨(vb[j]).2,valueAt_of_get nd (i:=j) (by rw [bj,key]),?_⟩
  have rv1 : Rep G (hid A H) (kvs[j]).2 d:=r1.2 j _ d (by rw [List.getElem?_map,kj]; rfl) g2
  have rv2 : Rep G (hid A H) (kws[j]).2 e':=r2.2 j _ e' (by rw [List.getElem?_map,wj]; rfl) g3
  exact Ny I hG 0 X.A.in1 (by show X.A.units + 1 + 0 < cLine; omega) (show eqK 0 d e' = some c' from g4) (rv1.mono Az) (rv2.mono Az) p1.2 p2.2
 ·cases e
theorem Xj (hG : G.K = X.K) (hu : X.A.units + 64 < cLine) : OpR X (compareOp .Eq) (kO G false):=by
 intro pins s σ H x y v u Q I rx ry h
 obtain ⟨A,a,b,c,r1,r2,e,k⟩:=h
 obtain ⟨p,q,ka,kb,rfl,rfl,m1,m2,da,db,hl,hits⟩:=Y9 hG hu I r1 r2 e
 cases rx
 cases ry
 refine PySem.W.keq_eq m1 m2 da db (by omega) (fun _ => hits) ?_
 rw [hl,beq_self_eq_true,Bool.true_and]
 exact ⟨.bl c,H,I,rfl,k⟩
def eqF (neg : Bool) (x y : D) : Option D:=match x,y with
 | .dk a,.dk b => (dkEq a b).map fun c => .bl (if neg then !c else c)
 | x,y => eqD neg x y
theorem Xk (neg : Bool) : Cw G (fun x y H Q => rEqA G neg x y H Q ∨ kO G neg x y H Q) (eqF neg):=by
 intro A H x y dx dy d Q lv rx ry h k
 unfold eqF at h
 split at h
 ·rename_i a b
  cases e : dkEq a b with
  | none => simp [e] at h
  | some c =>
   simp only [e,Option.map_some] at h
   cases h
   exact .inr ⟨A,a,b,c,rx,ry,e,k _ H (Same.refl H) (.bl _)⟩
 ·exact .inl (R9 neg A H x y _ _ d Q lv rx ry h k)
end
end PV
namespace PV
open PySem PySem.Spec L2
open PyProof.Rows hiding St
structure FunD (K : PySem.W.Frag) (x qual : Str) (st : Stmt) (f : Addr) (fd : FuncData) : Prop where
 ex : ∃ (oc : Value) (od : Option Addr) (dV kV doc pm : Value) (an : Option Addr) (cdv ct : Value) (osl : Array (Option Value)),
  fd = PySem.W.fnOf x qual (Di st) (CV st) (Af st) dV kV doc pm an cdv ct/\K.lookup f = some ⟨oc,od,.func fd,osl⟩/\PySem.W.codeIn K cdv qual = true
 kp : PySem.W.keepIn K (.ref f) = true
theorem Xl {K : PySem.W.Frag} {x qual : Str} {st : Stmt} {f : Addr} {oc : Value} {od an : Option Addr} {osl : Array (Option Value)} {dV kV doc pm cdv ct : Value} (l : K.lookup f = some ⟨oc,od,.func (PySem.W.fnOf x qual (Di st) (CV st) (Af st) dV kV doc pm an cdv ct),osl⟩)
  (c : PySem.W.codeIn K cdv qual = true) (k : PySem.W.keepIn K (.ref f) = true) : FunD K x qual st f (PySem.W.fnOf x qual (Di st) (CV st) (Af st) dV kV doc pm an cdv ct):=⟨⟨oc,od,dV,kV,doc,pm,an,cdv,ct,osl,rfl,l,c⟩,k⟩
theorem FunD.binds {K : PySem.W.Frag} {x qual : Str} {st : Stmt} {f : Addr} {fd : FuncData} {ps : List Str} (F : FunD K x qual st f fd)
  (h : ∀ (dV kV doc pm : Value) (an : Option Addr) (cdv ct : Value) (us : List Value),us.length = ps.length->bindArgs (PySem.W.fnOf x qual (Di st) (CV st) (Af st) dV kV doc pm an cdv ct) ⟨us,[]⟩ = pure (ps.zip us)) : Binds K fd ps []:=by
 obtain ⟨oc,od,dV,kV,doc,pm,an,cdv,ct,osl,rfl,lk,hcd⟩:=F.ex
 exact .all (h dV kV doc pm an cdv ct)
theorem qK {P : Program} {w : World} {G : Gx} {mg : Str->Option Value} {base : Heap} {x qual : Str} {st : Stmt} {f : Addr} {fd : FuncData} {N ps : List Str} {k : Nat} {b : FS} (F : FunD G.K x qual st f fd) (S : FnScope N ps (Af st)) (hl : ps.length<=N.length)
  (hb : ∀ (cdv : Value) (A : Around) (outer : List Env) (s : Shared) (H : Hp) (E : XK),Room k (A.deeper (envOfC qual (Af st) s.heap.objs.size f cdv))->PSDs (cxOf CX0 P w G.K mg base N qual (Af st) f cdv A outer s H E).nox G (CV st) b) :
  FnOk P w G.K mg base CX0 (k + 1) f fd ps (spD G (runF N.length ps.length b)):=by
 obtain ⟨oc,od,dV,kV,doc,pm,an,cdv,ct,osl,rfl,lk,hcd⟩:=F.ex
 refine jc lk hcd S (fun vs H Q E h => ?_) (fun A outer s H vs Q E hr h => ?_)
 ·obtain ⟨A,ds,d,lv,r,e,_⟩:=h
  unfold runF at e
  split at e
  ·rename_i hz; rw [r.1]; exact hz
  ·cases e
 ·obtain ⟨A0,ds,d,lv,r,e,k⟩:=h
  unfold runF at e
  split at e
  ·rename_i hz
   refine ⟨_,(hb cdv A outer s H E hr A0 H).nox,Fb N.length ds,?_⟩
   cases e1 : b (Fb N.length ds) with
   | none => simp [e1] at e
   | some o =>
    refine ⟨o,T4 lv r (by rw [r.1,hz]; exact hl),rfl,?_⟩
    cases o with
    | nx ρ =>
     simp only [e1] at e
     cases e
     exact fun σ H' ⟨A,w⟩ => k _ H' w.same .non
    | rt d' ρ' =>
     simp only [e1] at e
     cases e
     exact fun v σ H' A w r' => k v H' w.same (r'.mono (Gk w.sub))
    | bk ρ => simp [e1] at e
    | ct ρ => simp [e1] at e
  ·cases e
end PV
namespace PV
open PySem L2
theorem S5 (l : List D) (y : D) : ixE (.lst l) y = ixD (.lst l) y:=of_eq_true (eq_self _)
theorem Fq (l : List D) (y : D) : ixE (.tup l) y = ixD (.tup l) y:=of_eq_true (eq_self _)
theorem cz (l : Str) (y : D) : ixE (.str l) y = ixD (.str l) y:=of_eq_true (eq_self _)
theorem HF (k : List (Key × D)) (x : Str) : ixE (.dk k) (.str x) = getK (.inr x) k:=of_eq_true (eq_self _)
theorem Xm (k : List (Key × D)) (x : Int) : ixE (.dk k) (.int x) = getK (.inl x) k:=of_eq_true (eq_self _)
theorem Xn (l : List D) : lenE (.lst l) = some (.int l.length):=of_eq_true (eq_self _)
theorem Xo (l : List (Key × D)) : lenE (.dk l) = some (.int l.length):=of_eq_true (eq_self _)
theorem Xp (neg : Bool) (x : Str) (k : List (Key × D)) : inF neg (.str x) (.dk k) = some (.bl (if neg then !(getK (.inr x) k).isSome else (getK (.inr x) k).isSome)):=of_eq_true (eq_self _)
theorem Xq (neg : Bool) (x : Int) (k : List (Key × D)) : inF neg (.int x) (.dk k) = some (.bl (if neg then !(getK (.inl x) k).isSome else (getK (.inl x) k).isSome)):=of_eq_true (eq_self _)
theorem Xr (neg : Bool) (x : Str) (l : List D) : inF neg (.str x) (.tup l) = inD neg (.str x) (.tup l):=of_eq_true (eq_self _)
theorem Xu (neg : Bool) (x : Str) (l : List D) : inF neg (.str x) (.lst l) = inD neg (.str x) (.lst l):=of_eq_true (eq_self _)
theorem Xv (neg : Bool) (x : Int) (l : List D) : inF neg (.int x) (.lst l) = inD neg (.int x) (.lst l):=of_eq_true (eq_self _)
def Mv (o : Option D) : Option (List D):=match o with | some (.str x) => some (UW x) | some (.lst ds) => some ds | some (.tup ds) => some ds | some (.dk kds) => some (kds.map fun p => kDt p.1) | _ => none
theorem Gh (f : FE) (ρ : Rho) : seqA f ρ = Mv (f ρ):=by
 unfold seqA seqE Mv
 cases f ρ with
 | none => rfl
 | some d => cases d <;> rfl
theorem HH (l : List D) : Mv (some (.lst l)) = some l:=of_eq_true (eq_self _)
theorem S6 (l : List D) : Mv (some (.tup l)) = some l:=of_eq_true (eq_self _)
theorem Kr (l : List (Key × D)) : Mv (some (.dk l)) = some (l.map fun p => kDt p.1):=of_eq_true (eq_self _)
def putO (i : Nat) (ρ : Rho) (x y v : Option D) : Option Out:=v.bind fun v => y.bind fun y => x.bind fun x => (CG x y v).map fun z => .nx (ρ.set i (.ow z))
theorem J5 (i : Nat) (fk fv : FE) (ρ : Rho) : putF i fk fv ρ = putO i ρ (getW ρ[i]?) (fk ρ) (fv ρ):=of_eq_true (eq_self _)
theorem Hg (i : Nat) (ρ : Rho) (x y v : D) : putO i ρ (some x) (some y) (some v) = (CG x y v).map fun z => .nx (ρ.set i (.ow z)):=of_eq_true (eq_self _)
def kW (i : Nat) (ρ : Rho) (x : Option D) (y : Option (List D)) (v : Option D) : Option Out:=v.bind fun v => y.bind fun y => x.bind fun x => (Mu x y v).map fun z => .nx (ρ.set i (.ow z))
theorem dB (i : Nat) (fk : FA) (fv : FE) (ρ : Rho) : UT i fk fv ρ = kW i ρ (getW ρ[i]?) (fk ρ) (fv ρ):=of_eq_true (eq_self _)
theorem Xw (i : Nat) (ρ : Rho) (x : D) (y : List D) (v : D) : kW i ρ (some x) (some y) (some v) = (Mu x y v).map fun z => .nx (ρ.set i (.ow z)):=of_eq_true (eq_self _)
def frzO (ρ : Rho) (i : Nat) (o : Option Slot) : Rho:=match o with | some (.ow d) => ρ.set i (.fz d) | _ => ρ
theorem K8 (g : FS) (ρ : Rho) : fzS [] g ρ = g ρ:=of_eq_true (eq_self _)
theorem K9 (i : Nat) (is : List Nat) (g : FS) (ρ : Rho) : fzS (i :: is) g ρ = fzS is g (frzO ρ i ρ[i]?):=of_eq_true (eq_self _)
theorem Ii (ρ : Rho) (i : Nat) (d : D) : frzO ρ i (some (.ow d)) = ρ.set i (.fz d):=of_eq_true (eq_self _)
theorem dC (ρ : Rho) (i : Nat) (d : D) : frzO ρ i (some (.fz d)) = ρ:=of_eq_true (eq_self _)
def itO (o : Option D) : Option (List D):=match o with | some (.dk kds) => some (kds.map fun p => .tup [kDt p.1,p.2]) | _ => none
theorem Xx (f : FE) (ρ : Rho) : Lp f ρ = itO (f ρ):=of_eq_true (eq_self _)
theorem Ug (kds : List (Key × D)) : itO (some (.dk kds)) = some (kds.map fun p => .tup [kDt p.1,p.2]):=of_eq_true (eq_self _)
theorem Ks (i j : Nat) (a b : D) (ρ : Rho) : tupG 2 (Bo i (Bo j nilG)) (.tup [a,b]) ρ = some ((ρ.set i (.fz a)).set j (.fz b)):=of_eq_true (eq_self _)
theorem RW (x : Str) : kDt (.inr x) = .str x:=of_eq_true (eq_self _)
theorem kZ (x : Int) : kDt (.inl x) = .int x:=of_eq_true (eq_self _)
theorem OD {κ : Type} [DecidableEq κ] {k : κ} : ∀ {l : List (κ × D)},k ∉ l.map (·.1)->getK k l = none
 | [],_ => rfl
 | p :: r,h => by
  unfold getK
  rw [List.map_cons,List.mem_cons,not_or] at h
  rw [if_neg (fun z => h.1 z.symm)]
  exact OD h.2
theorem Xy {κ : Type} [DecidableEq κ] {k : κ} {d : D} : ∀ {l : List (κ × D)},(l.map (·.1)).Nodup->(k,d) ∈ l->getK k l = some d
 | [],_,h => by cases h
 | p :: r,nd,h => by
  unfold getK
  rw [List.map_cons,List.nodup_cons] at nd
  rcases List.mem_cons.mp h with q | q
  ·subst q; rw [if_pos rfl]
  ·rw [if_neg (fun z => nd.1 (by rw [z]; exact List.mem_map.mpr ⟨(k,d),q,rfl⟩))]
   exact Xy nd.2 q
theorem putL_new {κ : Type} [DecidableEq κ] {k : κ} {v : D} {l : List (κ × D)} (h : k ∉ l.map (·.1)) : putL k v l = l ++ [(k,v)]:=by
 unfold putL
 rw [OD h]
 rfl
theorem Ij (k : List (Key × D)) (x : Str) (v : D) (hl : k.length<=1000000) : CG (.dk k) (.str x) v = some (.dk (putL (.inr x) v k)):=by
 show (if k.length < sizeLine then some (D.dk (putL (.inr x) v k)) else none) = _
 rw [if_pos (Nat.lt_of_le_of_lt hl (by decide))]
theorem oF (k : List (Key × D)) (x : Int) (v : D) (hl : k.length<=1000000) : CG (.dk k) (.int x) v = some (.dk (putL (.inl x) v k)):=by
 show (if k.length < sizeLine then some (D.dk (putL (.inl x) v k)) else none) = _
 rw [if_pos (Nat.lt_of_le_of_lt hl (by decide))]
theorem oG (k : List (List Key × D)) (x y : Int) (v : D) (hl : k.length<=1000000) : Mu (.dt k) [.int x,.int y] v = some (.dt (putL [.inl x,.inl y] v k)):=by
 show (if k.length < sizeLine/\2<=sizeLine then some (D.dt (putL [.inl x,.inl y] v k)) else none) = _
 rw [if_pos ⟨Nat.lt_of_le_of_lt hl (by decide),by decide⟩]
theorem S7 {g : FS} {ρ ρ' : Rho} {ε : Ef} (h : g ρ = some (.nx ρ')) (hn : noOw ρ' = true) : pureE g ρ ε = some (ρ',ε):=by
 unfold pureE
 rw [h]
 show (if noOw ρ' = true then some (ρ',ε) else none) = _
 rw [if_pos hn]
def kh (r : Option (Rho × Ef)) (gs : FEs) : Option (Rho × Ef):=r.bind fun r => gs r.1 r.2
theorem Ik (g gs : FEs) (ρ : Rho) (ε : Ef) : Hd g gs ρ ε = kh (g ρ ε) gs:=of_eq_true (eq_self _)
theorem Gq (gs : FEs) (ρ : Rho) (ε : Ef) : kh (some (ρ,ε)) gs = gs ρ ε:=of_eq_true (eq_self _)
theorem oH (ρ : Rho) (ε : Ef) : nilE ρ ε = some (ρ,ε):=of_eq_true (eq_self _)
theorem dD {src : FI} {tg : FG} {b : FEs} {ρ : Rho} {ε : Ef} {ds : List D} (h : src ρ = some ds) : forE src tg b ρ ε = Hv tg b ds ρ ε:=by
 unfold forE; rw [h]; rfl
end PV
namespace PV
open PySem L2
def popO (i : Nat) (ρ : Rho) (o : Option D) : Option Out:=match o with
 | some (.lst ds) => (ds[ds.length - 1]?).map fun _ => .nx (ρ.set i (.ow (.lst ds.dropLast)))
 | _ => none
def Uh (i j : Nat) (ρ : Rho) (o : Option D) : Option Out:=match o with
 | some (.lst ds) => (ds[ds.length - 1]?).map fun y => .nx ((ρ.set i (.ow (.lst ds.dropLast))).set j (.fz y))
 | _ => none
def popF (i : Nat) : FS:=fun ρ => popO i ρ (getW ρ[i]?)
def popT (i j : Nat) : FS:=fun ρ => Uh i j ρ (getW ρ[i]?)
def Ui (x k v : D) : Option D:=match x,k with
 | .lst ds,.int n => (ixN ds.length n).map fun j => .lst (ds.set j v)
 | _,_ => none
def Xz (i : Nat) (ρ : Rho) (x k v : Option D) : Option Out:=v.bind fun v => k.bind fun k => x.bind fun x => (Ui x k v).map fun y => .nx (ρ.set i (.ow y))
def QH (i : Nat) (fa fb : FE) : FS:=fun ρ => Xz i ρ (getW ρ[i]?) (fa ρ) (fb ρ)
theorem dF (i : Nat) (ρ : Rho) : popF i ρ = popO i ρ (getW ρ[i]?):=of_eq_true (eq_self _)
theorem oJ (i : Nat) (ρ : Rho) (ds : List D) : popO i ρ (some (.lst ds)) = (ds[ds.length - 1]?).map fun _ => .nx (ρ.set i (.ow (.lst ds.dropLast))):=of_eq_true (eq_self _)
theorem oK (i j : Nat) (ρ : Rho) : popT i j ρ = Uh i j ρ (getW ρ[i]?):=of_eq_true (eq_self _)
theorem i_ (i j : Nat) (ρ : Rho) (ds : List D) : Uh i j ρ (some (.lst ds)) = (ds[ds.length - 1]?).map fun y => .nx ((ρ.set i (.ow (.lst ds.dropLast))).set j (.fz y)):=of_eq_true (eq_self _)
theorem OJ (i : Nat) (fa fb : FE) (ρ : Rho) : QH i fa fb ρ = Xz i ρ (getW ρ[i]?) (fa ρ) (fb ρ):=of_eq_true (eq_self _)
theorem Ku (i : Nat) (ρ : Rho) (x k v : D) : Xz i ρ (some x) (some k) (some v) = (Ui x k v).map fun y => .nx (ρ.set i (.ow y)):=of_eq_true (eq_self _)
end PV
namespace PV
open PySem PySem.Spec L2
open PyProof.Rows hiding St
section
variable {X : Cx} {G : Gx} {a b c : Expr} {fa fb fc : FE} {pos p2 px : Pos}
theorem Oa {o : Option Slot} {d : D} (h : getW o = some d) : o = some (.ow d):=by
 unfold getW at h
 split at h
 ·cases h; rfl
 ·cases h
theorem RepL.dropLast {G : Gx} {H : Hp} {xs : List V} {ds : List D} (r : RepL G H xs ds) : RepL G H xs.dropLast ds.dropLast:=by
 rw [List.dropLast_eq_take,List.dropLast_eq_take,r.1]
 exact r.take _
theorem RepL.set {G : Gx} {H : Hp} {xs : List V} {ds : List D} (r : RepL G H xs ds) {v : V} {d : D} (q : Rep G H v d) (j : Nat) : RepL G H (xs.set j v) (ds.set j d):=by
 refine ⟨by rw [List.length_set,List.length_set]; exact r.1,fun i x e h1 h2 => ?_⟩
 by_cases h : j = i
 ·subst h
  rw [List.getElem?_set] at h1 h2
  simp only [if_true] at h1 h2
  split at h1
  ·split at h2
   ·cases h1; cases h2; exact q
   ·cases h2
  ·cases h1
 ·rw [List.getElem?_set_ne h] at h1 h2
  exact r.2 i x e h1 h2
theorem jA {i : Nat} {x : Str} {xpos apos : Pos} (hv : PE X (.Name x xpos) (tVar i))
  (hbase : attributeBase (.Name x xpos) "pop" X.env (eval (.Name x xpos) X.env) = eval (.Name x xpos) X.env:=by rfl)
  (hline : (apos.endLine == pos.line) = true:=by rfl) (hsw : swapsWith (.Call (.Attribute (.Name x xpos) "pop" apos) [] [] pos) none p2.line X.env = pure false:=by rfl) :
  PSD X G (.Expr (.Call (.Attribute (.Name x xpos) "pop" apos) [] [] pos) p2) (popF i):=fun A0 He pins s σ H D I ⟨ρ,o,⟨A,w⟩,e,k⟩ => by
 refine Lz (Zz PySem.F.plainAttrs_list PySem.F.slot_list_pop PySem.F.type_list_pop Z1 hv hbase hline) hsw pins s σ H D I ?_
 unfold popF popO at e
 split at e
 ·rename_i ds hg
  have hi:=Oa hg
  cases e1 : ds[ds.length - 1]? with
  | none => simp [e1] at e
  | some y =>
   simp only [e1,Option.map_some] at e
   cases e
   obtain ⟨p,h1,hA,xs,h2,r⟩:=w.ok.ow i _ hi
   obtain ⟨u,hu,ru⟩:=r.get e1
   refine ⟨_,h1,.inl ⟨rfl,xs,.of h2⟩,p,xs,u,rfl,rfl,h2,by rw [r.1]; exact hu,?_⟩
   refine k _ _ ⟨A,w.wr hi h1 ⟨xs.dropLast,Aj,?_⟩⟩
   rw [Ba hA]
   exact r.dropLast
 ·cases e
theorem dG {i j : Nat} {x y : Str} {xpos apos p : Pos} (h : ∀ te,PE X (.Call (.Attribute (.Name x xpos) "pop" apos) [] [] pos) te->PS X (.Assign [.Name y p] (.Call (.Attribute (.Name x xpos) "pop" apos) [] [] pos) p2) (tAsg te (Jv j))) (hv : PE X (.Name x xpos) (tVar i))
  (hbase : attributeBase (.Name x xpos) "pop" X.env (eval (.Name x xpos) X.env) = eval (.Name x xpos) X.env:=by rfl)
  (hline : (apos.endLine == pos.line) = true:=by rfl) :
  PSD X G (.Assign [.Name y p] (.Call (.Attribute (.Name x xpos) "pop" apos) [] [] pos) p2) (popT i j):=fun A0 He pins s σ H D I ⟨ρ,o,⟨A,w⟩,e,k⟩ => by
 refine h _ (Zz PySem.F.plainAttrs_list PySem.F.slot_list_pop PySem.F.type_list_pop Z1 hv hbase hline) pins s σ H D I ?_
 unfold popT Uh at e
 split at e
 ·rename_i ds hg
  have hi:=Oa hg
  cases e1 : ds[ds.length - 1]? with
  | none => simp [e1] at e
  | some y =>
   simp only [e1,Option.map_some] at e
   cases e
   obtain ⟨p,h1,hA,xs,h2,r⟩:=w.ok.ow i _ hi
   obtain ⟨u,hu,ru⟩:=r.get e1
   refine ⟨_,h1,.inl ⟨rfl,xs,.of h2⟩,p,xs,u,rfl,rfl,h2,by rw [r.1]; exact hu,?_⟩
   have w1 : OkW G A0 He A σ (upd H p (.lst xs.dropLast)) (ρ.set i (.ow (.lst ds.dropLast))):=w.wr hi h1 ⟨xs.dropLast,Aj,by rw [Ba hA]; exact r.dropLast⟩
   exact k _ _ ⟨A,w1.set (by rw [Ba hA]; exact ru) j⟩
 ·cases e
theorem Mw {i : Nat} {x : Str} {xpos spos : Pos} (hv : PE X (.Name x xpos) (tVar i)) (ha : PF X G a fa) (hb : PF X G b fb)
  (hs : swapsWithSole [.Subscript (.Name x xpos) a spos] b pos.line X.env = pure false:=by rfl) (hw : swappedStores [.Subscript (.Name x xpos) a spos] b X.env = pure none:=by rfl)
  (h1 : (assignEach [.Subscript (.Name x xpos) a spos] X.env).map (·.2) = [assign (.Subscript (.Name x xpos) a spos) X.env]:=by rfl)
  (ht : ∀ v,assign (.Subscript (.Name x xpos) a spos) X.env v = (do
   let ov <-holding [v] (eval (.Name x xpos) X.env)
   let iv <-holding [v,ov] (eval a X.env)
   standAt spos
   holding [v,ov,iv] (setItem ov iv v)
   release [v,ov,iv] []):=by intro _; rfl) :
  PSD X G (.Assign [.Subscript (.Name x xpos) a spos] b pos) (QH i fa fb):=fun A0 He pins s σ H D I ⟨ρ,o,⟨A,w⟩,e,k⟩ => by
 refine Zd (hb A) (mD hv (ha A) set_list ht) hs hw h1 pins s σ H D I ?_
 unfold QH Xz at e
 cases e1 : fb ρ with
 | none => simp [e1] at e
 | some v =>
  cases e2 : fa ρ with
  | none => simp [e1,e2] at e
  | some y =>
   cases e3 : getW ρ[i]? with
   | none => simp [e1,e2,e3] at e
   | some x0 =>
    simp only [e1,e2,e3,Option.bind_some] at e
    have hi:=Oa e3
    unfold Ui at e
    split at e
    ·rename_i ds n
     cases e4 : ixN ds.length n with
     | none => simp [e4] at e
     | some j =>
      simp only [e4,Option.map_some] at e
      cases e
      obtain ⟨p,g1,hA,xs,g2,r⟩:=w.ok.ow i _ hi
      refine ⟨ρ,v,w.ok,e1,fun u H1 s1 r1 => ⟨_,g1,ρ,_,(w.mono s1).ok,e2,fun yv H2 s2 r2 => ?_⟩⟩
      cases r2
      refine ⟨p,xs,n,j,rfl,rfl,s2 _ _ (s1 _ _ g2),by rw [r.1]; exact e4,?_⟩
      have w2:=(w.mono s1).mono s2
      refine k _ _ ⟨A,w2.wr hi g1 ⟨xs.set j u,Aj,?_⟩⟩
      rw [Ba hA]
      exact (r.mono (Ao (s1.trans s2))).set (r1.mono (Ao s2)) j
    ·cases e
end
end PV
namespace PV
open PySem PySem.Spec L2
open PyProof.Rows hiding St
section
variable {X : Cx} {G : Gx} {a b c : Expr} {fa fb fc : FE} {pos p2 : Pos} {es : List Expr} {fs : FA}
theorem vr (i : Nat) {x : Str} (hN : X.N[i]? = some x:=by rfl) (hv : Vis X.env.scope x:=by first | exact Or.inl rfl | exact Or.inr (Or.inl rfl) | exact Or.inr (Or.inr rfl)) (hd : (x == ("__debug__" : Str)) = false:=by decide) (hcd : (x == ("__classdict__" : Str)) = false:=by decide) : PF X G (.Name x pos) (vF i):=m7 i (pv i hN hv hd hcd)
theorem vp (i : Nat) {x : Str} (hN : X.N[i]? = some x:=by rfl) (hv : Vis X.env.scope x:=by first | exact Or.inl rfl | exact Or.inr (Or.inl rfl) | exact Or.inr (Or.inr rfl)) (hd : (x == ("__debug__" : Str)) = false:=by decide) (hcd : (x == ("__classdict__" : Str)) = false:=by decide) : PU X G (.Name x pos) (vF i):=PF.pu (vr i hN hv hd hcd)
theorem vq (i : Nat) {x : Str} (hN : X.N[i]? = some x:=by rfl) (hv : Vis X.env.scope x:=by first | exact Or.inl rfl | exact Or.inr (Or.inl rfl) | exact Or.inr (Or.inr rfl)) (hd : (x == ("__debug__" : Str)) = false:=by decide) (hcd : (x == ("__classdict__" : Str)) = false:=by decide) : PU X G (.Name x pos) (vU i):=m8 i (pv i hN hv hd hcd)
theorem pU {e : Expr} {f : FE} (h : PF X G e f) : PU X G e f:=PF.pu h
theorem iP {i j} : PU X G (.Constant (.int i) j pos) (kF (.int i)):=PF.pu Cp
theorem sP {x j} : PU X G (.Constant (.str x) j pos) (kF (.str x)):=PF.pu Cq
theorem iX {k : Nat} (hr : Room k X.A) (ha : PU X G a fa) (hb : PU X G b fb) (hG : G.K = X.K:=by rfl) (hs : MJ b:=by exact fun _ _ => rfl) : PF X G (.Subscript a b pos) (bF ixE fa fb):=nu (FW hr) hG ha hb hs
theorem iD (ha : PU X G a fa) (hb : PU X G b fb) (hG : G.K = X.K:=by rfl) (hs : MJ b:=by exact fun _ _ => rfl) : PF X G (.Subscript a b pos) (bF ixD fa fb):=p7 hG ha hb hs
theorem bAdd (ha : PU X G a fa) (hb : PU X G b fb) (hG : G.K = X.K:=by rfl) : PF X G (.BinOp a .Add b pos) (bF addD fa fb):=Bw gf (by rw [<-hG]; exact gj) ha hb
theorem bSub (ha : PU X G a fa) (hb : PU X G b fb) : PF X G (.BinOp a .Sub b pos) (bF subD fa fb):=Bw mH gQ ha hb
theorem bMul (ha : PU X G a fa) (hb : PU X G b fb) : PF X G (.BinOp a .Mult b pos) (bF mulD fa fb):=Bw gR gU ha hb
theorem bDiv (ha : PU X G a fa) (hb : PU X G b fb) : PF X G (.BinOp a .FloorDiv b pos) (bF Ec fa fb):=Bw fU bK ha hb
theorem bMod (ha : PU X G a fa) (hb : PU X G b fb) : PF X G (.BinOp a .Mod b pos) (bF modD fa fb):=Bw mJ gW ha hb
theorem cEq {k : Nat} (hr : Room k X.A) (ha : PU X G a fa) (hb : PU X G b fb) (hG : G.K = X.K:=by rfl) : PF X G (.Compare a [.Eq] [b] pos) (bF (eqD false) fa fb):=Vo (R7 hG hr.units) (R9 false) ha hb (Jy _)
theorem tEq {k : Nat} (hr : Room k X.A) (ha : PU X G a fa) (hb : PU X G b fb) (hG : G.K = X.K:=by rfl) : PFT X G (.Compare a [.Eq] [b] pos) (blF (bF (eqD false) fa fb)):=Fj (R7 hG hr.units) (R9 false) ha hb (Jy _)
theorem tNe {k : Nat} (hr : Room k X.A) (ha : PU X G a fa) (hb : PU X G b fb) (hG : G.K = X.K:=by rfl) : PFT X G (.Compare a [.NotEq] [b] pos) (blF (bF (eqD true) fa fb)):=Fj (nO hG hr.units) (R9 true) ha hb (Jy _)
theorem cEqF {k : Nat} (hr : Room k X.A) (ha : PU X G a fa) (hb : PU X G b fb) (hG : G.K = X.K:=by rfl) : PF X G (.Compare a [.Eq] [b] pos) (bF (eqF false) fa fb):=Vo ((R7 hG hr.units).or (Xj hG hr.units)) (Xk false) ha hb (Jy _)
theorem tEqF {k : Nat} (hr : Room k X.A) (ha : PU X G a fa) (hb : PU X G b fb) (hG : G.K = X.K:=by rfl) : PFT X G (.Compare a [.Eq] [b] pos) (blF (bF (eqF false) fa fb)):=Fj ((R7 hG hr.units).or (Xj hG hr.units)) (Xk false) ha hb (Jy _)
theorem cIn {k : Nat} (hr : Room k X.A) (ha : PU X G a fa) (hb : PU X G b fb) (hG : G.K = X.K:=by rfl) (hm : behindInMarks .In b = false:=by with_unfolding_all rfl) : PF X G (.Compare a [.In] [b] pos) (bF (inF false) fa fb):=Vo ((Vq.or (Vw (FW hr))).or (cT hG hr.units)) (by rw [<-hG]; exact Su false) ha hb hm
theorem tIn {k : Nat} (hr : Room k X.A) (ha : PU X G a fa) (hb : PU X G b fb) (hG : G.K = X.K:=by rfl) (hm : behindInMarks .In b = false:=by with_unfolding_all rfl) : PFT X G (.Compare a [.In] [b] pos) (blF (bF (inF false) fa fb)):=Fj ((Vq.or (Vw (FW hr))).or (cT hG hr.units)) (by rw [<-hG]; exact Su false) ha hb hm
theorem tNi {k : Nat} (hr : Room k X.A) (ha : PU X G a fa) (hb : PU X G b fb) (hG : G.K = X.K:=by rfl) (hm : behindInMarks .NotIn b = false:=by with_unfolding_all rfl) : PFT X G (.Compare a [.NotIn] [b] pos) (blF (bF (inF true) fa fb)):=Fj ((Yt.or (Y0 (FW hr))).or (Y8 hG hr.units)) (by rw [<-hG]; exact Su true) ha hb hm
theorem tLt (ha : PU X G a fa) (hb : PU X G b fb) : PFT X G (.Compare a [.Lt] [b] pos) (blF (bF ltD fa fb)):=Fj pL m9 ha hb (Jy _)
theorem tGt (ha : PU X G a fa) (hb : PU X G b fb) : PFT X G (.Compare a [.Gt] [b] pos) (blF (bF gtD fa fb)):=Fj pM m_ ha hb (Jy _)
theorem tGe (ha : PU X G a fa) (hb : PU X G b fb) : PFT X G (.Compare a [.GtE] [b] pos) (blF (bF geD fa fb)):=Fj pO nC ha hb (Jy _)
theorem sF (hN : X.N.Nodup) (i : Nat) {x : Str} {p : Pos} (ha : PF X G a fa) (hi : X.N[i]? = some x:=by rfl) (hx : Loc X.env.scope x:=by first | exact Or.inl rfl | exact Or.inr rfl) (hs : swapsWith a (some (.Name x p)) pos.line X.env = pure false:=by rfl)
  (hf : X.fn x = true ∨ X.env.scope.names.lookup x = some .local:=by first | exact .inl rfl | exact .inr rfl | assumption) : PSD X G (.Assign [.Name x p] a pos) (setF i fa):=gw (fun _ h => U_ hN hi hx h hs hf) ha
theorem sW (hN : X.N.Nodup) (i : Nat) {x : Str} {p : Pos} (ha : PN X G a fa) (hi : X.N[i]? = some x:=by rfl) (hx : Loc X.env.scope x:=by first | exact Or.inl rfl | exact Or.inr rfl) (hs : swapsWith a (some (.Name x p)) pos.line X.env = pure false:=by rfl)
  (hf : X.fn x = true ∨ X.env.scope.names.lookup x = some .local:=by first | exact .inl rfl | exact .inr rfl | assumption) (hi0 : i ≠ 0:=by decide) : PSD X G (.Assign [.Name x p] a pos) (setW i fa):=bu (fun _ h => U_ hN hi hx h hs hf) ha hi0
theorem gN (hN : X.N.Nodup) (i : Nat) {x : Str} (hi : X.N[i]? = some x:=by rfl) (hx : Loc X.env.scope x:=by first | exact Or.inl rfl | exact Or.inr rfl) (hf : X.fn x = true ∨ X.env.scope.names.lookup x = some .local:=by first | exact .inl rfl | exact .inr rfl | assumption) : PG X (.Name x pos) (Jv i):=fP hN hi hx hf
theorem cO {N : List Str} {sc scope : Scope} {t : Str} (hN : X.N = N) (hs : X.env.scope = sc) (h : SN N sc scope t = true:=by decide +kernel) : CompOk X scope t:=Yw hN hs h
abbrev nT (N : List Str) (t : Str) : List Str:=N ++ [t]
structure Dx (K : PySem.W.Frag) (mg : Str->Option Value) (x : Str) (st : Stmt) (ps : List Str) where
 f : Addr
 fd : FuncData
 F : FunD K x x st f fd
 B : Binds K fd ps []
 m : mg x = some (.ref f)
abbrev DOk (P : Program) (w : World) (base : Heap) {K : PySem.W.Frag} {mg : Str->Option Value} {x : Str} {st : Stmt} {ps : List Str} (d : Dx K mg x st ps) (k : Nat) (sp : Sp) : Prop:=FnOk P w K mg base CX0 k d.f d.fd ps sp
theorem fX {k k' : Nat} {x : Str} {st : Stmt} {ps : List Str} {p : Pos} {d : Dx X.K X.mg x st ps} {g : List D->Option D} (F : FnOk X.prog X.w X.K X.mg X.base CX0 k d.f d.fd ps (spD G g)) (hr : Room k' X.A) (ha : PFA X G (a :: es) fs) (hle : k<=k':=by omega) (hg : Gl X x:=by rfl) (hdb : (x == ("__debug__" : Str)) = false:=by decide)
  (he : starEach (a :: es) X.env = (false,eval a X.env) :: starEach es X.env:=by rfl) (hpl : (backTo pos (starEach es X.env)).any (·.1) = false:=by rfl) : PF X G (.Call (.Name x p) (a :: es) [] pos) (Ai g fs):=p8 F (hr.mono hle) hg d.m d.F.kp d.B ha hdb he hpl
end
section
variable {K : PySem.W.Frag} {h : Heap} {mg : Str->Option Value} {x qual : Str} {st : Stmt} {ps : List Str} {f C : Addr} {oc : Value} {od an : Option Addr} {osl : Array (Option Value)} {dV kV doc pm cdv ct : Value}
theorem fnX {P : Program} {w : World} {G : Gx} {base : Heap} {N : List Str} {k : Nat} {b : FS} (d : Dx G.K mg x st ps) (S : FnScope N ps (Af st))
  (hb : ∀ (cdv : Value) (A : Around) (outer : List Env) (s : Shared) (H : Hp) (E : XK),Room k (A.deeper (envOfC x (Af st) s.heap.objs.size d.f cdv))->PSDs (cxOf CX0 P w G.K mg base N x (Af st) d.f cdv A outer s H E).nox G (CV st) b) (hl : ps.length<=N.length:=by decide) :
  FnOk P w G.K mg base CX0 (k + 1) d.f d.fd ps (spD G (runF N.length ps.length b)):=qK d.F S hl hb
def dx (X : K.In h) (N : h.Ns mainGlobals mg) (a : PySem.W.nsIn K mainGlobals x = some (some (.ref f))) (l : K.lookup f = some ⟨oc,od,.func (PySem.W.fnOf x x (Di st) (CV st) (Af st) .none kV doc pm an cdv ct),osl⟩) (c : PySem.W.codeIn K cdv x = true) (k : PySem.W.keepIn K (.ref f) = true)
  (b : ∀ (kV doc pm : Value) (an : Option Addr) (cdv ct : Value) (us : List Value),us.length = ps.length->bindArgs (PySem.W.fnOf x x (Di st) (CV st) (Af st) .none kV doc pm an cdv ct) ⟨us,[]⟩ = pure (ps.zip us)) : Dx K mg x st ps:=⟨f,_,Xl l c k,(Ve l c k).binds b,PySem.W.mg_of X N a⟩
def dxD (X : K.In h) (N : h.Ns mainGlobals mg) (a : PySem.W.nsIn K mainGlobals x = some (some (.ref f))) (l : K.lookup f = some ⟨oc,od,.func (PySem.W.fnOf x x (Di st) (CV st) (Af st) dV kV doc pm an cdv ct),osl⟩) (c : PySem.W.codeIn K cdv x = true) (k : PySem.W.keepIn K (.ref f) = true)
  (b : Binds K (PySem.W.fnOf x x (Di st) (CV st) (Af st) dV kV doc pm an cdv ct) ps []) : Dx K mg x st ps:=⟨f,_,Xl l c k,b,PySem.W.mg_of X N a⟩
structure Ix (K : PySem.W.Frag) (C : Addr) (qual : Str) (st : Stmt) (ps : List Str) where
 f : Addr
 fd : FuncData
 F : Fun K "__init__" qual st f fd
 B : Binds K fd ps []
 mM : Mk K C f
def ix (X : K.In h) (m : PySem.W.makesIn K C = true) (kc : PySem.W.keepIn K (.ref C) = true) (a : PySem.W.findIn K (.ref C) "__init__" = some (some (.ref f))) (i : PySem.W.isFn K (.ref f) = true) (l : K.lookup f = some ⟨oc,od,.func (PySem.W.fnOf "__init__" qual (Di st) (CV st) (Af st) .none kV doc pm an cdv ct),osl⟩) (c : PySem.W.codeIn K cdv qual = true) (k : PySem.W.keepIn K (.ref f) = true)
  (b : ∀ (kV doc pm : Value) (an : Option Addr) (cdv ct : Value) (us : List Value),us.length = ps.length->bindArgs (PySem.W.fnOf "__init__" qual (Di st) (CV st) (Af st) .none kV doc pm an cdv ct) ⟨us,[]⟩ = pure (ps.zip us)) : Ix K C qual st ps:=⟨f,_,Ve l c k,(Ve l c k).binds b,m,a,i,kc⟩
structure Sx (mg : Str->Option Value) (x : Str) (f : Tok->Value) where
 t : Tok
 m : mg x = some (f t)
structure Kx (G : Gx) (mg : Str->Option Value) (x : Str) (c : D) where
 a : Addr
 m : mg x = some (.ref a)
 r : Rep G (fun _ => none) (.ref a) c
def sx {t : Tok} {f : Tok->Value} (X : K.In h) (N : h.Ns mainGlobals mg) (a : PySem.W.nsIn K mainGlobals x = some (some (f t))) : Sx mg x f:=⟨t,PySem.W.mg_of X N a⟩
def gx1 (K : PySem.W.Frag) (cn : Str) (C : Addr) : Gx:={ K:=K,cl:=fun c => if c = cn then some C else none }
theorem oN {cn : Str} : (gx1 K cn C).cl cn = some C:=if_pos rfl
theorem cls (X : K.In h) (pg : PySem.W.plainGet K C Str.empty = true) (hd : PySem.W.hasDictIn K C = true) (po : PySem.W.plainOver K C = true) (sa : PySem.W.findIn K (.ref C) "__setattr__" = some (some (.builtin "object.__setattr__"))) : Cls K C:=⟨pg,hd,po,sa⟩
theorem rtx {cn : Str} {g : Addr} {n : Nat} {its : Array Value} {xs : List Str} (X : K.In h) (l : K.lookup g = some ⟨.type "tuple",od,.seq its n,osl⟩) (hz : its.size<=sizeLine) (r : Vals (xs.map V.str) its.toList) : Rep (gx1 K cn C) (fun _ => none) (.ref g) (.tup (xs.map .str)):=Yx l hz r
def kx {cn : Str} {g : Addr} {n : Nat} {its : Array Value} {xs : List Str} (X : K.In h) (N : h.Ns mainGlobals mg) (a : PySem.W.nsIn K mainGlobals x = some (some (.ref g))) (l : K.lookup g = some ⟨.type "tuple",od,.seq its n,osl⟩) (hz : its.size<=sizeLine) (r : Vals (xs.map V.str) its.toList) : Kx (gx1 K cn C) mg x (.tup (xs.map .str)):=⟨g,PySem.W.mg_of X N a,rtx X l hz r⟩
theorem V4 {cn : Str} (X : K.In h) (cl : Cls K C) (n : PySem.W.findIn K (.ref C) x = some none) : ∀ c C',(gx1 K cn C).cl c = some C'->Cls K C'/\Ew K C' x:=fun c C' h => by
 unfold gx1 at h
 simp only at h
 split at h
 ·cases h; exact ⟨cl,n⟩
 ·cases h
end
end PV
namespace PV
open PySem L2
def anyD : D->Option D
 | .lst ds => (blsD ds).map fun bs => .bl (bs.any id)
 | _ => none
theorem S8 {α : Type} (f : α->Bool) : ∀ l : List α,blsD (l.map fun x => .bl (f x)) = some (l.map f)
 | [] => rfl
 | x :: r => by rw [List.map_cons,blsD,S8 f r]; rfl
theorem oO {α : Type} (f : α->Bool) (l : List α) : anyD (.lst (l.map fun x => .bl (f x))) = some (.bl (l.any f)):=by
 unfold anyD
 simp only []
 rw [S8,Option.map_some,List.any_map]
 rfl
theorem oR {α : Type} (f : α->Bool) (l : List α) : allD (.lst (l.map fun x => .bl (f x))) = some (.bl (l.all f)):=by
 unfold allD
 simp only []
 rw [S8,Option.map_some,List.all_map]
 rfl
end PV
namespace PV
open PySem PySem.Spec L2
open PyProof.Rows hiding St
section
variable {X : Cx} {G : Gx} {a : Expr} {fa : FE} {pos : Pos} {es : List Expr} {fs : FA}
theorem RX (hc : X.calm = true) : Dh X (.builtin "any") (fun xs H Q => ∃ (p : Addr) (bs : List Bool),xs = [.ref p]/\SqL X.K H p (bs.map V.bl)/\Q (.bl (bs.any id)) H):=by
 intro pins s σ H xs us Q I r h
 obtain ⟨p,bs,rfl,hs,k⟩:=h
 obtain ⟨u,rfl,ru⟩:=r.one
 cases ru
 obtain ⟨its,rv,pl,hz⟩:=I.list hs
 have hl:=pl.isList
 have hlt : p ≠ s.heap.objs.size:=by obtain ⟨o,ho,_⟩:=hl; exact Nat.ne_of_lt (Heap.lt_size ho)
 have hlen : bs.length = its.length:=by have:=rv.length; rwa [List.length_map] at this
 refine call_any_walk (wpAny_pyIter_list hl ?_)
 refine ⟨_,_,_,_,_,_,fun i => bs.getD i true,rfl,Walks.list (A:=X.A.in1) (I.ok.hd hc) s.heap.objs.size p hlt its.toArray,⟨⟨_,Heap.get?_push_size _ rfl,rfl,rfl⟩,hl.push _⟩,?_,fun h' tk kk => ?_⟩
 ·intro i v s' Q' E' hv hq
  have hi : its[i]? = some v:=by simpa using hv
  have hlt' : i < bs.length:=by rw [hlen]; exact (List.getElem?_eq_some_iff.mp hi).1
  obtain ⟨u',hu,ru⟩:=rv.get (i:=i) (x:=.bl (bs[i]'hlt')) (by rw [List.getElem?_map]; simp [hlt'])
  rw [hi] at hu
  cases hu
  cases (show v = Value.bool (bs[i]'hlt') from ru)
  have e : bs.getD i true = bs[i]'hlt':=by simp [List.getD,hlt']
  have hq' : Q' (bs.getD i true) s':=hq
  rw [e] at hq'
  exact wpAny_truthy_bool hq'
 ·refine ⟨.bl (bs.any id),H,I.kept (fun b o e => kk b o ?_ (Heap.get?_push_of_some _ e)),?_,k⟩
  ·intro hb
   have : b = s.heap.objs.size:=by simpa using hb
   exact absurd (Heap.lt_size e) (by rw [this]; exact Nat.lt_irrefl _)
  ·show Value.bool _ = Value.bool _
   congr 1
   rw [List.size_toArray,<-hlen]
   rw [Bool.eq_iff_iff,List.any_eq_true,List.any_eq_true]
   constructor
   ·rintro ⟨i,hi,q⟩
    have hi':=List.mem_range.mp hi
    exact ⟨bs[i]'hi',List.getElem_mem hi',by simpa [List.getD,hi'] using q⟩
   ·rintro ⟨b,hb,q⟩
    obtain ⟨i,hi,rfl⟩:=List.getElem_of_mem hb
    exact ⟨i,List.mem_range.mpr hi,by simpa [List.getD,hi] using q⟩
theorem X3 : SndC G (fun xs H Q => ∃ (p : Addr) (bs : List Bool),xs = [.ref p]/\SqL G.K H p (bs.map V.bl)/\Q (.bl (bs.any id)) H) anyD:=by
 intro A H x dx d Q lv rx h k
 unfold anyD at h
 split at h
 ·rename_i ds
  cases e : blsD ds with
  | none => simp [e] at h
  | some bs =>
   rw [e] at h
   cases h
   obtain ⟨p,xs,rfl,h1,r⟩:=rx.lst
   have e2:=Sq r e
   subst e2
   exact ⟨p,bs,rfl,h1,k _ H (Same.refl H) (.bl _)⟩
 ·cases h
theorem dH : bootBuiltins "any" = some (.builtin "any"):=by decide +kernel
end
end PV
namespace PV
open PySem L2
def km (d k x : D) : Option D:=match d with
 | .dk kds => (keyD k).map fun q => (getK q kds).getD x
 | _ => none
def X4 (d k x : Option D) : Option D:=d.bind fun d => k.bind fun k => x.bind fun x => km d k x
def getF (fd fk fx : FE) : FE:=fun ρ => X4 (fd ρ) (fk ρ) (fx ρ)
def J6 (kds more : List (Key × D)) : List (Key × D):=more.foldl (fun a p => putL p.1 p.2 a) kds
def updL (x v : D) : Option D:=match x,v with
 | .dk kds,.dk more => if kds.length + more.length<=1000000 then some (.dk (J6 kds more)) else none
 | _,_ => none
theorem dI (fd fk fx : FE) (ρ : Rho) : getF fd fk fx ρ = X4 (fd ρ) (fk ρ) (fx ρ):=of_eq_true (eq_self _)
theorem X5 (kds : List (Key × D)) (x : Str) (v : D) : X4 (some (.dk kds)) (some (.str x)) (some v) = some ((getK (.inr x) kds).getD v):=of_eq_true (eq_self _)
end PV
namespace PV
open PySem PySem.Spec L2
open PyProof.Rows hiding St
section
variable {X : Cx} {G : Gx} {a b c : Expr} {fa fb fc : FE} {pos p2 : Pos}
theorem dJ {k : Nat} {apos : Pos} (hr : Room k X.A) (ha : PU X G a fa) (hb : PF X G b fb) (hc : PF X G c fc) (m1 : attributeBase a "get" X.env (eval a X.env) = eval a X.env:=by rfl)
  (m2 : ((backTo pos (starEach [b,c] X.env)).all (fun x => !x.1) && (backToKw pos (keywordEach [] X.env)).all (fun x => x.1.isSome) && decide (([b,c] : List Expr).length + ([] : List Keyword).length + (if ([] : List Keyword).isEmpty then 0 else 1) < 30)) = true:=by rfl)
  (m3 : (apos.endLine == pos.line) = true:=by rfl) (m4 : backTo pos (starEach [b,c] X.env) = [(false,eval b X.env),(false,eval c X.env)]:=by rfl) : PF X G (.Call (.Attribute a "get" apos) [b,c] [] pos) (getF fa fb fc):=
 fun A => Ca (Z8 (FW hr) (ha A) (hb A) (hc A) ⟨m1,m2,m3,m4⟩) fun σ H Q ⟨ρ,d,o,e,kk⟩ => by
  unfold getF X4 at e
  cases e1 : fa ρ with
  | none => simp [e1] at e
  | some d1 =>
   cases e2 : fb ρ with
   | none => simp [e1,e2] at e
   | some d2 =>
    cases e3 : fc ρ with
    | none => simp [e1,e2,e3] at e
    | some d3 =>
     simp only [e1,e2,e3,Option.bind_some] at e
     unfold km at e
     split at e
     ·rename_i kds
      cases e4 : keyD d2 with
      | none => simp [e4] at e
      | some q =>
       rw [e4] at e
       cases e
       refine ⟨ρ,_,o,e1,fun v H1 s1 r1 => ?_⟩
       obtain ⟨p,kvs,rfl,h1,hk,r⟩:=r1.dk
       refine ⟨p,rfl,.inl ⟨kvs,h1⟩,ρ,d2,o.mono s1,e2,fun y H2 s2 r2 => ⟨ρ,d3,(o.mono s1).mono s2,e3,fun z H3 s3 r3 => ?_⟩⟩
       have ek:=JL r2 e4
       subst ek
       refine ⟨valV kvs q,.inl ⟨kvs,q,gP (s2.trans s3) h1,rfl,rfl⟩,kk _ H3 (s1.trans (s2.trans s3)) ?_⟩
       have g:=Kq (k:=q) hk (r.mono (Ao (s2.trans s3)))
       show Rep G (hid A H3) ((valV kvs q).getD z) ((getK q kds).getD d3)
       cases e5 : getK q kds with
       | none =>
        have : valV kvs q = none:=by have:=g.2; rw [e5] at this; simpa using this
        rw [this]
        exact r3
       | some d =>
        obtain ⟨v,hv,rv⟩:=g.1 d e5
        rw [hv]
        exact rv
     ·cases e
def Ib (kvs more : List (Key × V)) : List (Key × V):=more.foldl (fun a p => putK a p.1 p.2) kvs
theorem Uj : ∀ {more : List (Key × V)} {ms : List (Key × Value)} {kvs : List (Key × V)} {vs : List (Key × Value)},KV more ms->KV kvs vs->KV (Ib kvs more) (merged vs ms)
 | [],[],_,_,_,r => r
 | p :: more,q :: ms,kvs,vs,h,r => by
  cases h with
  | cons h1 h2 =>
   show KV (Ib (putK kvs p.1 p.2) more) (merged (stored vs q.1 q.2) ms)
   rw [h1.1]
   exact Uj h2 (r.put q.1 h1.2)
theorem RZ : ∀ (more kvs : List (Key × V)),(Ib kvs more).length<=kvs.length + more.length
 | [],kvs => Nat.le_refl _
 | p :: more,kvs => by
  have:=RZ more (putK kvs p.1 p.2)
  have:=J0 kvs p.1 p.2
  show (Ib (putK kvs p.1 p.2) more).length<=_
  rw [List.length_cons]
  omega
theorem Y_ : MtR X "dict.update" (fun x vs H Q => ∃ (a b : Addr) (kvs more : List (Key × V)),x = .ref a/\vs = [.ref b]/\a ≠ b/\H a = some (.dK kvs)/\Rd H b (.dK more)/\kvs.length + more.length<=sizeLine/\Q .non (upd H a (.dK (Ib kvs more)))):=by
 intro pins s σ H x vs v us Q I rx rv h
 obtain ⟨a,b,kvs,more,rfl,rfl,hab,ea,eb,hz,q⟩:=h
 cases rx
 obtain ⟨u,rfl,ru⟩:=rv.one
 cases ru
 obtain ⟨z,hd,ws,rel,dd⟩:=Z3 I.hok ea
 obtain ⟨z2,hd2,ms,rel2,dd2⟩:=I_ I.hok eb
 have l1 : kvs.length = ws.length:=rel.length
 have l2 : more.length = ms.length:=rel2.length
 refine call_meetsIn PySem.F.slot_dict_update dd.typeIs PySem.F.entry_dict_update (PySem.F.args_dict_update_2 _ _) (meets_dict_update (Ax X.prog X.w) a b hab hd2) ⟨ws,ms,dd,dd2,by omega,fun h' dd' _ hs => ?_⟩
 have he : ∃ q,h'.get? a = some q:=let ⟨q,_,_,hq,_⟩:=dd'; ⟨q,hq⟩
 refine ⟨.non,_,MT (t':=s.toks) I (by rw [ea]; exact True.intro) hs he (Vd (Nat.le_trans (RZ more kvs) hz) hd (Uj rel2 rel) dd'),rfl,q⟩
theorem Uk {H : Hp} : ∀ {md : List (Key × D)} {mv : List (Key × V)} {kds : List (Key × D)} {kvs : List (Key × V)},mv.map (·.1) = md.map (·.1)->RepL G H (mv.map (·.2)) (md.map (·.2))->kvs.map (·.1) = kds.map (·.1)->RepL G H (kvs.map (·.2)) (kds.map (·.2)) ->
  (Ib kvs mv).map (·.1) = (J6 kds md).map (·.1)/\RepL G H ((Ib kvs mv).map (·.2)) ((J6 kds md).map (·.2))
 | [],[],_,_,_,_,e,r => ⟨e,r⟩
 | [],_ :: _,_,_,h,_,_,_ => by simp at h
 | _ :: _,[],_,_,h,_,_,_ => by simp at h
 | d :: md,p :: mv,kds,kvs,h,hr,e,r => by
  rw [List.map_cons,List.map_cons] at h
  injection h with h1 h2
  rw [List.map_cons,List.map_cons] at hr
  obtain ⟨x,ys,ex,r1,r2⟩:=hr.uncons
  injection ex with ex1 ex2
  subst ex1 ex2
  have pk:=PB (k:=d.1) r1 e r
  show (Ib (putK kvs p.1 p.2) mv).map (·.1) = (J6 (putL d.1 d.2 kds) md).map (·.1)/\RepL G H ((Ib (putK kvs p.1 p.2) mv).map (·.2)) ((J6 (putL d.1 d.2 kds) md).map (·.2))
  rw [h1]
  exact Uk h2 r2 pk.1 pk.2
theorem jB {i : Nat} {x : Str} {xpos apos : Pos} (hv : PE X (.Name x xpos) (tVar i)) (ha : PF X G a fa)
  (hbase : attributeBase (.Name x xpos) "update" X.env (eval (.Name x xpos) X.env) = eval (.Name x xpos) X.env:=by rfl)
  (hfew : ((backTo pos (starEach [a] X.env)).all (fun x => !x.1) && (backToKw pos (keywordEach [] X.env)).all (fun x => x.1.isSome) && decide ([a].length + ([] : List Keyword).length + (if ([] : List Keyword).isEmpty then 0 else 1) < 30)) = true:=by rfl)
  (hline : (apos.endLine == pos.line) = true:=by rfl) (hs : starEach [a] X.env = [(false,eval a X.env)]:=by rfl) (hsw : swapsWith (.Call (.Attribute (.Name x xpos) "update" apos) [a] [] pos) none p2.line X.env = pure false:=by rfl) :
  PSD X G (.Expr (.Call (.Attribute (.Name x xpos) "update" apos) [a] [] pos) p2) (mutF updL i fa):=fun A0 He pins s σ H D I ⟨ρ,o,⟨A,w⟩,e,k⟩ => by
 obtain ⟨v,x0,y,e1,hi,e2,rfl⟩:=N6 e
 refine Lz (Wc PySem.F.plainAttrs_dict PySem.F.slot_dict_update PySem.F.type_dict_update Y_ hv (DK (ha A) Ga hs) hbase hfew hline hs rfl) hsw pins s σ H D I ?_
 unfold updL at e2
 split at e2
 ·rename_i kds md
  split at e2
  ·rename_i hz
   cases e2
   obtain ⟨p,h1,hA,kvs,h2,hk,r⟩:=w.ok.ow i _ hi
   refine ⟨_,h1,.inr (.inr (.inl ⟨rfl,.inl ⟨kvs,h2⟩⟩)),ρ,_,w.ok,e1,fun u H1 s1 r1 => ?_⟩
   cases r1 with
   | @dk q ob mv _ hq hm hr =>
   have rm : RepL G (hid A H1) (mv.map (·.2)) (md.map (·.2)):=⟨by have:=congrArg List.length hm; simpa using this,hr⟩
   have ne : p ≠ q:=fun z => by
    unfold hid at hq
    rw [<-z,if_pos hA] at hq
    cases hq
   have h3 : Rd H1 q (.dK mv):=.inr ⟨ob,Az _ _ hq⟩
   have lk:=congrArg List.length hk
   have lm:=congrArg List.length hm
   rw [List.length_map,List.length_map] at lk lm
   refine ⟨p,q,kvs,mv,rfl,rfl,ne,s1 _ _ h2,h3,Nat.le_trans (by omega) (show 1000000<=sizeLine by decide),?_⟩
   have w1:=w.mono s1
   have mo:=Uk hm rm hk (r.mono (Ao s1))
   refine k _ _ ⟨A,w1.wr hi h1 ⟨_,Aj,mo.1,?_⟩⟩
   rw [Ba hA]
   exact mo.2
  ·cases e2
 ·cases e2
end
end PV
namespace K17
open PySem PySem.Spec L2 PV
open PyProof.Rows hiding St
noncomputable section
def c_KEPT_TEXTS : D:=(.tup ((["not", "and", "or", "some", "all"] : List Str).map .str))
def c_FACTS : D:=(.tup ((["mark", "tie", "same"] : List Str).map .str))
def c_BINDERS : D:=(.tup ((["some", "all"] : List Str).map .str))
def Dp : FS:=seqF (setF 3 (bF addD (vF 3) (bF ixD (vF 1) (bF modD (bF Ec (vF 2) (kF (.int 7))) (kF (.int 26)))))) (setF 2 (bF Ec (vF 2) (kF (.int 11))))
def Hh : FE:=bF addD (bF addD (slF (vF 3) (noO) (someO (vF 5))) (bF ixD (vF 1) (bF modD (bF addD (bF Ec (vF 2) (kF (.int 5))) (bF mulD (kF (.int 5)) (vF 7))) (kF (.int 26))))) (slF (vF 3) (someO (vF 5)) (noO))
def Hi : FE:=bF ixD (vF 1) (bF modD (bF Ec (vF 2) (bF addD (kF (.int 3)) (bF mulD (vF 7) (vF 7)))) (kF (.int 26)))
def Hj : FE:=slF (vF 3) (noO) (someO (bF addD (vF 7) (kF (.int 1))))
def Bc : FT:=blF (bF (inD false) (vF 7) (lstF (Ab (kF (.str "not")) (Ab (kF (.str "and")) (Ab (kF (.str "or")) (Ab (kF (.str "some")) (Ab (kF (.str "all")) (nilA))))))))
def CP : FE:=vF 7
def Dq : FE:=bF addD (kF (.str "z")) (vF 7)
def Dz : FS:=seqF (setF 1 (kF (.str "abcdefghijklmnopqrstuvwxyz"))) (seqF (setF 2 (bF modD (bF mulD (vF 0) (kF (.int 1000000007))) (bF powD (kF (.int 10)) (kF (.int 18))))) (seqF (setF 3 (kF (.str ""))) (seqF (forS (rngI (bF modD (vF 2) (kF (.int 7)))) (BW 4) (Dp)) (seqF (setF 5 (bF modD (bF Ec (vF 2) (kF (.int 7))) (bF addD (uF lenD (vF 3)) (kF (.int 1))))) (seqF (setF 6 (Av (rngI (kF (.int 6))) (allT) (Hh))) (seqF (ifS (blF (bF (eqD false) (bF modD (vF 2) (kF (.int 3))) (kF (.int 0)))) (seqF (setF 3 (bF Wf (kF (.str "")) (Av (rngI (kF (.int 6))) (allT) (Hi)))) (setF 6 (Av (rngI (kF (.int 6))) (allT) (Hj)))) (nxF)) (seqF (ifS (blF (bF gtD (uF lenD (Av (seqI (vF 6)) (Bc) (CP))) (kF (.int 0)))) (retF (Av (seqI (vF 6)) (allT) (Dq))) (nxF)) (retF (vF 6)))))))))
def DQ : List D->Option D:=runF 7 1 Dz
def Ft : FT:=blF (bF (eqD false) (bF K4 (bF shrD (vF 3) (bF addD (bF mulD (kF (.int 5)) (vF 6)) (vF 10))) (kF (.int 1))) (kF (.int 1)))
def J7 : FE:=vF 10
def Dr : FS:=putF 5 (bF ixE (vF 2) (vF 6)) (Av (rngI (vF 4)) (Ft) (J7))
def Fv : FT:=blF (bF (eqD false) (bF K4 (bF shrD (vF 3) (bF addD (bF addD (bF addD (kF (.int 15)) (bF mulD (kF (.int 25)) (vF 6))) (bF mulD (kF (.int 5)) (vF 9))) (vF 10))) (kF (.int 1))) (kF (.int 1)))
def Hk : FE:=tupF (Ab (vF 9) (Ab (vF 10) (nilA)))
def Fw : FS:=setF 8 (bF addD (vF 8) (Av (rngI (vF 4)) (Fv) (Hk)))
def Cz : FS:=seqF (setF 8 (lstF (nilA))) (seqF (forS (rngI (vF 4)) (BW 9) (Fw)) (putF 7 (bF ixE (vF 2) (bF subD (kF (.int 5)) (vF 6))) (vF 8)))
def HJ : FS:=seqF (setF 3 (bF modD (bF mulD (vF 1) (kF (.int 27182818284590452353602874713526624977572470936999595749669))) (bF shlD (kF (.int 1)) (kF (.int 90))))) (seqF (ifS (blF (bF (eqD false) (bF modD (vF 0) (kF (.int 3))) (kF (.int 2)))) (setF 3 (bF modD (vF 1) (bF shlD (kF (.int 1)) (kF (.int 90))))) (nxF)) (seqF (setF 0 (bF modD (bF mulD (bF Ec (vF 0) (kF (.int 3))) (kF (.int 1000000007))) (kF (.int 2147483647)))) (seqF (setF 4 (bF modD (vF 0) (kF (.int 6)))) (seqF (setW 5 (kF (.dk []))) (seqF (forS (rngI (bF modD (bF Ec (vF 0) (kF (.int 6))) (kF (.int 4)))) (BW 6) (Dr)) (seqF (setW 7 (kF (.dk []))) (seqF (forS (rngI (bF modD (bF Ec (vF 0) (kF (.int 24))) (kF (.int 4)))) (BW 6) (Cz)) (fzS [5,7] (retF (lstF (Ab (vF 4) (Ab (vF 5) (Ab (vF 7) (nilA))))))))))))))
def Bx : List D->Option D:=runF 10 3 HJ
def Hl : FE:=bF ixD (vF 1) (bF modD (bF addD (bF modD (vF 0) (kF (.int 26))) (bF mulD (bF addD (kF (.int 7)) (bF mulD (bF modD (bF Ec (vF 0) (kF (.int 26))) (kF (.int 2))) (kF (.int 2)))) (vF 3))) (kF (.int 26)))
def Je : FS:=seqF (setF 1 (kF (.str "abcdefghijklmnopqrstuvwxyz"))) (seqF (setF 2 (bF addD (kF (.int 2)) (bF modD (bF modD (bF mulD (vF 0) (kF (.int 1000000007))) (kF (.int 2147483647))) (kF (.int 5))))) (retF (Av (rngI (vF 2)) (allT) (Hl))))
def HN : List D->Option D:=runF 3 1 Je
def Hw : FS:=seqF (ifS (blF (bF ltD (vF 1) (uF lenD (vF 0)))) (retF (bF ixD (vF 0) (vF 1))) (nxF)) (retF (kF (.int 0)))
def Ak : List D->Option D:=runF 2 2 Hw
def Ep : FS:=putF 7 (vF 8) (getF (vF 5) (vF 8) (lstF (nilA)))
def G8 : FE:=tupF (Ab (vF 10) (Ab (vF 10) (nilA)))
def Er : FS:=putF 9 (vF 8) (getF (vF 6) (vF 8) (Av (rngI (vF 4)) (allT) (G8)))
def Il : FS:=seqF (asgF (Ai (Bx) (Ab (Ai (Ak) (Ab (vF 0) (Ab (kF (.int 5)) (nilA)))) (Ab (Ai (Ak) (Ab (vF 0) (Ab (kF (.int 6)) (nilA)))) (Ab (vF 1) (nilA))))) (tupG 3 (Bo 4 (Bo 5 (Bo 6 (nilG)))))) (seqF (setW 7 (kF (.dk []))) (seqF (forS (seqA (vF 2)) (BW 8) (Ep)) (seqF (setW 9 (kF (.dk []))) (seqF (forS (seqA (vF 3)) (BW 8) (Er)) (fzS [7,9] (retF (lstF (Ab (vF 4) (Ab (vF 7) (Ab (vF 9) (nilA)))))))))))
def Ei : List D->Option D:=runF 10 4 Il
def Im : FS:=seqF (setW 2 (uF Om (vF 0))) (seqF (mutF updL 2 (vF 1)) (fzS [2] (retF (vF 2))))
def Ej : List D->Option D:=runF 3 2 Im
def Hm : FS:=ifS (blF (bF gtD (vF 0) (vF 1))) (badF) (nxF)
def Bd : List D->Option D:=runF 2 2 Hm
def Fx : FS:=ifS (orT (blF (bF ltD (vF 1) (kF (.int 0)))) (blF (bF geD (vF 1) (vF 0)))) (badF) (nxF)
def Be : List D->Option D:=runF 2 2 Fx
def Es : FS:=seqF (GZ (Ai (Be) (Ab (vF 0) (Ab (vF 3) (nilA))))) (putF 2 (vF 3) (kF (.bl true)))
def Io : FS:=seqF (setW 2 (kF (.dk []))) (seqF (forS (seqA (vF 1)) (BW 3) (Es)) (fzS [2] (retF (vF 2))))
def De : List D->Option D:=runF 4 2 Io
def Fy : FS:=seqF (GZ (Ai (Be) (Ab (vF 0) (Ab (vF 3) (nilA))))) (seqF (GZ (Ai (Be) (Ab (vF 0) (Ab (vF 4) (nilA))))) (UT 2 (Ab (vF 3) (Ab (vF 4) (nilA))) (kF (.bl true))))
def Jf : FS:=seqF (setW 2 (kF (.dt []))) (seqF (forS (seqA (vF 1)) (tupG 2 (Bo 3 (Bo 4 (nilG)))) (Fy)) (fzS [2] (retF (vF 2))))
def D_ : List D->Option D:=runF 5 2 Jf
def G5 : FE:=bF (inF false) (vF 1) (kF (.str "abcdefghijklmnopqrstuvwxyz"))
def Ob : FS:=seqF (ifS (orT (blF (bF (inF false) (vF 0) (kF c_KEPT_TEXTS))) (orT (blF (bF (eqD false) (uF lenE (vF 0)) (kF (.int 0)))) (blF (bF gtD (uF lenE (vF 0)) (kF (.int 8)))))) (retF (kF (.bl false))) (nxF)) (retF (uF allD (Av (seqA (vF 0)) (allT) (G5))))
def EY : List D->Option D:=runF 1 1 Ob
def CQ : FEs:=Hd (ifE (QD (notT (trF (Ai (EY) (Ab (vF 4) (nilA))))))) (Ot "marked" (vF 4) (Ai (De) (Ab (vF 1) (Ab (vF 5) (nilA)))))
def CT : FEs:=Hd (ifE (orTE (QD (notT (trF (Ai (EY) (Ab (vF 4) (nilA)))))) (inTE "marked" (vF 4)))) (Ot "tied" (vF 4) (Ai (D_) (Ab (vF 1) (Ab (vF 6) (nilA)))))
def Gi : FEs:=Hd (pureE (GZ (Ai (Bd) (Ab (vF 1) (Ab (kF (.int 5)) (nilA)))))) (Hd (pureE (GZ (Ai (Bd) (Ab (uF lenE (vF 2)) (Ab (kF (.int 3)) (nilA)))))) (Hd (pureE (GZ (Ai (Bd) (Ab (uF lenE (vF 3)) (Ab (kF (.int 3)) (nilA)))))) (Hd (Xf "size" (vF 1)) (Hd (Oq "marked" (kF (.dk []))) (Hd (Oq "tied" (kF (.dk []))) (Hd (forE (Lp (vF 2)) (tupG 2 (Bo 4 (Bo 5 (nilG)))) (CQ)) (Hd (forE (Lp (vF 3)) (tupG 2 (Bo 4 (Bo 6 (nilG)))) (CT)) (nilE))))))))
def CK : Addr->List D->Option Ef:=runI 7 4 Gi
def Et : FS:=seqF (putF 3 (vF 4) (bF modD (vF 0) (bF maxD (vF 2) (kF (.int 1))))) (setF 0 (bF Ec (vF 0) (kF (.int 7))))
def Ip : FS:=seqF (setW 3 (kF (.dk []))) (seqF (forS (seqA (vF 1)) (BW 4) (Et)) (fzS [3] (retF (vF 3))))
def Gr : List D->Option D:=runF 5 3 Ip
def Ds : FS:=seqF (setF 4 (bF ixD (vF 3) (bF modD (bF Ec (vF 0) (kF (.int 3))) (uF lenD (vF 3))))) (seqF (setF 5 (bF ixD (vF 3) (bF modD (bF Ec (vF 0) (kF (.int 21))) (uF lenD (vF 3))))) (seqF (ifS (andT (blF (bF (eqD false) (bF modD (vF 0) (kF (.int 3))) (kF (.int 1)))) (blF (bF (eqD true) (vF 1) (lstF (nilA))))) (retF (tupF (Ab (kF (.str "mark")) (Ab (bF ixD (vF 1) (bF modD (bF Ec (vF 0) (kF (.int 147))) (uF lenD (vF 1)))) (Ab (vF 4) (nilA)))))) (nxF)) (seqF (ifS (andT (blF (bF (eqD false) (bF modD (vF 0) (kF (.int 3))) (kF (.int 2)))) (blF (bF (eqD true) (vF 2) (lstF (nilA))))) (retF (tupF (Ab (kF (.str "tie")) (Ab (bF ixD (vF 2) (bF modD (bF Ec (vF 0) (kF (.int 147))) (uF lenD (vF 2)))) (Ab (vF 4) (Ab (vF 5) (nilA))))))) (nxF)) (retF (tupF (Ab (kF (.str "same")) (Ab (vF 4) (Ab (vF 5) (nilA)))))))))
def Bt : List D->Option D:=runF 6 4 Ds
def BJ : FS:=seqF (setF 7 (bF modD (bF mulD (bF Ec (vF 6) (kF (.int 8))) (kF (.int 1000000007))) (kF (.int 2147483647)))) (seqF (setF 8 (bF ixE (vU 5) (uF negD (kF (.int 1))))) (ifS (andT (blF (bF gtD (bF modD (vF 6) (kF (.int 8))) (kF (.int 5)))) (blF (bF ltD (bF ixE (vF 8) (kF (.int 1))) (vF 4)))) (QH 5 (uF negD (kF (.int 1))) (lstF (Ab (tupF (Ab (bF ixE (lstF (Ab (kF (.str "some")) (Ab (kF (.str "all")) (nilA)))) (bF modD (vF 7) (kF (.int 2)))) (Ab (bF ixE (vF 3) (bF modD (bF Ec (vF 7) (kF (.int 2))) (uF lenE (vF 3)))) (Ab (bF ixE (vF 8) (kF (.int 0))) (nilA))))) (Ab (bF addD (bF ixE (vF 8) (kF (.int 1))) (kF (.int 1))) (nilA))))) (ifS (blF (bF (eqD false) (bF modD (vF 6) (kF (.int 8))) (kF (.int 5)))) (QH 5 (uF negD (kF (.int 1))) (lstF (Ab (tupF (Ab (kF (.str "not")) (Ab (bF ixE (vF 8) (kF (.int 0))) (nilA)))) (Ab (bF ixE (vF 8) (kF (.int 1))) (nilA))))) (ifS (andT (blF (bF gtD (bF modD (vF 6) (kF (.int 8))) (kF (.int 2)))) (blF (bF gtD (uF lenE (vU 5)) (kF (.int 1))))) (seqF (popF 5) (QH 5 (uF negD (kF (.int 1))) (lstF (Ab (tupF (Ab (bF ixE (lstF (Ab (kF (.str "both")) (Ab (kF (.str "either")) (nilA)))) (bF modD (vF 7) (kF (.int 2)))) (Ab (bF ixE (bF ixE (vU 5) (uF negD (kF (.int 1)))) (kF (.int 0))) (Ab (bF ixE (vF 8) (kF (.int 0))) (nilA))))) (Ab (bF maxD (bF ixE (bF ixE (vU 5) (uF negD (kF (.int 1)))) (kF (.int 1))) (bF ixE (vF 8) (kF (.int 1)))) (nilA)))))) (mutF appL 5 (lstF (Ab (Ai (Bt) (Ab (vF 7) (Ab (vF 1) (Ab (vF 2) (Ab (vF 3) (nilA)))))) (Ab (kF (.int 0)) (nilA)))))))))
def C_ : FT:=blF (bF gtD (uF lenE (vU 5)) (kF (.int 1)))
def Fz : FS:=seqF (popT 5 8) (QH 5 (uF negD (kF (.int 1))) (lstF (Ab (tupF (Ab (bF ixE (lstF (Ab (kF (.str "either")) (Ab (kF (.str "both")) (nilA)))) (bF modD (uF lenE (vU 5)) (kF (.int 2)))) (Ab (bF ixE (bF ixE (vU 5) (uF negD (kF (.int 1)))) (kF (.int 0))) (Ab (bF ixE (vF 8) (kF (.int 0))) (nilA))))) (Ab (bF maxD (bF ixE (bF ixE (vU 5) (uF negD (kF (.int 1)))) (kF (.int 1))) (bF ixE (vF 8) (kF (.int 1)))) (nilA)))))
def Jg : FS:=seqF (setW 5 (lstF (Ab (lstF (Ab (Ai (Bt) (Ab (uF lenE (vF 0)) (Ab (vF 1) (Ab (vF 2) (Ab (vF 3) (nilA)))))) (Ab (kF (.int 0)) (nilA)))) (nilA)))) (seqF (forS (seqA (vF 0)) (BW 6) (BJ)) (seqF (Ie (C_) (Fz) 60) (retF (bF ixE (vU 5) (kF (.int 0))))))
def F_ : List D->Option D:=runF 9 5 Jg
def G9 : FS:=setF 0 (tupF (Ab (bF ixE (lstF (Ab (kF (.str "some")) (Ab (kF (.str "all")) (nilA)))) (bF modD (bF Ec (vF 2) (bF ixE (lstF (Ab (kF (.int 1)) (Ab (kF (.int 2)) (Ab (kF (.int 4)) (nilA))))) (vF 3))) (kF (.int 2)))) (Ab (bF ixE (vF 1) (vF 3)) (Ab (vF 0) (nilA)))))
def Gs : FS:=seqF (forS (rngI (uF lenE (vF 1))) (BW 3) (G9)) (retF (vF 0))
def Ek : List D->Option D:=runF 4 3 Gs
def Jh : FS:=seqF (ifS (blF (bF (inF false) (bF ixE (vF 0) (kF (.int 0))) (kF c_FACTS))) (retF (tupF (nilA))) (nxF)) (seqF (ifS (blF (bF (inF false) (bF ixE (vF 0) (kF (.int 0))) (kF c_BINDERS))) (retF (slF (vF 0) (someO (kF (.int 2))) (noO))) (nxF)) (retF (slF (vF 0) (someO (kF (.int 1))) (noO))))
def Bq : List D->Option D:=runF 1 1 Jh
def Hn : FS:=seqF (ifS (blF (bF (eqD false) (bF ixE (vF 0) (kF (.int 0))) (kF (.str "same")))) (retF (slF (vF 0) (someO (kF (.int 1))) (noO))) (nxF)) (retF (slF (vF 0) (someO (kF (.int 2))) (noO)))
def Ez : List D->Option D:=runF 1 1 Hn
def GC (rec_free_names : List D->Option D) : FS:=mutF extL 1 (Ai (rec_free_names) (Ab (vF 2) (nilA)))
def Dt (rec_free_names : List D->Option D) : FT:=blF (bF (eqD true) (vF 3) (bF ixE (vF 0) (kF (.int 1))))
def Ho (rec_free_names : List D->Option D) : FE:=vF 3
def Ea (rec_free_names : List D->Option D) : FS:=seqF (ifS (blF (bF (inF false) (bF ixE (vF 0) (kF (.int 0))) (kF c_FACTS))) (retF (uF ssD (Ai (Ez) (Ab (vF 0) (nilA))))) (nxF)) (seqF (setW 1 (lstF (nilA))) (seqF (forS (seqA (Ai (Bq) (Ab (vF 0) (nilA)))) (BW 2) ((GC rec_free_names))) (seqF (ifS (blF (bF (inF false) (bF ixE (vF 0) (kF (.int 0))) (kF c_BINDERS))) (setW 1 (Av (seqI (vU 1)) ((Dt rec_free_names)) ((Ho rec_free_names)))) (nxF)) (retF (uF ssD (vU 1))))))
def BL : Nat->List D->Option D
 | 0 => fun _ => none
 | n + 1 => runF 3 1 (Ea (BL n))
def Cu : FS:=ifS (blF (bF (inF true) (vF 3) (vF 2))) (badF) (nxF)
def Cv : FS:=GZ (Ai (Be) (Ab (uF (fldD "size") (vF 0)) (Ab (bF ixE (vF 2) (vF 3)) (nilA))))
def GD : FS:=seqF (forS (seqA (vF 1)) (BW 3) (Cu)) (forS (seqA (vF 1)) (BW 3) (Cv))
def Dk : List D->Option D:=runF 4 3 GD
def Br (rec_refuse_strange_words : List D->Option D) : FS:=GZ (Ai (rec_refuse_strange_words) (Ab (vF 0) (Ab (vF 2) (nilA))))
def An (rec_refuse_strange_words : List D->Option D) : FS:=seqF (ifS (andT (blF (bF (eqD false) (bF ixE (vF 1) (kF (.int 0))) (kF (.str "mark")))) (blF (bF (inF true) (bF ixE (vF 1) (kF (.int 1))) (uF (fldD "marked") (vF 0))))) (badF) (nxF)) (seqF (ifS (andT (blF (bF (eqD false) (bF ixE (vF 1) (kF (.int 0))) (kF (.str "tie")))) (blF (bF (inF true) (bF ixE (vF 1) (kF (.int 1))) (uF (fldD "tied") (vF 0))))) (badF) (nxF)) (forS (seqA (Ai (Bq) (Ab (vF 1) (nilA)))) (BW 2) ((Br rec_refuse_strange_words))))
def Ag : Nat->List D->Option D
 | 0 => fun _ => none
 | n + 1 => runF 3 2 (An (Ag n))
def GF : FE:=tupF (Ab (vF 2) (Ab (vF 2) (nilA)))
def Ji : FE:=tupF (Ab (vF 2) (Ab (vF 2) (nilA)))
def Hq : FS:=seqF (ifS (blF (bF (eqD false) (bF ixE (vF 1) (kF (.int 0))) (kF (.str "mark")))) (retF (Av (seqA (bF ixE (uF (fldD "marked") (vF 0)) (bF ixE (vF 1) (kF (.int 1))))) (allT) (GF))) (nxF)) (seqF (ifS (blF (bF (eqD false) (bF ixE (vF 1) (kF (.int 0))) (kF (.str "same")))) (retF (Av (rngI (uF (fldD "size") (vF 0))) (allT) (Ji))) (nxF)) (retF (uF K7 (bF ixE (uF (fldD "tied") (vF 0)) (bF ixE (vF 1) (kF (.int 1)))))))
def Gj : List D->Option D:=runF 2 2 Hq
def GJ : FS:=setF 6 (bF borD (vF 6) (bF K4 (bF ixE (vF 4) (vF 7)) (bF ixE (vF 5) (vF 8))))
def Jj : FS:=seqF (setF 3 (Ai (Ez) (Ab (vF 1) (nilA)))) (seqF (setF 4 (bF ixE (vF 2) (bF ixE (vF 3) (kF (.int 0))))) (seqF (setF 5 (bF ixE (vF 2) (bF ixE (vF 3) (uF negD (kF (.int 1)))))) (seqF (setF 6 (kF (.int 0))) (seqF (forS (seqA (Ai (Gj) (Ab (vF 0) (Ab (vF 1) (nilA))))) (tupG 2 (Bo 7 (Bo 8 (nilG)))) (GJ)) (retF (vF 6))))))
def HQ : List D->Option D:=runF 9 3 Jj
def HR : FS:=setF 3 (bF borD (bF shlD (vF 3) (vF 1)) (vF 0))
def Lr : FS:=seqF (setF 3 (kF (.int 0))) (seqF (forS (rngI (vF 2)) (BW 4) (HR)) (retF (vF 3)))
def Jk : List D->Option D:=runF 5 3 Lr
def Jl : FS:=retF (bF subD (bF shlD (kF (.int 1)) (vF 0)) (kF (.int 1)))
def By : List D->Option D:=runF 1 1 Jl
def J8 : FE:=Ai (Jk) (Ab (vF 6) (Ab (vF 3) (Ab (uF (fldD "size") (vF 0)) (nilA))))
def Hx : FS:=putF 4 (vF 5) (Av (seqA (bF ixE (vF 2) (vF 5))) (allT) (J8))
def J9 : FE:=bF shlD (Ai (By) (Ab (vF 3) (nilA))) (bF mulD (vF 6) (vF 3))
def Oc : FS:=seqF (setW 4 (kF (.dk []))) (seqF (forS (seqA (vF 2)) (BW 5) (Hx)) (seqF (putF 4 (vF 1) (Av (rngI (uF (fldD "size") (vF 0))) (allT) (J9))) (fzS [4] (retF (vF 4)))))
def Kv : List D->Option D:=runF 6 4 Oc
def G_ (rec_cases_so : List D->Option D) : FE:=bF K4 (bF shrD (vF 5) (bF mulD (vF 10) (vF 3))) (Ai (By) (Ab (vF 3) (nilA)))
def Eu (rec_cases_so : List D->Option D) : FS:=seqF (setF 7 (bF borD (vF 7) (vF 9))) (setF 8 (bF K4 (vF 8) (vF 9)))
def Gu (rec_cases_so : List D->Option D) : FS:=seqF (setF 4 (Ai (Kv) (Ab (vF 0) (Ab (bF ixE (vF 1) (kF (.int 1))) (Ab (vF 2) (Ab (vF 3) (nilA))))))) (seqF (setF 5 (Ai (rec_cases_so) (Ab (vF 0) (Ab (bF ixE (vF 1) (kF (.int 2))) (Ab (vF 4) (Ab (bF mulD (vF 3) (uF (fldD "size") (vF 0))) (nilA))))))) (seqF (setF 6 (Av (rngI (uF (fldD "size") (vF 0))) (allT) ((G_ rec_cases_so)))) (seqF (setF 7 (kF (.int 0))) (seqF (setF 8 (Ai (By) (Ab (vF 3) (nilA)))) (seqF (forS (seqA (vF 6)) (BW 9) ((Eu rec_cases_so))) (seqF (ifS (blF (bF (eqD false) (bF ixE (vF 1) (kF (.int 0))) (kF (.str "some")))) (retF (vF 7)) (nxF)) (retF (vF 8))))))))
def El (rec_cases_so : List D->Option D) : List D->Option D:=runF 10 4 (Gu rec_cases_so)
def Du (rec_cases_so : List D->Option D) : FS:=seqF (ifS (blF (bF (inF false) (bF ixE (vF 1) (kF (.int 0))) (kF c_FACTS))) (retF (Ai (HQ) (Ab (vF 0) (Ab (vF 1) (Ab (vF 2) (nilA)))))) (nxF)) (seqF (ifS (blF (bF (inF false) (bF ixE (vF 1) (kF (.int 0))) (kF c_BINDERS))) (retF (Ai (El rec_cases_so) (Ab (vF 0) (Ab (vF 1) (Ab (vF 2) (Ab (vF 3) (nilA))))))) (nxF)) (seqF (setF 4 (Ai (rec_cases_so) (Ab (vF 0) (Ab (bF ixE (vF 1) (kF (.int 1))) (Ab (vF 2) (Ab (vF 3) (nilA))))))) (seqF (ifS (blF (bF (eqD false) (bF ixE (vF 1) (kF (.int 0))) (kF (.str "not")))) (retF (bF We (Ai (By) (Ab (vF 3) (nilA))) (vF 4))) (nxF)) (seqF (setF 5 (Ai (rec_cases_so) (Ab (vF 0) (Ab (bF ixE (vF 1) (kF (.int 2))) (Ab (vF 2) (Ab (vF 3) (nilA))))))) (seqF (ifS (blF (bF (eqD false) (bF ixE (vF 1) (kF (.int 0))) (kF (.str "both")))) (retF (bF K4 (vF 4) (vF 5))) (nxF)) (retF (bF borD (vF 4) (vF 5))))))))
def Bf : Nat->List D->Option D
 | 0 => fun _ => none
 | n + 1 => runF 6 4 (Du (Bf n))
def Kw : FE:=ifF (blF (bF (eqD false) (vF 7) (bF ixE (vF 3) (vF 6)))) (kF (.int 1)) (kF (.int 0))
def Ky : FS:=putF 5 (vF 6) (Av (rngI (uF (fldD "size") (vF 0))) (allT) (Kw))
def PL : FS:=seqF (setF 3 (ifF (blF (uF (isND false) (vF 2))) (kF (.dk [])) (vF 2))) (seqF (setF 4 (Ai (BL 60) (Ab (vF 1) (nilA)))) (seqF (GZ (Ai (Dk) (Ab (vF 0) (Ab (vF 4) (Ab (vF 3) (nilA)))))) (seqF (GZ (Ai (Ag 60) (Ab (vF 0) (Ab (vF 1) (nilA))))) (seqF (setW 5 (kF (.dk []))) (seqF (forS (seqA (vF 4)) (BW 6) (Ky)) (fzS [5] (retF (bF (eqD false) (Ai (Bf 60) (Ab (vF 0) (Ab (vF 1) (Ab (vF 5) (Ab (kF (.int 1)) (nilA)))))) (kF (.int 1))))))))))
def Jm : List D->Option D:=runF 7 3 PL
def Ir (rec__law_true : List D->Option D) : FE:=Ai (rec__law_true) (Ab (vF 0) (Ab (vF 1) (Ab (vF 8) (Ab (vF 3) (nilA)))))
def Gv (rec__law_true : List D->Option D) : FS:=seqF (setW 7 (uF Om (vF 3))) (seqF (putF 7 (bF ixE (vF 2) (kF (.int 1))) (vF 6)) (fzS [7] (mutF appL 5 (Ai (rec__law_true) (Ab (vF 0) (Ab (vF 1) (Ab (bF ixE (vF 2) (kF (.int 2))) (Ab (vF 7) (nilA)))))))))
def DG (rec__law_true : List D->Option D) : FS:=seqF (setF 4 (bF ixE (vF 2) (kF (.int 0)))) (seqF (ifS (blF (bF (eqD false) (vF 4) (kF (.str "same")))) (retF (bF (eqD false) (bF ixE (vF 3) (bF ixE (vF 2) (kF (.int 1)))) (bF ixE (vF 3) (bF ixE (vF 2) (kF (.int 2)))))) (nxF)) (seqF (ifS (blF (bF (eqD false) (vF 4) (kF (.str "mark")))) (retF (bF (inF false) (bF ixE (vF 3) (bF ixE (vF 2) (kF (.int 2)))) (bF ixE (vF 1) (bF ixE (vF 2) (kF (.int 1)))))) (nxF)) (seqF (ifS (blF (bF (eqD false) (vF 4) (kF (.str "tie")))) (retF (bF (inF false) (tupF (Ab (bF ixE (vF 3) (bF ixE (vF 2) (kF (.int 2)))) (Ab (bF ixE (vF 3) (bF ixE (vF 2) (kF (.int 3)))) (nilA)))) (bF ixE (vF 1) (bF ixE (vF 2) (kF (.int 1)))))) (nxF)) (seqF (ifS (blF (bF (eqD false) (vF 4) (kF (.str "not")))) (retF (notF (Ai (rec__law_true) (Ab (vF 0) (Ab (vF 1) (Ab (bF ixE (vF 2) (kF (.int 1))) (Ab (vF 3) (nilA)))))))) (nxF)) (seqF (ifS (orT (blF (bF (eqD false) (vF 4) (kF (.str "both")))) (blF (bF (eqD false) (vF 4) (kF (.str "either"))))) (seqF (setW 5 (Av (seqA (slF (vF 2) (someO (kF (.int 1))) (noO))) (allT) ((Ir rec__law_true)))) (retF (bF ixE (lstF (Ab (uF anyD (vU 5)) (Ab (uF allD (vU 5)) (nilA)))) (uF intD (bF (eqD false) (vF 4) (kF (.str "both"))))))) (nxF)) (seqF (setW 5 (lstF (nilA))) (seqF (forS (rngI (vF 0)) (BW 6) ((Gv rec__law_true))) (retF (bF ixE (lstF (Ab (uF anyD (vU 5)) (Ab (uF allD (vU 5)) (nilA)))) (uF intD (bF (eqD false) (vF 4) (kF (.str "all")))))))))))))
def Aw : Nat->List D->Option D
 | 0 => fun _ => none
 | n + 1 => runF 8 4 (DG (Aw n))
def Jo : FS:=seqF (setF 5 (Ai (Jm) (Ab (vF 0) (Ab (vF 3) (Ab (vF 4) (nilA)))))) (retF (andF (uF (isiD "bool") (vF 5)) (bF (eqD false) (vF 5) (Ai (Aw 60) (Ab (vF 1) (Ab (vF 2) (Ab (vF 3) (Ab (vF 4) (nilA)))))))))
def Ci : List D->Option D:=runF 6 5 Jo
def Ul : FS:=seqF (setF 1 (Ai (DQ) (Ab (Ai (Ak) (Ab (vF 0) (Ab (kF (.int 0)) (nilA)))) (nilA)))) (seqF (asgF (Ai (Bx) (Ab (Ai (Ak) (Ab (vF 0) (Ab (kF (.int 1)) (nilA)))) (Ab (Ai (Ak) (Ab (vF 0) (Ab (kF (.int 2)) (nilA)))) (Ab (vF 1) (nilA))))) (tupG 3 (Bo 2 (Bo 3 (Bo 4 (nilG)))))) (seqF (setF 5 (Ai (HN) (Ab (Ai (Ak) (Ab (vF 0) (Ab (kF (.int 3)) (nilA)))) (nilA)))) (seqF (setF 6 (Ai (Ak) (Ab (vF 0) (Ab (kF (.int 4)) (nilA))))) (seqF (setF 7 (bF ixE (Ai (F_) (Ab (slF (vF 0) (someO (kF (.int 7))) (someO (kF (.int 47)))) (Ab (uF K7 (vF 3)) (Ab (uF K7 (vF 4)) (Ab (vF 5) (Ab (kF (.int 3)) (nilA))))))) (kF (.int 0)))) (seqF (asgF (Ai (Ei) (Ab (vF 0) (Ab (vF 1) (Ab (vF 3) (Ab (vF 4) (nilA)))))) (tupG 3 (Bo 8 (Bo 9 (Bo 10 (nilG)))))) (seqF (ifS (orT (blF (bF (eqF false) (vF 2) (kF (.int 0)))) (blF (bF (eqF false) (vF 8) (kF (.int 0))))) (setF 7 (Ai (Ek) (Ab (Ai (Bt) (Ab (bF modD (vF 6) (kF (.int 1000))) (Ab (uF K7 (vF 3)) (Ab (uF K7 (vF 4)) (Ab (slF (vF 5) (noO) (someO (kF (.int 3)))) (nilA)))))) (Ab (slF (vF 5) (noO) (someO (kF (.int 3)))) (Ab (vF 6) (nilA)))))) (nxF)) (seqF (setF 11 (Ai (Ej) (Ab (vF 3) (Ab (vF 4) (nilA))))) (seqF (setF 12 (mkI "World" (CK) (Ab (vF 2) (Ab (vF 3) (Ab (vF 4) (nilA)))))) (seqF (setF 13 (mkI "World" (CK) (Ab (vF 8) (Ab (vF 9) (Ab (vF 10) (nilA)))))) (seqF (setF 14 (Ai (Gr) (Ab (vF 6) (Ab (vF 5) (Ab (bF minD (vF 2) (vF 8)) (nilA)))))) (seqF (setF 15 (uF Om (vF 14))) (seqF (ifS (notT (trF (Ai (Ci) (Ab (vF 12) (Ab (vF 2) (Ab (vF 11) (Ab (vF 7) (Ab (vF 14) (nilA))))))))) (retF (kF (.bl false))) (nxF)) (seqF (ifS (notT (trF (Ai (Ci) (Ab (vF 13) (Ab (vF 8) (Ab (Ai (Ej) (Ab (vF 9) (Ab (vF 10) (nilA)))) (Ab (vF 7) (Ab (vF 14) (nilA))))))))) (retF (kF (.bl false))) (nxF)) (retF (andF (Ai (Ci) (Ab (vF 12) (Ab (vF 2) (Ab (vF 11) (Ab (vF 7) (Ab (vF 14) (nilA))))))) (bF (eqF false) (vF 14) (vF 15)))))))))))))))))
def QJ : List D->Option D:=runF 16 1 Ul
end
end K17
namespace K17
open PySem PySem.Spec L2 PV
open PyProof.Rows hiding St
def top (i : Nat) : Stmt:=PySem.Challenge.pw_twinrounds_k17_whole_is_so.main.body.getD i (.Pass ⟨0,0,0,0⟩)
abbrev DR : Stmt:=top 37
abbrev HS : Stmt:=top 38
abbrev Jp : Stmt:=top 39
abbrev Ou : Stmt:=top 36
abbrev Iu : Stmt:=top 46
abbrev K_ : Stmt:=top 43
abbrev J_ : Stmt:=top 14
abbrev Hy : Stmt:=top 15
abbrev LC : Stmt:=top 16
abbrev Mx : Stmt:=top 17
abbrev Od : Stmt:=top 13
abbrev JP : Stmt:=inClass (top 18) 0
abbrev LK : Stmt:=top 42
abbrev Ov : Stmt:=top 40
abbrev My : Stmt:=top 41
abbrev LQ : Stmt:=top 45
abbrev Mz : Stmt:=top 22
abbrev QK : Stmt:=top 23
abbrev Jq : Stmt:=top 24
abbrev Hz : Stmt:=top 25
abbrev GK : Stmt:=top 26
abbrev Jr : Stmt:=top 29
abbrev M3 : Stmt:=top 30
abbrev QL : Stmt:=top 28
abbrev M4 : Stmt:=top 27
abbrev Kz : Stmt:=top 31
abbrev Iv : Stmt:=top 32
abbrev QM : Stmt:=top 33
abbrev S9 : Stmt:=top 34
abbrev KC : Stmt:=top 44
abbrev M5 : Stmt:=top 47
abbrev k_ : Stmt:=top 48
structure Tx (G : Gx) (mg : Str->Option Value) where
 C_World : Addr
 gc_World : G.cl "World" = some C_World
 cl_World : Cls G.K C_World
 mC_World : mg "World" = some (.ref C_World)
 x__law_words : Dx G.K mg "_law_words" DR ["_law_cell_here"]
 x__law_world : Dx G.K mg "_law_world" HS ["_law_one", "_law_two", "_law_words_here"]
 x__law_names : Dx G.K mg "_law_names" Jp ["_law_cell_here"]
 x__law_cell : Dx G.K mg "_law_cell" Ou ["_law_script", "_law_k"]
 x__law_second : Dx G.K mg "_law_second" Iu ["_law_script", "_law_words_here", "_law_marks", "_law_ties"]
 x__law_truths : Dx G.K mg "_law_truths" K_ ["_law_marks", "_law_ties"]
 x_refuse_above : Dx G.K mg "refuse_above" J_ ["number", "most"]
 x_refuse_no_thing : Dx G.K mg "refuse_no_thing" Hy ["size", "thing"]
 x_kept_things : Dx G.K mg "kept_things" LC ["size", "things"]
 x_kept_pairs : Dx G.K mg "kept_pairs" Mx ["size", "pairs"]
 x_is_word : Dx G.K mg "is_word" Od ["text"]
 x_World___init__ : Ix G.K C_World "World.__init__" JP ["self", "size", "marks", "ties"]
 x__law_places : Dx G.K mg "_law_places" LK ["_law_cell_here", "_law_names_here", "_law_size"]
 x__law_atom : Dx G.K mg "_law_atom" Ov ["_law_number", "_law_marks", "_law_ties", "_law_names_here"]
 x__law_built : Dx G.K mg "_law_built" My ["_law_cells", "_law_marks", "_law_ties", "_law_names_here", "_law_most"]
 x__law_closed : Dx G.K mg "_law_closed" LQ ["_law_saying", "_law_names_here", "_law_cell_here"]
 x_sayings_in : Dx G.K mg "sayings_in" Mz ["saying"]
 x_names_in : Dx G.K mg "names_in" QK ["fact"]
 x_free_names : Dx G.K mg "free_names" Jq ["saying"]
 x_refuse_unplaced : Dx G.K mg "refuse_unplaced" Hz ["world", "names", "places"]
 x_refuse_strange_words : Dx G.K mg "refuse_strange_words" GK ["world", "saying"]
 x_pairs_of : Dx G.K mg "pairs_of" Jr ["world", "fact"]
 x_fact_cases : Dx G.K mg "fact_cases" M3 ["world", "fact", "spots"]
 x_repeated : Dx G.K mg "repeated" QL ["cases", "width", "times"]
 x_every_case : Dx G.K mg "every_case" M4 ["width"]
 x_widened : Dx G.K mg "widened" Kz ["world", "name", "spots", "width"]
 x_bound_cases : Dx G.K mg "bound_cases" Iv ["world", "saying", "spots", "width"]
 x_cases_so : Dx G.K mg "cases_so" QM ["world", "saying", "spots", "width"]
 x_is_so : Dx G.K mg "is_so" S9 ["world", "saying", "places"]
 x__law_true : Dx G.K mg "_law_true" KC ["_law_size", "_law_truths_here", "_law_saying", "_law_places_here"]
 x__law_asked : Dx G.K mg "_law_asked" M5 ["_law_world_here", "_law_size", "_law_truths_here", "_law_saying", "_law_places_here"]
 x_law : Dx G.K mg "law" k_ ["_law_script"]
 z_all : mg "all" = none
 z_any : mg "any" = none
 z_bool : mg "bool" = none
 z_dict : mg "dict" = none
 z_int : mg "int" = none
 z_isinstance : mg "isinstance" = none
 z_len : mg "len" = none
 z_list : mg "list" = none
 z_max : mg "max" = none
 z_min : mg "min" = none
 z_range : mg "range" = none
 z_set : mg "set" = none
 z_sorted : mg "sorted" = none
 s_MOST_LETTERS : Sx mg "MOST_LETTERS" (.int 8)
 s_LETTERS : Sx mg "LETTERS" (.str "abcdefghijklmnopqrstuvwxyz")
 s_MOST_THINGS : Sx mg "MOST_THINGS" (.int 5)
 s_MOST_WORDS : Sx mg "MOST_WORDS" (.int 3)
 fl_size : ∀ c C,G.cl c = some C->Cls G.K C/\Ew G.K C "size"
 fl_marked : ∀ c C,G.cl c = some C->Cls G.K C/\Ew G.K C "marked"
 fl_tied : ∀ c C,G.cl c = some C->Cls G.K C/\Ew G.K C "tied"
 c_KEPT_TEXTS : Kx G mg "KEPT_TEXTS" K17.c_KEPT_TEXTS
 c_FACTS : Kx G mg "FACTS" K17.c_FACTS
 c_BINDERS : Kx G mg "BINDERS" K17.c_BINDERS
section
variable {P : Program} {w : World} {G : Gx} {mg : Str->Option Value} {base : Heap}
abbrev Ay : List Str:=["_law_cell_here", "_law_letters", "_law_number", "_law_base", "_law_k", "_law_at", "_law_found"]
theorem BV : FnScope Ay ["_law_cell_here"] (Af DR):=⟨rfl,rfl,rfl,by decide +kernel,rfl,by decide +kernel,by decide +kernel⟩
theorem Qq (T : Tx G mg) : DOk P w base T.x__law_words 1 (spD G DQ):=
 fnX (k:=0) (N:=Ay) (b:=Dz) T.x__law_words BV fun _ _ _ _ _ _ hr => Ac (sF BV.nd 1 (Cq)) (Ac (sF BV.nd 2 (bMod (pU (bMul (vp 0) (iP))) (pU (Bw mK gY (iP) (iP))))) (Ac (sF BV.nd 3 (Cq)) (Ac (Bp PassesOwn.never rfl (CW rfl T.z_range (pU (bMod (vp 2) (iP)))) (Bb (gN BV.nd 4)) (Ac (sF BV.nd 3 (bAdd (vp 3) (pU (iD (vp 1) (pU (bMod (pU (bDiv (vp 2) (iP))) (iP))))))) (Ae (sF BV.nd 2 (bDiv (vp 2) (iP)))))) (Ac (sF BV.nd 5 (bMod (pU (bDiv (vp 2) (iP))) (pU (bAdd (pU (BP (BX rfl) Hu rfl T.z_len Do (vp 3))) (iP))))) (Ac (P_ (i:=6) ["_law_cell_here", "_law_letters", "_law_number", "_law_base", "", "_law_at", "_law_found", "_law_k"] (by show Bm "_law_k" Ay ++ (["_law_k"] : List Str) = _; decide +kernel) (cO (N:=Ay) (sc:=Af DR) rfl rfl) rfl BV.nd rfl (by first | exact Or.inl rfl | exact Or.inr rfl) (CW rfl T.z_range (iP)) (fun _ _ _ => Cd) (fun _ _ _ => bAdd (pU (bAdd (pU (Dn rfl (vp 3) (Ed) (Dc (vp 5)))) (pU (iD (vp 1) (pU (bMod (pU (bAdd (pU (bDiv (vp 2) (iP))) (pU (bMul (iP) (vp 7))))) (iP))))))) (pU (Dn rfl (vp 3) (Dc (vp 5)) (Ed))))) (Ac (A_ (tEq hr (pU (bMod (vp 2) (iP))) (iP)) (Ac (sF BV.nd 3 (h_ rfl (sP) (pU (Dy ["_law_cell_here", "_law_letters", "_law_number", "_law_base", "", "_law_at", "_law_found", "_law_k"] (by show Bm "_law_k" Ay ++ (["_law_k"] : List Str) = _; decide +kernel) (cO (N:=Ay) (sc:=Af DR) rfl rfl) rfl (CW rfl T.z_range (iP)) (fun _ _ _ => Cd) (fun _ _ _ => iD (vp 1) (pU (bMod (pU (bDiv (vp 2) (pU (bAdd (iP) (pU (bMul (vp 7) (vp 7))))))) (iP)))))))) (Ae (P_ (i:=6) ["_law_cell_here", "_law_letters", "_law_number", "_law_base", "", "_law_at", "_law_found", "_law_k"] (by show Bm "_law_k" Ay ++ (["_law_k"] : List Str) = _; decide +kernel) (cO (N:=Ay) (sc:=Af DR) rfl rfl) rfl BV.nd rfl (by first | exact Or.inl rfl | exact Or.inr rfl) (CW rfl T.z_range (iP)) (fun _ _ _ => Cd) (fun _ _ _ => Dn rfl (vp 3) (Ed) (Dc (pU (bAdd (vp 7) (iP)))))))) (Aq)) (Ac (A_ (tGt (pU (BP (BX rfl) Hu rfl T.z_len Do (pU (Dy (nT Ay "_law_word") (by show Bm "_law_word" Ay ++ (["_law_word"] : List Str) = _; decide +kernel) (cO (N:=Ay) (sc:=Af DR) rfl rfl) rfl (R_ rfl (vp 6)) (fun _ _ _ => Mp (Fj Vq (bQ false) (vp 7) (pU (Cy (Aa (Cq) (Aa (Cq) (Aa (Cq) (Aa (Cq) (Aa (Cq) (Ad)))))))) (by with_unfolding_all rfl))) (fun _ _ _ => vr 7))))) (iP)) (Ae (Ah (Dy (nT Ay "_law_word") (by show Bm "_law_word" Ay ++ (["_law_word"] : List Str) = _; decide +kernel) (cO (N:=Ay) (sc:=Af DR) rfl rfl) rfl (R_ rfl (vp 6)) (fun _ _ _ => Cd) (fun _ _ _ => bAdd (sP) (vp 7))))) (Aq)) (Ae (Ah (vr 6))))))))))
abbrev DW : List Str:=["_law_one", "_law_two", "_law_words_here", "_law_bits", "_law_size", "_law_marks", "_law_k", "_law_ties", "_law_found", "_law_thing"]
theorem BK : FnScope DW ["_law_one", "_law_two", "_law_words_here"] (Af HS):=⟨rfl,rfl,rfl,by decide +kernel,rfl,by decide +kernel,by decide +kernel⟩
theorem LR (T : Tx G mg) : DOk P w base T.x__law_world 1 (spD G Bx):=
 fnX (k:=0) (N:=DW) (b:=HJ) T.x__law_world BK fun _ _ _ _ _ _ hr => Ac (sF BK.nd 3 (bMod (pU (bMul (vp 1) (iP))) (pU (Bw Mj Ml (iP) (iP))))) (Ac (A_ (tEq hr (pU (bMod (vp 0) (iP))) (iP)) (Ae (sF BK.nd 3 (bMod (vp 1) (pU (Bw Mj Ml (iP) (iP)))))) (Aq)) (Ac (sF BK.nd 0 (bMod (pU (bMul (pU (bDiv (vp 0) (iP))) (iP))) (iP))) (Ac (sF BK.nd 4 (bMod (vp 0) (iP))) (Ac (sW BK.nd 5 (J4)) (Ac (Bp PassesOwn.never rfl (CW rfl T.z_range (pU (bMod (pU (bDiv (vp 0) (iP))) (iP)))) (Bb (gN BK.nd 6)) (Ae (Gn (FW hr) (pv 5) (iX hr (vp 2) (vp 6)) (Dy ["_law_one", "_law_two", "_law_words_here", "_law_bits", "_law_size", "_law_marks", "_law_k", "_law_ties", "_law_found", "", "_law_thing"] (by show Bm "_law_thing" DW ++ (["_law_thing"] : List Str) = _; decide +kernel) (cO (N:=DW) (sc:=Af HS) rfl rfl) rfl (CW rfl T.z_range (vp 4)) (fun _ _ _ => Mp (tEq hr (pU (Bw Nf JD (pU (Bw VG R4 (vp 3) (pU (bAdd (pU (bMul (iP) (vp 6))) (vp 10))))) (iP))) (iP))) (fun _ _ _ => vr 10))))) (Ac (sW BK.nd 7 (J4)) (Ac (Bp PassesOwn.never rfl (CW rfl T.z_range (pU (bMod (pU (bDiv (vp 0) (iP))) (iP)))) (Bb (gN BK.nd 6)) (Ac (sF BK.nd 8 (Cy (Ad))) (Ac (Bp PassesOwn.never rfl (CW rfl T.z_range (vp 4)) (Bb (gN BK.nd 9)) (Ae (sF BK.nd 8 (bAdd (vp 8) (pU (Dy (nT DW "_law_to") (by show Bm "_law_to" DW ++ (["_law_to"] : List Str) = _; decide +kernel) (cO (N:=DW) (sc:=Af HS) rfl rfl) rfl (CW rfl T.z_range (vp 4)) (fun _ _ _ => Mp (tEq hr (pU (Bw Nf JD (pU (Bw VG R4 (vp 3) (pU (bAdd (pU (bAdd (pU (bAdd (iP) (pU (bMul (iP) (vp 6))))) (pU (bMul (iP) (vp 9))))) (vp 10))))) (iP))) (iP))) (fun _ _ _ => Fl (Aa (vr 9) (Aa (vr 10) (Ad)))))))))) (Ae (Gn (FW hr) (pv 7) (iX hr (vp 2) (pU (bSub (iP) (vp 6)))) (vr 8)))))) (Ae (Jb [5,7] (Ah (Cy (Aa (vr 4) (Aa (vr 5) (Aa (vr 7) (Ad)))))))))))))))
abbrev GP : List Str:=["_law_cell_here", "_law_letters", "_law_many"]
theorem Iw : FnScope GP ["_law_cell_here"] (Af Jp):=⟨rfl,rfl,rfl,by decide +kernel,rfl,by decide +kernel,by decide +kernel⟩
theorem Qs (T : Tx G mg) : DOk P w base T.x__law_names 1 (spD G HN):=
 fnX (k:=0) (N:=GP) (b:=Je) T.x__law_names Iw fun _ _ _ _ _ _ hr => Ac (sF Iw.nd 1 (Cq)) (Ac (sF Iw.nd 2 (bAdd (iP) (pU (bMod (pU (bMod (pU (bMul (vp 0) (iP))) (iP))) (iP))))) (Ae (Ah (Dy (nT GP "_law_k") (by show Bm "_law_k" GP ++ (["_law_k"] : List Str) = _; decide +kernel) (cO (N:=GP) (sc:=Af Jp) rfl rfl) rfl (CW rfl T.z_range (vp 2)) (fun _ _ _ => Cd) (fun _ _ _ => iD (vp 1) (pU (bMod (pU (bAdd (pU (bMod (vp 0) (iP))) (pU (bMul (pU (bAdd (iP) (pU (bMul (pU (bMod (pU (bDiv (vp 0) (iP))) (iP))) (iP))))) (vp 3))))) (iP))))))))
abbrev Ow : List Str:=["_law_script", "_law_k"]
theorem S_ : FnScope Ow ["_law_script", "_law_k"] (Af Ou):=⟨rfl,rfl,rfl,by decide +kernel,rfl,by decide +kernel,by decide +kernel⟩
theorem DX (T : Tx G mg) : DOk P w base T.x__law_cell 1 (spD G Ak):=
 fnX (k:=0) (N:=Ow) (b:=Hw) T.x__law_cell S_ fun _ _ _ _ _ _ hr => Ac (A_ (tLt (vp 1) (pU (BP (BX rfl) Hu rfl T.z_len Do (vp 0)))) (Ae (Ah (iD (vp 0) (vp 1)))) (Aq)) (Ae (Ah (Cp)))
abbrev Em : List Str:=["_law_script", "_law_words_here", "_law_marks", "_law_ties", "_law_size", "_law_some", "_law_others", "_law_marked", "_law_word", "_law_tied"]
theorem Bu : FnScope Em ["_law_script", "_law_words_here", "_law_marks", "_law_ties"] (Af Iu):=⟨rfl,rfl,rfl,by decide +kernel,rfl,by decide +kernel,by decide +kernel⟩
theorem QQ (T : Tx G mg) : DOk P w base T.x__law_second 2 (spD G Ei):=
 fnX (k:=1) (N:=Em) (b:=Il) T.x__law_second Bu fun _ _ _ _ _ _ hr => Ac (Sh (Jd rfl rfl (BZ (gN Bu.nd 4) (BZ (gN Bu.nd 5) (BZ (gN Bu.nd 6) (Ha))))) (fX (LR T) hr (Aa (fX (DX T) hr (Aa (vr 0) (Aa (Cp) (Ad)))) (Aa (fX (DX T) hr (Aa (vr 0) (Aa (Cp) (Ad)))) (Aa (vr 1) (Ad)))))) (Ac (sW Bu.nd 7 (J4)) (Ac (Bp PassesOwn.never rfl (Bk rfl (vr 2)) (Bb (gN Bu.nd 8)) (Ae (Gn (FW hr) (pv 7) (vr 8) (dJ hr (vp 5) (vr 8) (Cy (Ad)))))) (Ac (sW Bu.nd 9 (J4)) (Ac (Bp PassesOwn.never rfl (Bk rfl (vr 3)) (Bb (gN Bu.nd 8)) (Ae (Gn (FW hr) (pv 9) (vr 8) (dJ hr (vp 6) (vr 8) (Dy (nT Em "_law_thing") (by show Bm "_law_thing" Em ++ (["_law_thing"] : List Str) = _; decide +kernel) (cO (N:=Em) (sc:=Af Iu) rfl rfl) rfl (CW rfl T.z_range (vp 4)) (fun _ _ _ => Cd) (fun _ _ _ => Fl (Aa (vr 10) (Aa (vr 10) (Ad))))))))) (Ae (Jb [7,9] (Ah (Cy (Aa (vr 4) (Aa (vr 7) (Aa (vr 9) (Ad))))))))))))
abbrev La : List Str:=["_law_marks", "_law_ties", "_law_truths_here"]
theorem KD : FnScope La ["_law_marks", "_law_ties"] (Af K_):=⟨rfl,rfl,rfl,by decide +kernel,rfl,by decide +kernel,by decide +kernel⟩
theorem KH (T : Tx G mg) : DOk P w base T.x__law_truths 1 (spD G Ej):=
 fnX (k:=0) (N:=La) (b:=Im) T.x__law_truths KD fun _ _ _ _ _ _ hr => Ac (sW KD.nd 2 (Sg rfl T.z_dict SM (vp 0))) (Ac (jB (pv 2) (vr 1)) (Ae (Jb [2] (Ah (vr 2)))))
abbrev KJ : List Str:=["number", "most"]
theorem O4 : FnScope KJ ["number", "most"] (Af J_):=⟨rfl,rfl,rfl,by decide +kernel,rfl,by decide +kernel,by decide +kernel⟩
theorem HB (T : Tx G mg) : DOk P w base T.x_refuse_above 1 (spD G Bd):=
 fnX (k:=0) (N:=KJ) (b:=Hm) T.x_refuse_above O4 fun _ _ _ _ _ _ hr => Ae (A_ (tGt (vp 0) (vp 1)) (Ae (Gg)) (Aq))
abbrev H_ : List Str:=["size", "thing"]
theorem Ls : FnScope H_ ["size", "thing"] (Af Hy):=⟨rfl,rfl,rfl,by decide +kernel,rfl,by decide +kernel,by decide +kernel⟩
theorem DY (T : Tx G mg) : DOk P w base T.x_refuse_no_thing 1 (spD G Be):=
 fnX (k:=0) (N:=H_) (b:=Fx) T.x_refuse_no_thing Ls fun _ _ _ _ _ _ hr => Ae (A_ (PFW.pt (Py (tLt (vp 1) (iP)) (Km (tGe (vp 1) (vp 0))))) (Ae (Gg)) (Aq))
abbrev Lb : List Str:=["size", "things", "kept", "thing"]
theorem Hr : FnScope Lb ["size", "things"] (Af LC):=⟨rfl,rfl,rfl,by decide +kernel,rfl,by decide +kernel,by decide +kernel⟩
theorem QR (T : Tx G mg) : DOk P w base T.x_kept_things 2 (spD G De):=
 fnX (k:=1) (N:=Lb) (b:=Io) T.x_kept_things Hr fun _ _ _ _ _ _ hr => Ac (sW Hr.nd 2 (J4)) (Ac (Bp PassesOwn.never rfl (Bk rfl (vr 1)) (Bb (gN Hr.nd 3)) (Ac (Eg (fX (DY T) hr (Aa (vr 0) (Aa (vr 3) (Ad))))) (Ae (Gn (FW hr) (pv 2) (vr 3) (Tu))))) (Ae (Jb [2] (Ah (vr 2)))))
abbrev M6 : List Str:=["size", "pairs", "kept", "one", "other"]
theorem Gw : FnScope M6 ["size", "pairs"] (Af Mx):=⟨rfl,rfl,rfl,by decide +kernel,rfl,by decide +kernel,by decide +kernel⟩
theorem Qt (T : Tx G mg) : DOk P w base T.x_kept_pairs 2 (spD G D_):=
 fnX (k:=1) (N:=M6) (b:=Jf) T.x_kept_pairs Gw fun _ _ _ _ _ _ hr => Ac (sW Gw.nd 2 (qD)) (Ac (Bp PassesOwn.never rfl (Bk rfl (vr 1)) (Jd rfl rfl (BZ (gN Gw.nd 3) (BZ (gN Gw.nd 4) (Ha)))) (Ac (Eg (fX (DY T) hr (Aa (vr 0) (Aa (vr 3) (Ad))))) (Ac (Eg (fX (DY T) hr (Aa (vr 0) (Aa (vr 4) (Ad))))) (Ae (cR (FW hr) (pv 2) (Aa (vr 3) (Aa (vr 4) (Ad))) (Tu)))))) (Ae (Jb [2] (Ah (vr 2)))))
abbrev JQ : List Str:=["text"]
theorem V5 : FnScope JQ ["text"] (Af Od):=⟨rfl,rfl,rfl,by decide +kernel,rfl,by decide +kernel,by decide +kernel⟩
theorem QS (T : Tx G mg) : DOk P w base T.x_is_word 1 (spD G EY):=
 fnX (k:=0) (N:=JQ) (b:=Ob) T.x_is_word V5 fun _ _ _ _ _ _ hr => Ac (A_ (PFW.pt (Py (tIn hr (vp 0) (pU (Ey (Eo (v:=.ref T.c_KEPT_TEXTS.a) rfl T.c_KEPT_TEXTS.m rfl) T.c_KEPT_TEXTS.r))) (Py (tEq hr (pU (BP ((BX rfl).or Cr) Eh rfl T.z_len Do (vp 0))) (iP)) (Km (tGt (pU (BP ((BX rfl).or Cr) Eh rfl T.z_len Do (vp 0))) (pU (Ey (Eo (v:=(.int 8)) rfl T.s_MOST_LETTERS.m ⟨_,rfl⟩) (.int _)))))))) (Ae (Ah (Tu))) (Aq)) (Ae (Ah (BP (N8 rfl) Ss rfl T.z_all V0 (pU (Dy (nT JQ "letter") (by show Bm "letter" JQ ++ (["letter"] : List Str) = _; decide +kernel) (cO (N:=JQ) (sc:=Af Od) rfl rfl) rfl (PFI.top (Bk rfl (vr 0))) (fun _ _ _ => Cd) (fun _ _ _ => cIn hr (vp 1) (pU (Ey (Eo (v:=(.str "abcdefghijklmnopqrstuvwxyz")) rfl T.s_LETTERS.m ⟨_,rfl⟩) (.str _)))))))))
abbrev JR : List Str:=["self", "size", "marks", "ties", "word", "things", "pairs"]
theorem Cj : FnScope JR ["self", "size", "marks", "ties"] (Af JP):=⟨rfl,rfl,rfl,by decide +kernel,rfl,by decide +kernel,by decide +kernel⟩
theorem IK (T : Tx G mg) : FnOk P w G.K mg base CX0 3 T.x_World___init__.f T.x_World___init__.fd ["self", "size", "marks", "ties"] (spI G "World" CK):=
 fn_I (c := "World") (k:=2) (N:=JR) (b:=Gi) T.x_World___init__.F Cj (by decide) fun cdv A outer s H E hr => G4 (QF (Eg (fX (HB T) hr (Aa (vr 1) (Aa (Ey (Eo (v:=(.int 5)) rfl T.s_MOST_THINGS.m ⟨_,rfl⟩) (.int _)) (Ad))))) Sw) (G4 (QF (Eg (fX (HB T) hr (Aa (BP ((BX rfl).or Cr) Eh rfl T.z_len Do (vp 2)) (Aa (Ey (Eo (v:=(.int 3)) rfl T.s_MOST_WORDS.m ⟨_,rfl⟩) (.int _)) (Ad))))) Sw) (G4 (QF (Eg (fX (HB T) hr (Aa (BP ((BX rfl).or Cr) Eh rfl T.z_len Do (vp 3)) (Aa (Ey (Eo (v:=(.int 3)) rfl T.s_MOST_WORDS.m ⟨_,rfl⟩) (.int _)) (Ad))))) Sw) (G4 (cY T.fl_size (pv 0) (vr 1)) (G4 (Uc T.fl_marked (pv 0) J4) (G4 (Uc T.fl_tied (pv 0) J4) (G4 (Xh PassesOwn.never rfl (RT (top:=false) (vr 2)) (Jd rfl rfl (BZ (gN Cj.nd 4) (BZ (gN Cj.nd 5) (Ha)))) (cj (PK (by decide) (PK (by decide) (cg)))) (Ua (cX (Ub (O6 (O7 (pU (fX (QS T) hr (Aa (vr 4) (Ad)))) rfl))) (Ae Gg)) (Xg (Ud (FW hr) T.fl_marked (pv 0) (vr 4) (fX (QR T) hr (Aa (vr 1) (Aa (vr 5) (Ad)))))))) (G4 (Xh PassesOwn.never rfl (RT (top:=false) (vr 3)) (Jd rfl rfl (BZ (gN Cj.nd 4) (BZ (gN Cj.nd 6) (Ha)))) (cj (PK (by decide) (PK (by decide) (cg)))) (Ua (cX (PWE.pt (oA (Ub (O6 (O7 (pU (fX (QS T) hr (Aa (vr 4) (Ad)))) rfl))) (ir (oE (FW hr) T.fl_marked (pv 0) (vr 4))))) (Ae Gg)) (Xg (Ud (FW hr) T.fl_tied (pv 0) (vr 4) (fX (Qt T) hr (Aa (vr 1) (Aa (vr 6) (Ad)))))))) (iw))))))))
abbrev Ld : List Str:=["_law_cell_here", "_law_names_here", "_law_size", "_law_places_here", "_law_name"]
theorem GQ : FnScope Ld ["_law_cell_here", "_law_names_here", "_law_size"] (Af LK):=⟨rfl,rfl,rfl,by decide +kernel,rfl,by decide +kernel,by decide +kernel⟩
theorem QT (T : Tx G mg) : DOk P w base T.x__law_places 1 (spD G Gr):=
 fnX (k:=0) (N:=Ld) (b:=Ip) T.x__law_places GQ fun _ _ _ _ _ _ hr => Ac (sW GQ.nd 3 (J4)) (Ac (Bp PassesOwn.never rfl (Bk rfl (vr 1)) (Bb (gN GQ.nd 4)) (Ac (Gn (FW hr) (pv 3) (vr 4) (bMod (vp 0) (pU (Mm (Nh rfl) Pz rfl T.z_max Vr (vp 2) (iP))))) (Ae (sF GQ.nd 0 (bDiv (vp 0) (iP)))))) (Ae (Jb [3] (Ah (vr 3)))))
abbrev Ox : List Str:=["_law_number", "_law_marks", "_law_ties", "_law_names_here", "_law_one", "_law_other"]
theorem Js : FnScope Ox ["_law_number", "_law_marks", "_law_ties", "_law_names_here"] (Af Ov):=⟨rfl,rfl,rfl,by decide +kernel,rfl,by decide +kernel,by decide +kernel⟩
theorem Jt (T : Tx G mg) : DOk P w base T.x__law_atom 1 (spD G Bt):=
 fnX (k:=0) (N:=Ox) (b:=Ds) T.x__law_atom Js fun _ _ _ _ _ _ hr => Ac (sF Js.nd 4 (iD (vp 3) (pU (bMod (pU (bDiv (vp 0) (iP))) (pU (BP (BX rfl) Hu rfl T.z_len Do (vp 3))))))) (Ac (sF Js.nd 5 (iD (vp 3) (pU (bMod (pU (bDiv (vp 0) (iP))) (pU (BP (BX rfl) Hu rfl T.z_len Do (vp 3))))))) (Ac (A_ (PFW.pt (Ko (tEq hr (pU (bMod (vp 0) (iP))) (iP)) (Ge (tNe hr (vp 1) (pU (Cy (Ad))))))) (Ae (Ah (Fl (Aa (Cq) (Aa (iD (vp 1) (pU (bMod (pU (bDiv (vp 0) (iP))) (pU (BP (BX rfl) Hu rfl T.z_len Do (vp 1)))))) (Aa (vr 4) (Ad))))))) (Aq)) (Ac (A_ (PFW.pt (Ko (tEq hr (pU (bMod (vp 0) (iP))) (iP)) (Ge (tNe hr (vp 2) (pU (Cy (Ad))))))) (Ae (Ah (Fl (Aa (Cq) (Aa (iD (vp 2) (pU (bMod (pU (bDiv (vp 0) (iP))) (pU (BP (BX rfl) Hu rfl T.z_len Do (vp 2)))))) (Aa (vr 4) (Aa (vr 5) (Ad)))))))) (Aq)) (Ae (Ah (Fl (Aa (Cq) (Aa (vr 4) (Aa (vr 5) (Ad))))))))))
abbrev M7 : List Str:=["_law_cells", "_law_marks", "_law_ties", "_law_names_here", "_law_most", "_law_row", "_law_cell_here", "_law_number", "_law_last"]
theorem Df : FnScope M7 ["_law_cells", "_law_marks", "_law_ties", "_law_names_here", "_law_most"] (Af My):=⟨rfl,rfl,rfl,by decide +kernel,rfl,by decide +kernel,by decide +kernel⟩
theorem Qu (T : Tx G mg) : DOk P w base T.x__law_built 2 (spD G F_):=
 fnX (k:=1) (N:=M7) (b:=Jg) T.x__law_built Df fun _ _ _ _ _ _ hr => Ac (sW Df.nd 5 (Vs (Aa (Cy (Aa (fX (Jt T) hr (Aa (BP ((BX rfl).or Cr) Eh rfl T.z_len Do (vp 0)) (Aa (vr 1) (Aa (vr 2) (Aa (vr 3) (Ad)))))) (Aa (Cp) (Ad)))) (Ad)))) (Ac (Bp PassesOwn.never rfl (Bk rfl (vr 0)) (Bb (gN Df.nd 6)) (Ac (sF Df.nd 7 (bMod (pU (bMul (pU (bDiv (vp 6) (iP))) (iP))) (iP))) (Ac (sF Df.nd 8 (iX hr (vq 5) (pU (Ih (iP))))) (Ae (A_ (PFW.pt (Ko (tGt (pU (bMod (vp 6) (iP))) (iP)) (Ge (tLt (pU (iX hr (vp 8) (iP))) (vp 4))))) (Ae (Mw (pv 5) (Ih (iP)) (Cy (Aa (Fl (Aa (iX hr (pU (Cy (Aa (Cq) (Aa (Cq) (Ad))))) (pU (bMod (vp 7) (iP)))) (Aa (iX hr (vp 3) (pU (bMod (pU (bDiv (vp 7) (iP))) (pU (BP ((BX rfl).or Cr) Eh rfl T.z_len Do (vp 3)))))) (Aa (iX hr (vp 8) (iP)) (Ad))))) (Aa (bAdd (pU (iX hr (vp 8) (iP))) (iP)) (Ad)))))) (Ae (A_ (tEq hr (pU (bMod (vp 6) (iP))) (iP)) (Ae (Mw (pv 5) (Ih (iP)) (Cy (Aa (Fl (Aa (Cq) (Aa (iX hr (vp 8) (iP)) (Ad)))) (Aa (iX hr (vp 8) (iP)) (Ad)))))) (Ae (A_ (PFW.pt (Ko (tGt (pU (bMod (vp 6) (iP))) (iP)) (Ge (tGt (pU (BP ((BX rfl).or Cr) Eh rfl T.z_len Do (vq 5))) (iP))))) (Ac (jA (pv 5)) (Ae (Mw (pv 5) (Ih (iP)) (Cy (Aa (Fl (Aa (iX hr (pU (Cy (Aa (Cq) (Aa (Cq) (Ad))))) (pU (bMod (vp 7) (iP)))) (Aa (iX hr (pU (iX hr (vq 5) (pU (Ih (iP))))) (iP)) (Aa (iX hr (vp 8) (iP)) (Ad))))) (Aa (Mm (Nh rfl) Pz rfl T.z_max Vr (pU (iX hr (pU (iX hr (vq 5) (pU (Ih (iP))))) (iP))) (pU (iX hr (vp 8) (iP)))) (Ad))))))) (Ae (XQ (pv 5) (Cy (Aa (fX (Jt T) hr (Aa (vr 7) (Aa (vr 1) (Aa (vr 2) (Aa (vr 3) (Ad)))))) (Aa (Cp) (Ad))))))))))))))) (Ac (Yu 60 PassesOwn.never (tGt (pU (BP ((BX rfl).or Cr) Eh rfl T.z_len Do (vq 5))) (iP)) (Ac (dG (i:=5) (j:=8) (fun _ h => U_ Df.nd rfl (by first | exact Or.inl rfl | exact Or.inr rfl) h) (pv 5)) (Ae (Mw (pv 5) (Ih (iP)) (Cy (Aa (Fl (Aa (iX hr (pU (Cy (Aa (Cq) (Aa (Cq) (Ad))))) (pU (bMod (pU (BP ((BX rfl).or Cr) Eh rfl T.z_len Do (vq 5))) (iP)))) (Aa (iX hr (pU (iX hr (vq 5) (pU (Ih (iP))))) (iP)) (Aa (iX hr (vp 8) (iP)) (Ad))))) (Aa (Mm (Nh rfl) Pz rfl T.z_max Vr (pU (iX hr (pU (iX hr (vq 5) (pU (Ih (iP))))) (iP))) (pU (iX hr (vp 8) (iP)))) (Ad)))))))) (Ae (Ah (iX hr (vq 5) (iP))))))
abbrev Le : List Str:=["_law_saying", "_law_names_here", "_law_cell_here", "_law_k"]
theorem Hs : FnScope Le ["_law_saying", "_law_names_here", "_law_cell_here"] (Af LQ):=⟨rfl,rfl,rfl,by decide +kernel,rfl,by decide +kernel,by decide +kernel⟩
theorem QV (T : Tx G mg) : DOk P w base T.x__law_closed 1 (spD G Ek):=
 fnX (k:=0) (N:=Le) (b:=Gs) T.x__law_closed Hs fun _ _ _ _ _ _ hr => Ac (Bp PassesOwn.never rfl (CW rfl T.z_range (pU (BP ((BX rfl).or Cr) Eh rfl T.z_len Do (vp 1)))) (Bb (gN Hs.nd 3)) (Ae (sF Hs.nd 0 (Fl (Aa (iX hr (pU (Cy (Aa (Cq) (Aa (Cq) (Ad))))) (pU (bMod (pU (bDiv (vp 2) (pU (iX hr (pU (Cy (Aa (Cp) (Aa (Cp) (Aa (Cp) (Ad)))))) (vp 3))))) (iP)))) (Aa (iX hr (vp 1) (vp 3)) (Aa (vr 0) (Ad)))))))) (Ae (Ah (vr 0)))
abbrev M8 : List Str:=["saying"]
theorem Qv : FnScope M8 ["saying"] (Af Mz):=⟨rfl,rfl,rfl,by decide +kernel,rfl,by decide +kernel,by decide +kernel⟩
theorem Lf (T : Tx G mg) : DOk P w base T.x_sayings_in 1 (spD G Bq):=
 fnX (k:=0) (N:=M8) (b:=Jh) T.x_sayings_in Qv fun _ _ _ _ _ _ hr => Ac (A_ (tIn hr (pU (iX hr (vp 0) (iP))) (pU (Ey (Eo (v:=.ref T.c_FACTS.a) rfl T.c_FACTS.m rfl) T.c_FACTS.r))) (Ae (Ah (Fl (Ad)))) (Aq)) (Ac (A_ (tIn hr (pU (iX hr (vp 0) (iP))) (pU (Ey (Eo (v:=.ref T.c_BINDERS.a) rfl T.c_BINDERS.m rfl) T.c_BINDERS.r))) (Ae (Ah (Dn rfl (vp 0) (Dc (iP)) (Ed)))) (Aq)) (Ae (Ah (Dn rfl (vp 0) (Dc (iP)) (Ed)))))
abbrev QW : List Str:=["fact"]
theorem Um : FnScope QW ["fact"] (Af QK):=⟨rfl,rfl,rfl,by decide +kernel,rfl,by decide +kernel,by decide +kernel⟩
theorem Oz (T : Tx G mg) : DOk P w base T.x_names_in 1 (spD G Ez):=
 fnX (k:=0) (N:=QW) (b:=Hn) T.x_names_in Um fun _ _ _ _ _ _ hr => Ac (A_ (tEq hr (pU (iX hr (vp 0) (iP))) (sP)) (Ae (Ah (Dn rfl (vp 0) (Dc (iP)) (Ed)))) (Aq)) (Ae (Ah (Dn rfl (vp 0) (Dc (iP)) (Ed))))
abbrev GR : List Str:=["saying", "names", "part"]
theorem Gy : FnScope GR ["saying"] (Af Jq):=⟨rfl,rfl,rfl,by decide +kernel,rfl,by decide +kernel,by decide +kernel⟩
theorem Lg (T : Tx G mg) : ∀ n : Nat,DOk P w base T.x_free_names (n * 1 + 1) (spD G (BL n))
 | 0 => O9
 | n + 1 => (fnX (k:=n * 1 + 1) (N:=GR) (b:=Ea (BL n)) T.x_free_names Gy fun _ _ _ _ _ _ hr => Ac (A_ (tIn hr (pU (iX hr (vp 0) (iP))) (pU (Ey (Eo (v:=.ref T.c_FACTS.a) rfl T.c_FACTS.m rfl) T.c_FACTS.r))) (Ae (Ah (kI rfl rfl rfl T.z_sorted RL rfl T.z_set bh (pU (fX (Oz T) hr (Aa (vr 0) (Ad))))))) (Aq)) (Ac (sW Gy.nd 1 (Vs (Ad))) (Ac (Bp PassesOwn.never rfl (Bk rfl (fX (Lf T) hr (Aa (vr 0) (Ad)))) (Bb (gN Gy.nd 2)) (Ae (iG rfl (pv 1) (fX (Lg T n) hr (Aa (vr 2) (Ad)))))) (Ac (A_ (tIn hr (pU (iX hr (vp 0) (iP))) (pU (Ey (Eo (v:=.ref T.c_BINDERS.a) rfl T.c_BINDERS.m rfl) T.c_BINDERS.r))) (Ae (RM (i:=1) (nT GR "name") (by show Bm "name" GR ++ (["name"] : List Str) = _; decide +kernel) (cO (N:=GR) (sc:=Af Jq) rfl rfl) rfl Gy.nd rfl (by first | exact Or.inl rfl | exact Or.inr rfl) (R_ rfl (vq 1)) (fun _ _ _ => Mp (tNe hr (vp 3) (pU (iX hr (vp 0) (iP))))) (fun _ _ _ => vr 3))) (Aq)) (Ae (Ah (kI rfl rfl rfl T.z_sorted RL rfl T.z_set bh (vq 1)))))))).mono (by omega)
abbrev IV : List Str:=["world", "names", "places", "name"]
theorem E_ : FnScope IV ["world", "names", "places"] (Af Hz):=⟨rfl,rfl,rfl,by decide +kernel,rfl,by decide +kernel,by decide +kernel⟩
theorem Lw (T : Tx G mg) : DOk P w base T.x_refuse_unplaced 2 (spD G Dk):=
 fnX (k:=1) (N:=IV) (b:=GD) T.x_refuse_unplaced E_ fun _ _ _ _ _ _ hr => Ac (Bp PassesOwn.never rfl (Bk rfl (vr 1)) (Bb (gN E_.nd 3)) (Ae (A_ (tNi hr (vp 3) (vp 2)) (Ae (Gg)) (Aq)))) (Ae (Bp PassesOwn.never rfl (Bk rfl (vr 1)) (Bb (gN E_.nd 3)) (Ae (Eg (fX (DY T) hr (Aa (Hb T.fl_size (vp 0)) (Aa (iX hr (vp 2) (vp 3)) (Ad))))))))
abbrev GX : List Str:=["world", "saying", "part"]
theorem FJ : FnScope GX ["world", "saying"] (Af GK):=⟨rfl,rfl,rfl,by decide +kernel,rfl,by decide +kernel,by decide +kernel⟩
theorem FN (T : Tx G mg) : ∀ n : Nat,DOk P w base T.x_refuse_strange_words (n * 1 + 1) (spD G (Ag n))
 | 0 => O9
 | n + 1 => (fnX (k:=n * 1 + 1) (N:=GX) (b:=An (Ag n)) T.x_refuse_strange_words FJ fun _ _ _ _ _ _ hr => Ac (A_ (PFW.pt (Ko (tEq hr (pU (iX hr (vp 1) (iP))) (sP)) (Ge (tNi hr (pU (iX hr (vp 1) (iP))) (pU (Hb T.fl_marked (vp 0))))))) (Ae (Gg)) (Aq)) (Ac (A_ (PFW.pt (Ko (tEq hr (pU (iX hr (vp 1) (iP))) (sP)) (Ge (tNi hr (pU (iX hr (vp 1) (iP))) (pU (Hb T.fl_tied (vp 0))))))) (Ae (Gg)) (Aq)) (Ae (Bp PassesOwn.never rfl (Bk rfl (fX (Lf T) hr (Aa (vr 1) (Ad)))) (Bb (gN FJ.nd 2)) (Ae (Eg (fX (FN T n) hr (Aa (vr 0) (Aa (vr 2) (Ad)))))))))).mono (by omega)
abbrev Dv : List Str:=["world", "fact"]
theorem Uo : FnScope Dv ["world", "fact"] (Af Jr):=⟨rfl,rfl,rfl,by decide +kernel,rfl,by decide +kernel,by decide +kernel⟩
theorem Uq (T : Tx G mg) : DOk P w base T.x_pairs_of 1 (spD G Gj):=
 fnX (k:=0) (N:=Dv) (b:=Hq) T.x_pairs_of Uo fun _ _ _ _ _ _ hr => Ac (A_ (tEq hr (pU (iX hr (vp 1) (iP))) (sP)) (Ae (Ah (Dy (nT Dv "thing") (by show Bm "thing" Dv ++ (["thing"] : List Str) = _; decide +kernel) (cO (N:=Dv) (sc:=Af Jr) rfl rfl) rfl (PFI.top (Bk rfl (iX hr (pU (Hb T.fl_marked (vp 0))) (pU (iX hr (vp 1) (iP)))))) (fun _ _ _ => Cd) (fun _ _ _ => Fl (Aa (vr 2) (Aa (vr 2) (Ad))))))) (Aq)) (Ac (A_ (tEq hr (pU (iX hr (vp 1) (iP))) (sP)) (Ae (Ah (Dy (nT Dv "thing") (by show Bm "thing" Dv ++ (["thing"] : List Str) = _; decide +kernel) (cO (N:=Dv) (sc:=Af Jr) rfl rfl) rfl (CW rfl T.z_range (pU (Hb T.fl_size (vp 0)))) (fun _ _ _ => Cd) (fun _ _ _ => Fl (Aa (vr 2) (Aa (vr 2) (Ad))))))) (Aq)) (Ae (Ah (Gf ((FQ.or (Fo rfl)).or (Fp rfl)) JN rfl T.z_list Mr (pU (iX hr (pU (Hb T.fl_tied (vp 0))) (pU (iX hr (vp 1) (iP)))))))))
abbrev M9 : List Str:=["world", "fact", "spots", "names", "first", "last", "cases", "one", "other"]
theorem CJ : FnScope M9 ["world", "fact", "spots"] (Af M3):=⟨rfl,rfl,rfl,by decide +kernel,rfl,by decide +kernel,by decide +kernel⟩
theorem Qw (T : Tx G mg) : DOk P w base T.x_fact_cases 2 (spD G HQ):=
 fnX (k:=1) (N:=M9) (b:=Jj) T.x_fact_cases CJ fun _ _ _ _ _ _ hr => Ac (sF CJ.nd 3 (fX (Oz T) hr (Aa (vr 1) (Ad)))) (Ac (sF CJ.nd 4 (iX hr (vp 2) (pU (iX hr (vp 3) (iP))))) (Ac (sF CJ.nd 5 (iX hr (vp 2) (pU (iX hr (vp 3) (pU (Ih (iP))))))) (Ac (sF CJ.nd 6 (Cp)) (Ac (Bp PassesOwn.never rfl (Bk rfl (fX (Uq T) hr (Aa (vr 0) (Aa (vr 1) (Ad))))) (Jd rfl rfl (BZ (gN CJ.nd 7) (BZ (gN CJ.nd 8) (Ha)))) (Ae (sF CJ.nd 6 (Bw WQ O5 (vp 6) (pU (Bw Nf JD (pU (iX hr (vp 4) (vp 7))) (pU (iX hr (vp 5) (vp 8))))))))) (Ae (Ah (vr 6)))))))
abbrev QX : List Str:=["cases", "width", "times", "row", "turn"]
theorem IW : FnScope QX ["cases", "width", "times"] (Af QL):=⟨rfl,rfl,rfl,by decide +kernel,rfl,by decide +kernel,by decide +kernel⟩
theorem Ur (T : Tx G mg) : DOk P w base T.x_repeated 1 (spD G Jk):=
 fnX (k:=0) (N:=QX) (b:=Lr) T.x_repeated IW fun _ _ _ _ _ _ hr => Ac (sF IW.nd 3 (Cp)) (Ac (Bp PassesOwn.never rfl (CW rfl T.z_range (vp 2)) (Bb (gN IW.nd 4)) (Ae (sF IW.nd 3 (Bw WQ O5 (pU (Bw Mj Ml (vp 3) (vp 1))) (vp 0))))) (Ae (Ah (vr 3))))
abbrev M_ : List Str:=["width"]
theorem Qx : FnScope M_ ["width"] (Af M4):=⟨rfl,rfl,rfl,by decide +kernel,rfl,by decide +kernel,by decide +kernel⟩
theorem Gz (T : Tx G mg) : DOk P w base T.x_every_case 1 (spD G By):=
 fnX (k:=0) (N:=M_) (b:=Jl) T.x_every_case Qx fun _ _ _ _ _ _ hr => Ae (Ah (bSub (pU (Bw Mj Ml (iP) (vp 0))) (iP)))
abbrev FP : List Str:=["world", "name", "spots", "width", "wide", "known"]
theorem Lx : FnScope FP ["world", "name", "spots", "width"] (Af Kz):=⟨rfl,rfl,rfl,by decide +kernel,rfl,by decide +kernel,by decide +kernel⟩
theorem V6 (T : Tx G mg) : DOk P w base T.x_widened 2 (spD G Kv):=
 fnX (k:=1) (N:=FP) (b:=Oc) T.x_widened Lx fun _ _ _ _ _ _ hr => Ac (sW Lx.nd 4 (J4)) (Ac (Bp PassesOwn.never rfl (Bk rfl (vr 2)) (Bb (gN Lx.nd 5)) (Ae (Gn (FW hr) (pv 4) (vr 5) (Dy (nT FP "cases") (by show Bm "cases" FP ++ (["cases"] : List Str) = _; decide +kernel) (cO (N:=FP) (sc:=Af Kz) rfl rfl) rfl (PFI.top (Bk rfl (iX hr (vp 2) (vp 5)))) (fun _ _ _ => Cd) (fun _ _ _ => fX (Ur T) hr (Aa (vr 6) (Aa (vr 3) (Aa (Hb T.fl_size (vp 0)) (Ad))))))))) (Ac (Gn (FW hr) (pv 4) (vr 1) (Dy (nT FP "thing") (by show Bm "thing" FP ++ (["thing"] : List Str) = _; decide +kernel) (cO (N:=FP) (sc:=Af Kz) rfl rfl) rfl (CW rfl T.z_range (pU (Hb T.fl_size (vp 0)))) (fun _ _ _ => Cd) (fun _ _ _ => Bw Mj Ml (pU (fX (Gz T) hr (Aa (vr 3) (Ad)))) (pU (bMul (vp 6) (vp 3)))))) (Ae (Jb [4] (Ah (vr 4))))))
abbrev En : List Str:=["world", "saying", "spots", "width", "wide", "within", "blocks", "some", "every", "block"]
theorem Bg : FnScope En ["world", "saying", "spots", "width"] (Af Iv):=⟨rfl,rfl,rfl,by decide +kernel,rfl,by decide +kernel,by decide +kernel⟩
theorem QZ (T : Tx G mg) {m : Nat} {rec_cases_so : List D->Option D} (hm : 2<=m) (hrec : DOk P w base T.x_cases_so m (spD G rec_cases_so)) : DOk P w base T.x_bound_cases (m + 1) (spD G (El rec_cases_so)):=
 fnX (k:=m + 0) (N:=En) (b:=Gu rec_cases_so) T.x_bound_cases Bg fun _ _ _ _ _ _ hr => Ac (sF Bg.nd 4 (fX (V6 T) hr (Aa (vr 0) (Aa (iX hr (vp 1) (iP)) (Aa (vr 2) (Aa (vr 3) (Ad))))))) (Ac (sF Bg.nd 5 (fX (hrec) hr (Aa (vr 0) (Aa (iX hr (vp 1) (iP)) (Aa (vr 4) (Aa (bMul (vp 3) (pU (Hb T.fl_size (vp 0)))) (Ad))))))) (Ac (P_ (i:=6) (nT En "thing") (by show Bm "thing" En ++ (["thing"] : List Str) = _; decide +kernel) (cO (N:=En) (sc:=Af Iv) rfl rfl) rfl Bg.nd rfl (by first | exact Or.inl rfl | exact Or.inr rfl) (CW rfl T.z_range (pU (Hb T.fl_size (vp 0)))) (fun _ _ _ => Cd) (fun _ _ _ => Bw Nf JD (pU (Bw VG R4 (vp 5) (pU (bMul (vp 10) (vp 3))))) (pU (fX (Gz T) hr (Aa (vr 3) (Ad)))))) (Ac (sF Bg.nd 7 (Cp)) (Ac (sF Bg.nd 8 (fX (Gz T) hr (Aa (vr 3) (Ad)))) (Ac (Bp PassesOwn.never rfl (Bk rfl (vr 6)) (Bb (gN Bg.nd 9)) (Ac (sF Bg.nd 7 (Bw WQ O5 (vp 7) (vp 9))) (Ae (sF Bg.nd 8 (Bw Nf JD (vp 8) (vp 9)))))) (Ac (A_ (tEq hr (pU (iX hr (vp 1) (iP))) (sP)) (Ae (Ah (vr 7))) (Aq)) (Ae (Ah (vr 8)))))))))
abbrev Qa : List Str:=["world", "saying", "spots", "width", "first", "second"]
theorem KN : FnScope Qa ["world", "saying", "spots", "width"] (Af QM):=⟨rfl,rfl,rfl,by decide +kernel,rfl,by decide +kernel,by decide +kernel⟩
theorem Ia (T : Tx G mg) : ∀ n : Nat,DOk P w base T.x_cases_so (n * 2 + 2) (spD G (Bf n))
 | 0 => O9
 | n + 1 => (fnX (k:=n * 2 + 3) (N:=Qa) (b:=Du (Bf n)) T.x_cases_so KN fun _ _ _ _ _ _ hr => Ac (A_ (tIn hr (pU (iX hr (vp 1) (iP))) (pU (Ey (Eo (v:=.ref T.c_FACTS.a) rfl T.c_FACTS.m rfl) T.c_FACTS.r))) (Ae (Ah (fX (Qw T) hr (Aa (vr 0) (Aa (vr 1) (Aa (vr 2) (Ad))))))) (Aq)) (Ac (A_ (tIn hr (pU (iX hr (vp 1) (iP))) (pU (Ey (Eo (v:=.ref T.c_BINDERS.a) rfl T.c_BINDERS.m rfl) T.c_BINDERS.r))) (Ae (Ah (fX (QZ T (by omega) (Ia T n)) hr (Aa (vr 0) (Aa (vr 1) (Aa (vr 2) (Aa (vr 3) (Ad)))))))) (Aq)) (Ac (sF KN.nd 4 (fX (Ia T n) hr (Aa (vr 0) (Aa (iX hr (vp 1) (iP)) (Aa (vr 2) (Aa (vr 3) (Ad))))))) (Ac (A_ (tEq hr (pU (iX hr (vp 1) (iP))) (sP)) (Ae (Ah (Bw mL bL (pU (fX (Gz T) hr (Aa (vr 3) (Ad)))) (vp 4)))) (Aq)) (Ac (sF KN.nd 5 (fX (Ia T n) hr (Aa (vr 0) (Aa (iX hr (vp 1) (iP)) (Aa (vr 2) (Aa (vr 3) (Ad))))))) (Ac (A_ (tEq hr (pU (iX hr (vp 1) (iP))) (sP)) (Ae (Ah (Bw Nf JD (vp 4) (vp 5)))) (Aq)) (Ae (Ah (Bw WQ O5 (vp 4) (vp 5)))))))))).mono (by omega)
abbrev NB : List Str:=["world", "saying", "places", "given", "names", "spots", "name"]
theorem KQ : FnScope NB ["world", "saying", "places"] (Af S9):=⟨rfl,rfl,rfl,by decide +kernel,rfl,by decide +kernel,by decide +kernel⟩
theorem dM (T : Tx G mg) : DOk P w base T.x_is_so 123 (spD G Jm):=
 fnX (k:=122) (N:=NB) (b:=PL) T.x_is_so KQ fun _ _ _ _ _ _ hr => Ac (sF KQ.nd 3 (j9 (ie (vp 2)) (qF) (vr 2))) (Ac (sF KQ.nd 4 (fX (Lg T 60) hr (Aa (vr 1) (Ad)))) (Ac (Eg (fX (Lw T) hr (Aa (vr 0) (Aa (vr 4) (Aa (vr 3) (Ad)))))) (Ac (Eg (fX (FN T 60) hr (Aa (vr 0) (Aa (vr 1) (Ad))))) (Ac (sW KQ.nd 5 (J4)) (Ac (Bp PassesOwn.never rfl (Bk rfl (vr 4)) (Bb (gN KQ.nd 6)) (Ae (Gn (FW hr) (pv 5) (vr 6) (Dy (nT NB "thing") (by show Bm "thing" NB ++ (["thing"] : List Str) = _; decide +kernel) (cO (N:=NB) (sc:=Af S9) rfl rfl) rfl (CW rfl T.z_range (pU (Hb T.fl_size (vp 0)))) (fun _ _ _ => Cd) (fun _ _ _ => j9 (tEq hr (vp 7) (pU (iX hr (vp 3) (vp 6)))) (Cp) (Cp)))))) (Ae (Jb [5] (Ah (cEq hr (pU (fX (Ia T 60) hr (Aa (vr 0) (Aa (vr 1) (Aa (vr 5) (Aa (Cp) (Ad))))))) (iP))))))))))
abbrev G6 : List Str:=["_law_size", "_law_truths_here", "_law_saying", "_law_places_here", "_law_sort", "_law_found", "_law_thing", "_law_within"]
theorem Eb : FnScope G6 ["_law_size", "_law_truths_here", "_law_saying", "_law_places_here"] (Af KC):=⟨rfl,rfl,rfl,by decide +kernel,rfl,by decide +kernel,by decide +kernel⟩
theorem HW (T : Tx G mg) : ∀ n : Nat,DOk P w base T.x__law_true (n * 1 + 0) (spD G (Aw n))
 | 0 => O9
 | n + 1 => (fnX (k:=n * 1 + 0) (N:=G6) (b:=DG (Aw n)) T.x__law_true Eb fun _ _ _ _ _ _ hr => Ac (sF Eb.nd 4 (iX hr (vp 2) (iP))) (Ac (A_ (tEq hr (vp 4) (sP)) (Ae (Ah (cEq hr (pU (iX hr (vp 3) (pU (iX hr (vp 2) (iP))))) (pU (iX hr (vp 3) (pU (iX hr (vp 2) (iP)))))))) (Aq)) (Ac (A_ (tEq hr (vp 4) (sP)) (Ae (Ah (cIn hr (pU (iX hr (vp 3) (pU (iX hr (vp 2) (iP))))) (pU (iX hr (vp 1) (pU (iX hr (vp 2) (iP)))))))) (Aq)) (Ac (A_ (tEq hr (vp 4) (sP)) (Ae (Ah (cIn hr (pU (Fl (Aa (iX hr (vp 3) (pU (iX hr (vp 2) (iP)))) (Aa (iX hr (vp 3) (pU (iX hr (vp 2) (iP)))) (Ad))))) (pU (iX hr (vp 1) (pU (iX hr (vp 2) (iP)))))))) (Aq)) (Ac (A_ (tEq hr (vp 4) (sP)) (Ae (Ah (nF (fX (HW T n) hr (Aa (vr 0) (Aa (vr 1) (Aa (iX hr (vp 2) (iP)) (Aa (vr 3) (Ad))))))))) (Aq)) (Ac (A_ (PFW.pt (Py (tEq hr (vp 4) (sP)) (Km (tEq hr (vp 4) (sP))))) (Ac (RM (i:=5) (nT G6 "_law_inner") (by show Bm "_law_inner" G6 ++ (["_law_inner"] : List Str) = _; decide +kernel) (cO (N:=G6) (sc:=Af KC) rfl rfl) rfl Eb.nd rfl (by first | exact Or.inl rfl | exact Or.inr rfl) (PFI.top (Bk rfl (Dn rfl (vp 2) (Dc (iP)) (Ed)))) (fun _ _ _ => Cd) (fun _ _ _ => fX (HW T n) hr (Aa (vr 0) (Aa (vr 1) (Aa (vr 8) (Aa (vr 3) (Ad))))))) (Ae (Ah (iX hr (pU (Cy (Aa (BP (RX rfl) X3 rfl T.z_any dH (vq 5)) (Aa (BP (N8 rfl) Ss rfl T.z_all V0 (vq 5)) (Ad))))) (pU (Gf Q0 XH rfl T.z_int bf (pU (cEq hr (vp 4) (sP))))))))) (Aq)) (Ac (sW Eb.nd 5 (Vs (Ad))) (Ac (Bp PassesOwn.never rfl (CW rfl T.z_range (vp 0)) (Bb (gN Eb.nd 6)) (Ac (sW Eb.nd 7 (Sg rfl T.z_dict SM (vp 3))) (Ac (Gn (FW hr) (pv 7) (iX hr (vp 2) (iP)) (vr 6)) (Ae (Jb [7] (XQ (pv 5) (fX (HW T n) hr (Aa (vr 0) (Aa (vr 1) (Aa (iX hr (vp 2) (iP)) (Aa (vr 7) (Ad)))))))))))) (Ae (Ah (iX hr (pU (Cy (Aa (BP (RX rfl) X3 rfl T.z_any dH (vq 5)) (Aa (BP (N8 rfl) Ss rfl T.z_all V0 (vq 5)) (Ad))))) (pU (Gf Q0 XH rfl T.z_int bf (pU (cEq hr (vp 4) (sP)))))))))))))))).mono (by omega)
abbrev NK : List Str:=["_law_world_here", "_law_size", "_law_truths_here", "_law_saying", "_law_places_here", "_law_found"]
theorem Lh : FnScope NK ["_law_world_here", "_law_size", "_law_truths_here", "_law_saying", "_law_places_here"] (Af M5):=⟨rfl,rfl,rfl,by decide +kernel,rfl,by decide +kernel,by decide +kernel⟩
theorem Iz (T : Tx G mg) : DOk P w base T.x__law_asked 124 (spD G Ci):=
 fnX (k:=123) (N:=NK) (b:=Jo) T.x__law_asked Lh fun _ _ _ _ _ _ hr => Ac (sF Lh.nd 5 (fX (dM T) hr (Aa (vr 0) (Aa (vr 3) (Aa (vr 4) (Ad)))))) (Ae (Ah (bN (nQ bc rfl rfl T.z_isinstance Qo rfl T.z_bool iC (vp 5)) (bM (cEq hr (vp 5) (pU (fX (HW T 60) hr (Aa (vr 1) (Aa (vr 2) (Aa (vr 3) (Aa (vr 4) (Ad))))))))))))
abbrev lA : List Str:=["_law_script", "_law_words_here", "_law_size", "_law_marks", "_law_ties", "_law_names_here", "_law_cell_here", "_law_saying", "_law_many", "_law_some", "_law_others", "_law_truths_here", "_law_here", "_law_there", "_law_places_here", "_law_kept"]
theorem Dw : FnScope lA ["_law_script"] (Af k_):=⟨rfl,rfl,rfl,by decide +kernel,rfl,by decide +kernel,by decide +kernel⟩
theorem oU (T : Tx G mg) : DOk P w base T.x_law 125 (spD G QJ):=
 fnX (k:=124) (N:=lA) (b:=Ul) T.x_law Dw fun _ _ _ _ _ _ hr => Ac (sF Dw.nd 1 (fX (Qq T) hr (Aa (fX (DX T) hr (Aa (vr 0) (Aa (Cp) (Ad)))) (Ad)))) (Ac (Sh (Jd rfl rfl (BZ (gN Dw.nd 2) (BZ (gN Dw.nd 3) (BZ (gN Dw.nd 4) (Ha))))) (fX (LR T) hr (Aa (fX (DX T) hr (Aa (vr 0) (Aa (Cp) (Ad)))) (Aa (fX (DX T) hr (Aa (vr 0) (Aa (Cp) (Ad)))) (Aa (vr 1) (Ad)))))) (Ac (sF Dw.nd 5 (fX (Qs T) hr (Aa (fX (DX T) hr (Aa (vr 0) (Aa (Cp) (Ad)))) (Ad)))) (Ac (sF Dw.nd 6 (fX (DX T) hr (Aa (vr 0) (Aa (Cp) (Ad))))) (Ac (sF Dw.nd 7 (iX hr (pU (fX (Qu T) hr (Aa (Dn rfl (vp 0) (Dc (iP)) (Dc (iP))) (Aa (Gf ((FQ.or (Fo rfl)).or (Fp rfl)) JN rfl T.z_list Mr (vp 3)) (Aa (Gf ((FQ.or (Fo rfl)).or (Fp rfl)) JN rfl T.z_list Mr (vp 4)) (Aa (vr 5) (Aa (Cp) (Ad)))))))) (iP))) (Ac (Sh (Jd rfl rfl (BZ (gN Dw.nd 8) (BZ (gN Dw.nd 9) (BZ (gN Dw.nd 10) (Ha))))) (fX (QQ T) hr (Aa (vr 0) (Aa (vr 1) (Aa (vr 3) (Aa (vr 4) (Ad))))))) (Ac (A_ (PFW.pt (Py (tEqF hr (vp 2) (iP)) (Km (tEqF hr (vp 8) (iP))))) (Ae (sF Dw.nd 7 (fX (QV T) hr (Aa (fX (Jt T) hr (Aa (bMod (vp 6) (iP)) (Aa (Gf ((FQ.or (Fo rfl)).or (Fp rfl)) JN rfl T.z_list Mr (vp 3)) (Aa (Gf ((FQ.or (Fo rfl)).or (Fp rfl)) JN rfl T.z_list Mr (vp 4)) (Aa (Dn rfl (vp 5) (Ed) (Dc (iP))) (Ad)))))) (Aa (Dn rfl (vp 5) (Ed) (Dc (iP))) (Aa (vr 6) (Ad))))))) (Aq)) (Ac (sF Dw.nd 11 (fX (KH T) hr (Aa (vr 3) (Aa (vr 4) (Ad))))) (Ac (sF Dw.nd 12 (cZ T.gc_World T.x_World___init__.mM (IK T) (hr.mono (by omega)) rfl T.mC_World T.x_World___init__.B (Aa (vr 2) (Aa (vr 3) (Aa (vr 4) (Ad)))))) (Ac (sF Dw.nd 13 (cZ T.gc_World T.x_World___init__.mM (IK T) (hr.mono (by omega)) rfl T.mC_World T.x_World___init__.B (Aa (vr 8) (Aa (vr 9) (Aa (vr 10) (Ad)))))) (Ac (sF Dw.nd 14 (fX (QT T) hr (Aa (vr 6) (Aa (vr 5) (Aa (Mm (Yh rfl) bU rfl T.z_min nR (vp 2) (vp 8)) (Ad)))))) (Ac (sF Dw.nd 15 (PN.pf (Sg rfl T.z_dict SM (vp 14)))) (Ac (A_ (O6 (O7 (pU (fX (Iz T) hr (Aa (vr 12) (Aa (vr 2) (Aa (vr 11) (Aa (vr 7) (Aa (vr 14) (Ad)))))))) rfl)) (Ae (Ah (Tu))) (Aq)) (Ac (A_ (O6 (O7 (pU (fX (Iz T) hr (Aa (vr 13) (Aa (vr 8) (Aa (fX (KH T) hr (Aa (vr 9) (Aa (vr 10) (Ad)))) (Aa (vr 7) (Aa (vr 14) (Ad)))))))) rfl)) (Ae (Ah (Tu))) (Aq)) (Ae (Ah (bN (fX (Iz T) hr (Aa (vr 12) (Aa (vr 2) (Aa (vr 11) (Aa (vr 7) (Aa (vr 14) (Ad))))))) (bM (cEqF hr (vp 14) (vp 15)))))))))))))))))))
end
abbrev gx (K : PySem.W.Frag) (C_World : Addr) : Gx:=gx1 K "World" C_World
def lB (K : PySem.W.Frag) : Sp:=fun vs H Q _ => ∃ (a : Addr) (ns : List Int),vs = [.ref a]/\SqL K H a (ns.map V.int)/\ns.length<=63/\(∀ i ∈ ns,Builtin.Int.intBits i<=1048576)/\∀ H',Q (.bl true) H'
theorem oV (ht : ∀ ns : List Int,ns.length<=63->(∀ i ∈ ns,Builtin.Int.intBits i<=1048576)->QJ [.lst (ns.map .int)] = some (.bl true)) {K : PySem.W.Frag} {C_World : Addr} (vs : List V) (H : Hp) (Q : VK) (E : XK) (h : lB K vs H Q E) : spD (gx K C_World) QJ vs H Q E:=by
 obtain ⟨a,ns,rfl,hs,hl,hbt,k⟩:=h
 refine ⟨[],[.lst (ns.map .int)],.bl true,(fun _ z => nomatch z),RepL.cons ?_ RepL.nil,ht ns hl hbt,fun v H2 _ r => ?_⟩
 ·have e : hid [] H = H:=by funext b; exact Bv (fun z => nomatch z)
  rw [e]
  refine .lst hs (by simp) fun i x d h1 h2 => ?_
  rw [List.getElem?_map] at h1 h2
  cases e2 : ns[i]? with
  | none => rw [e2] at h1; cases h1
  | some z => rw [e2] at h1 h2; cases h1; cases h2; exact .int z
 ·cases r; exact k H2
end K17
namespace KB
open PySem L2 PV
theorem NP (a b : Nat) : Builtin.bitAnd (a : Int) (b : Int) = ((a &&& b : Nat) : Int):=by
 unfold Builtin.bitAnd
 simp [Int.natCast_nonneg]
theorem Qc (a b : Nat) : Builtin.bitOr (a : Int) (b : Int) = ((a ||| b : Nat) : Int):=by
 have h (x : Nat) : ¬ (0 : Int)<=Builtin.bitNot (x : Int):=by unfold Builtin.bitNot; omega
 have n (x : Int) : Builtin.bitNot (Builtin.bitNot x) = x:=by unfold Builtin.bitNot; omega
 unfold Builtin.bitOr Builtin.bitAnd
 simp only [h,decide_false,n,Int.toNat_natCast]
theorem full (w : Nat) : ((2 : Int) ^ w - 1) = ((2 ^ w - 1 : Nat) : Int):=by
 have h:=Nat.two_pow_pos w
 have e : ((2 ^ w : Nat) : Int) = (2 : Int) ^ w:=by simp
 omega
theorem dN (w x : Nat) (h : x < 2 ^ w) : Builtin.bitXor ((2 ^ w - 1 : Nat) : Int) (x : Int) = ((2 ^ w - (x + 1) : Nat) : Int):=by
 have n (x : Int) : Builtin.bitNot (Builtin.bitNot x) = x:=by unfold Builtin.bitNot; omega
 have e : (2 ^ w - 1) &&& x = x:=by rw [Nat.and_comm,Nat.and_two_pow_sub_one_eq_mod,Nat.mod_eq_of_lt h]
 have f : (2 ^ w - 1) ||| x = 2 ^ w - 1:=by
  apply Nat.eq_of_testBit_eq
  intro i
  rw [Nat.testBit_or,Nat.testBit_two_pow_sub_one]
  by_cases q : i < w
  ·simp [q]
  ·have z : x.testBit i = false:=Nat.testBit_lt_two_pow (Nat.lt_of_lt_of_le h (Nat.pow_le_pow_right (by decide) (by omega)))
   simp [q,z]
 unfold Builtin.bitXor
 rw [Qc,NP,e,f]
 omega
def rep (x w : Nat) : Nat->Nat
 | 0 => 0
 | n + 1 => rep x w n <<< w ||| x
theorem V7 {x w : Nat} (h : x < 2 ^ w) : ∀ n,rep x w n < 2 ^ (w * n)
 | 0 => by simp [rep]
 | n + 1 => by
  have ih:=V7 h n
  have e : w * (n + 1) = w * n + w:=by rw [Nat.mul_succ]
  refine Nat.or_lt_two_pow ?_ (Nat.lt_of_lt_of_le h (Nat.pow_le_pow_right (by decide) (by omega)))
  rw [Nat.shiftLeft_eq,e,Nat.pow_add]
  exact Nat.mul_lt_mul_of_pos_right ih (Nat.two_pow_pos w)
theorem X6 {x w j : Nat} (h : x < 2 ^ w) (hj : j < w) : ∀ n k,(rep x w n).testBit (j + w * k) = (decide (k < n) && x.testBit j)
 | 0,k => by simp [rep]
 | n + 1,0 => by
  rw [rep,Nat.testBit_or,Nat.testBit_shiftLeft]
  simp [hj]
  omega
 | n + 1,k + 1 => by
  have e : j + w * (k + 1) - w = j + w * k:=by rw [Nat.mul_succ]; omega
  have g : w<=j + w * (k + 1):=by rw [Nat.mul_succ]; omega
  have z : x.testBit (j + w * (k + 1)) = false:=Nat.testBit_lt_two_pow (Nat.lt_of_lt_of_le h (Nat.pow_le_pow_right (by decide) g))
  rw [rep,Nat.testBit_or,Nat.testBit_shiftLeft,z,e,X6 h hj n k]
  simp [g]
theorem dO {w t j k : Nat} (hj : j < w) : ((2 ^ w - 1) <<< (t * w)).testBit (j + w * k) = decide (k = t):=by
 rw [Nat.testBit_shiftLeft,Nat.testBit_two_pow_sub_one]
 by_cases h : k = t
 ·subst h
  have e : j + w * k - k * w = j:=by rw [Nat.mul_comm k w]; omega
  have g : k * w<=j + w * k:=by rw [Nat.mul_comm k w]; omega
  simp [e,g,hj]
 ·by_cases g : t<=k
  ·have l : t + 1<=k:=by omega
   have m:=Nat.mul_le_mul_left w l
   rw [Nat.mul_succ] at m
   have c : t * w = w * t:=Nat.mul_comm _ _
   have : ¬ j + w * k - t * w < w:=by omega
   simp [this,h]
  ·have l : k + 1<=t:=by omega
   have m:=Nat.mul_le_mul_left w l
   rw [Nat.mul_succ] at m
   have c : t * w = w * t:=Nat.mul_comm _ _
   have : ¬ t * w<=j + w * k:=by omega
   simp [this,h]
theorem jC {w t n : Nat} (h : t < n) : (2 ^ w - 1) <<< (t * w) < 2 ^ (w * n):=by
 have l:=Nat.mul_le_mul_left w (show t + 1<=n from h)
 rw [Nat.mul_succ] at l
 rw [Nat.shiftLeft_eq]
 have p:=Nat.two_pow_pos w
 have q : (2 ^ w - 1) * 2 ^ (t * w) < 2 ^ w * 2 ^ (t * w):=Nat.mul_lt_mul_of_pos_right (by omega) (Nat.two_pow_pos _)
 rw [<-Nat.pow_add] at q
 refine Nat.lt_of_lt_of_le q (Nat.pow_le_pow_right (by decide) ?_)
 have c : t * w = w * t:=Nat.mul_comm _ _
 omega
theorem ZC {c w k j : Nat} (hj : j < w) : ((c >>> (k * w)) &&& (2 ^ w - 1)).testBit j = c.testBit (j + w * k):=by
 rw [Nat.testBit_and,Nat.testBit_shiftRight,Nat.testBit_two_pow_sub_one]
 have e : k * w + j = j + w * k:=by rw [Nat.mul_comm k w]; omega
 simp [hj,e]
theorem dR {c w k : Nat} : (c >>> (k * w)) &&& (2 ^ w - 1) < 2 ^ w:=by
 rw [Nat.and_two_pow_sub_one_eq_mod]
 exact Nat.mod_lt _ (Nat.two_pow_pos w)
theorem jD {w x j : Nat} (h : x < 2 ^ w) (hj : j < w) : (2 ^ w - (x + 1)).testBit j = !x.testBit j:=by
 rw [Nat.testBit_two_pow_sub_succ h]
 simp [hj]
end KB
section
open PySem L2 PV
local macro_rules | `(tactic| simp only [cK,$ls,*] $[$l:location]?) => `(tactic| simp only [RC,e_nx,e_rt,e_bk,e_ct,aF,e_if,aG,aH,Pn,Lj,aJ,Vi,aK,aL,Wi,e_b,e_bs,e_u,e_us,aM,Wj,Vj,Rz,Wk,jm,Wm,aN,aO,aP,aQ,aR,aU,Vk,aV,aW,Vl,aX,aZ,aa,e_bl,Wn,aj,Wo,Wq,jn,ak,ao,aq,au,Wr,Ws,jo,az,a_,bA,Wt,jq,bB,bC,e_sl,jr,jt,Wu,Tr,e_v,e_vs,e_vU,ju,jw,e_k,bD,Wv,Ww,J1,Wx,R0,K5,Vm,bG,RD,bH,Mf,Wy,e_tr,Ff,Dj,Mg,JX,Cm,HX,Bl,DP,W4,W5,W6,Dl,e_tg,Fg,List.length_cons,List.length_nil,List.map_cons,List.map_nil,List.cons_append,List.nil_append,List.replicate_succ,List.replicate_zero,List.getElem?_cons_zero,List.getElem?_cons_succ,List.set_cons_zero,List.set_cons_succ,Nat.reduceAdd,Nat.reduceSub,Nat.reduceEqDiff,Nat.zero_add,truB,Bool.not_true,Bool.not_false,decide_true,decide_false,List.append_nil,Int.reduceLT,Int.reduceLE,Int.reduceNeg,Int.reduceEq,Int.reduceToNat,Nat.reduceLeDiff,ix0,ix1,ix2,ixt0,ixt1,ixt2,ixt3,$ls,*] $[$l:location]?)
local macro_rules | `(tactic| simp only [cK]) => `(tactic| simp only [RC,e_nx,e_rt,e_bk,e_ct,aF,e_if,aG,aH,Pn,Lj,aJ,Vi,aK,aL,Wi,e_b,e_bs,e_u,e_us,aM,Wj,Vj,Rz,Wk,jm,Wm,aN,aO,aP,aQ,aR,aU,Vk,aV,aW,Vl,aX,aZ,aa,e_bl,Wn,aj,Wo,Wq,jn,ak,ao,aq,au,Wr,Ws,jo,az,a_,bA,Wt,jq,bB,bC,e_sl,jr,jt,Wu,Tr,e_v,e_vs,e_vU,ju,jw,e_k,bD,Wv,Ww,J1,Wx,R0,K5,Vm,bG,RD,bH,Mf,Wy,e_tr,Ff,Dj,Mg,JX,Cm,HX,Bl,DP,W4,W5,W6,Dl,e_tg,Fg,List.length_cons,List.length_nil,List.map_cons,List.map_nil,List.cons_append,List.nil_append,List.replicate_succ,List.replicate_zero,List.getElem?_cons_zero,List.getElem?_cons_succ,List.set_cons_zero,List.set_cons_succ,Nat.reduceAdd,Nat.reduceSub,Nat.reduceEqDiff,Nat.zero_add,truB,Bool.not_true,Bool.not_false,decide_true,decide_false,List.append_nil,Int.reduceLT,Int.reduceLE,Int.reduceNeg,Int.reduceEq,Int.reduceToNat,Nat.reduceLeDiff,ix0,ix1,ix2,ixt0,ixt1,ixt2,ixt3])
local macro_rules | `(tactic| simp only [dK,$ls,*] $[$l:location]?) => `(tactic| simp only [cK,S5,Fq,cz,HF,Xm,Xn,Xo,Xp,Xq,Xr,Xu,Xv,Gh,HH,S6,Kr,J5,Hg,dB,Xw,K8,K9,Ii,dC,Xx,Ug,Ks,RW,kZ,$ls,*] $[$l:location]?)
local macro_rules | `(tactic| simp only [ciK,$ls,*] $[$l:location]?) => `(tactic| simp only [cK,Dg,Kl,aC,Vh,Wh,jg,jh,ji,Tp,jj,aD,$ls,*] $[$l:location]?)
local macro_rules | `(tactic| simp only [diK,$ls,*] $[$l:location]?) => `(tactic| simp only [cK,S5,Fq,cz,HF,Xm,Xn,Xo,Xp,Xq,Xr,Xu,Xv,Gh,HH,S6,Kr,J5,Hg,dB,Xw,K8,K9,Ii,dC,Xx,Ug,Ks,RW,kZ,Dg,Kl,aC,Vh,Wh,jg,jh,ji,Tp,jj,aD,$ls,*] $[$l:location]?)
namespace K17
open PySem L2 PV
theorem dU {α β : Type} (f : α->β) (l : List α) (k : Nat) : cutD (l.map f) none (some (k : Int)) = (l.take k).map f:=by rw [Vf,List.map_take]
theorem mod2 (n : Int) (h : ¬ n % 2 = 0) : n % 2 = 1:=by omega
abbrev cs (x : Str) : List Nat:=x.cps.toList
theorem Qd (x y : Str) : cs (x ++ y) = cs x ++ cs y:=by show (x.cps ++ y.cps).toList = _; simp [cs]
theorem KR (x : Str) : (cs x).length = x.length:=by simp [cs,Str.length]
theorem dW {x y : Str} (h : cs x = cs y) : x = y:=by
 cases x with | mk a => cases y with | mk b => simp [cs] at h; rw [h]
theorem TF (x : Str) (lo hi : Option Int) : cs (cutS x lo hi) = cutD (cs x) lo hi:=by simp [cs,cutS]
def LET : Str := "abcdefghijklmnopqrstuvwxyz"
theorem NQ : LET.length = 26:=by decide +kernel
def IsL (x : Str) : Prop:=∀ c ∈ cs x,c ∈ cs LET
theorem PP {x y : Str} (h : IsL x) (k : IsL y) : IsL (x ++ y):=fun c hc => by
 rw [Qd] at hc
 rcases List.mem_append.mp hc with q | q
 ·exact h c q
 ·exact k c q
theorem TJ {x : Str} (h : IsL x) (lo hi : Option Int) : IsL (cutS x lo hi):=fun c hc => by
 rw [TF] at hc
 unfold cutD at hc
 exact h c (List.mem_of_mem_drop (List.mem_of_mem_take hc))
theorem ZD : IsL "":=by
 have e : cs ("" : Str) = []:=by decide +kernel
 intro c hc
 rw [e] at hc
 cases hc
def Nm (x : Str) : Prop:=∃ c,c ∈ cs LET/\x = ⟨#[c]⟩
theorem Nm.isL {x : Str} (h : Nm x) : IsL x:=by obtain ⟨c,hc,rfl⟩:=h; intro d hd; simp [cs] at hd; subst hd; exact hc
theorem Nm.len {x : Str} (h : Nm x) : x.length = 1:=by obtain ⟨c,hc,rfl⟩:=h; rfl
theorem qL (i : Int) (h0 : 0<=i) (h1 : i < 26) : ∃ c,(cs LET)[i.toNat]? = some c/\c ∈ cs LET/\ixD (.str LET) (.int i) = some (.str ⟨#[c]⟩):=by
 have hl : (cs LET).length = 26:=by rw [KR]; exact NQ
 have hi : i.toNat < (cs LET).length:=by omega
 refine ⟨(cs LET)[i.toNat],by simp [hi],List.getElem_mem hi,?_⟩
 show (if LET.length<=sizeLine then (atI (cs LET) i).map (fun c => D.str ⟨#[c]⟩) else none) = _
 rw [if_pos (HD (by rw [NQ]; decide)),Vg h0 (by rw [hl]; omega)]
 simp [hi]
theorem dX (j : Int) : ∃ x : Str,ixD (.str LET) (.int (j % 26)) = some (.str x)/\Nm x:=by
 obtain ⟨c,hc,e⟩:=gJ LET 26 j (by rw [NQ]; rfl) (by rw [NQ]; decide) (by rw [NQ]; decide)
 exact ⟨_,e,c,hc,rfl⟩
def KEPT : List Str:=["not", "and", "or", "some", "all"]
structure Wd (x : Str) : Prop where
 lo : 1<=x.length
 hi : x.length<=8
 isL : IsL x
 kept : x ∉ KEPT
def Pre (x : Str) : Prop:=1<=x.length/\x.length<=7/\IsL x
theorem z_wd {x : Str} (h : Pre x) : Wd ("z" ++ x):=by
 have z1 : Str.length "z" = 1:=by decide +kernel
 refine ⟨by rw [DN]; omega,by rw [DN]; have:=h.2.1; omega,PP ?_ h.2.2,fun hk => ?_⟩
 ·intro c hc
  have : c = 122:=by
   have e : cs ("z" : Str) = [122]:=by decide +kernel
   rw [e] at hc
   simpa using hc
  subst this
  decide +kernel
 ·have e : cs ("z" ++ x) = 122 :: cs x:=by
   rw [Qd]
   have e : cs ("z" : Str) = [122]:=by decide +kernel
   rw [e]
   rfl
  have n : ∀ y ∈ KEPT,(cs y).head? ≠ some 122:=by decide +kernel
  exact n _ hk (by rw [e]; rfl)
theorem V8 (i n : Int) (m : Nat) (hm : m<=6) : ∃ (n' : Int) (b : Str) (z : Slot),forF (tgB (BW 4) Dp) (rngD m) [.fz (.int i),.fz (.str LET),.fz (.int n),.fz (.str ""),.un,.un,.un] = some (.nx [.fz (.int i),.fz (.str LET),.fz (.int n'),.fz (.str b),z,.un,.un])/\b.length<=6/\IsL b:=by
 obtain ⟨ρ',e,n',b,z,rfl,hb,hL⟩:=JB (b:=tgB (BW 4) Dp) (ds:=rngD m) (ρ:=[.fz (.int i),.fz (.str LET),.fz (.int n),.fz (.str ""),.un,.un,.un])
  (P:=fun k ρ => ∃ (n' : Int) (b : Str) (z : Slot),ρ = [.fz (.int i),.fz (.str LET),.fz (.int n'),.fz (.str b),z,.un,.un]/\b.length<=k/\IsL b) 0 ⟨n, "",.un,rfl,by decide,ZD⟩ (by
   rintro k d ρ hd ⟨n',b,z,rfl,hb,hL⟩
   have hk : k < m:=by
    have:=(List.getElem?_eq_some_iff.mp hd).1
    rw [Bs] at this
    exact this
   obtain ⟨x,ex,hx⟩:=dX (n' / 7)
   have hx1:=hx.len
   have ea:=Ry (i:=b) (j:=x) (by omega)
   refine ⟨[.fz (.int i),.fz (.str LET),.fz (.int (n' / 11)),.fz (.str (b ++ x)),.fz d,.un,.un],?_,n' / 11,b ++ x,.fz d,rfl,by rw [DN]; omega,PP hL hx.isL⟩
   show Dp [.fz (.int i),.fz (.str LET),.fz (.int n'),.fz (.str b),.fz d,.un,.un] = _
   simp only [ciK,Dp,ex,ea])
 rw [Bs] at hb
 exact ⟨n',b,z,e,by omega,hL⟩
theorem qM : powD (.int 10) (.int 18) = some (.int 1000000000000000000):=by rfl
theorem qN {w4 : List Str} (h6 : w4.length = 6) (r4 : ∀ x ∈ w4,Nm x) : Wf (.str "") (.lst (w4.map .str)) = some (.str (Str.join "" w4))/\(Str.join "" w4).length = 6/\IsL (Str.join "" w4):=by
 have e0 : Str.length "" = 0:=by decide +kernel
 match w4,h6,r4 with
 | [a,b,c,d,e,f],_,r4 =>
  have ha:=r4 a (by simp)
  have hb:=r4 b (by simp)
  have hc:=r4 c (by simp)
  have hd:=r4 d (by simp)
  have he:=r4 e (by simp)
  have hf:=r4 f (by simp)
  refine ⟨?_,?_,?_⟩
  ·show (G3 ([a,b,c,d,e,f].map .str)).bind (fun ys => if (ys.map (·.length)).sum + ys.length * (Str.length "")<=16777216 then some (D.str (Str.join "" ys)) else none) = _
   rw [Nq,Option.bind_some,if_pos]
   simp only [List.map_cons,List.map_nil,List.sum_cons,List.sum_nil,ha.len,hb.len,hc.len,hd.len,he.len,hf.len,e0,List.length_cons,List.length_nil]
   decide
  ·simp only [Str.join,DN,ha.len,hb.len,hc.len,hd.len,he.len,hf.len,e0]
  ·intro x hx
   have e : cs ("" : Str) = []:=by decide +kernel
   simp only [Str.join,Qd,List.mem_append,e,List.not_mem_nil,or_false,false_or] at hx
   repeat' (rcases hx with hx | hx)
   all_goals first | exact ha.isL x hx | exact hb.isL x hx | exact hc.isL x hx | exact hd.isL x hx | exact he.isL x hx | exact hf.isL x hx
theorem sq6 {k : Nat} (hk : k < 6) : (0 : Int)<=(k : Int) * k/\(k : Int) * k<=36:=by
 have h1 : k = 0 ∨ k = 1 ∨ k = 2 ∨ k = 3 ∨ k = 4 ∨ k = 5:=by omega
 rcases h1 with rfl | rfl | rfl | rfl | rfl | rfl <;> decide
theorem Ra {ρ : Rho} {ga : FT} {fe : FE} : ∀ {ds : List D},Bh ρ ga fe ds = some []->∀ d ∈ ds,ga (ρ ++ [.fz d]) = some false
 | [],_,d,hd => by cases hd
 | x :: r,h,d,hd => by
  rw [CN] at h
  cases e : ga (ρ ++ [.fz x]) with
  | none => rw [e] at h; cases h
  | some b =>
   rw [e] at h
   cases b with
   | true =>
    cases e2 : fe (ρ ++ [.fz x]) with
    | none => rw [e2] at h; cases h
    | some y =>
     cases e3 : Bh ρ ga fe r with
     | none => rw [e2,e3] at h; cases h
     | some l => rw [e2,e3] at h; cases h
   | false =>
    rw [jz] at h
    rcases List.mem_cons.mp hd with rfl | hd
    ·exact e
    ·exact Ra h d hd
theorem dY {x : Str} {a : Int} (h0 : 0<=a) (h1 : a<=x.length) : (cutS x none (some a)).length + (cutS x (some a) none).length = x.length:=by
 obtain ⟨k,rfl⟩:=Int.eq_ofNat_of_zero_le h0
 rw [<-KR,<-KR,<-KR,TF,TF]
 have e1:=Vf (cs x) k
 have e2:=aB (cs x) k
 have hl:=KR x
 show (cutD (cs x) none (some (k : Int))).length + (cutD (cs x) (some (k : Int)) none).length = _
 rw [e1,e2,List.length_take,List.length_drop]
 omega
def Li (j : Int) : Str:=⟨#[(cs LET).getD (j % 26).toNat 0]⟩
theorem Us (j : Int) : ixD (.str LET) (.int (j % 26)) = some (.str (Li j))/\Nm (Li j):=by
 obtain ⟨c,h1,h2,h3⟩:=qL (j % 26) (Int.emod_nonneg _ (by decide)) (Int.emod_lt_of_pos _ (by decide))
 have e : (cs LET).getD (j % 26).toNat 0 = c:=by simp [List.getD,h1]
 unfold Li
 rw [e]
 exact ⟨h3,c,h2,rfl⟩
theorem jE : ∀ i < 26,∀ j < 26,(cs LET).getD i 0 = (cs LET).getD j 0->i = j:=by decide +kernel
theorem ZF {i j : Int} (h : Li i = Li j) : i % 26 = j % 26:=by
 have e : (cs LET).getD (i % 26).toNat 0 = (cs LET).getD (j % 26).toNat 0:=by
  have:=congrArg cs h
  simpa [Li,cs] using this
 have hi:=Int.emod_nonneg i (show (26 : Int) ≠ 0 by decide)
 have hi':=Int.emod_lt_of_pos i (show (0 : Int) < 26 by decide)
 have hj:=Int.emod_nonneg j (show (26 : Int) ≠ 0 by decide)
 have hj':=Int.emod_lt_of_pos j (show (0 : Int) < 26 by decide)
 have:=jE (i % 26).toNat (by omega) (j % 26).toNat (by omega) e
 omega
theorem Ut {n : Nat} {fe : FE} {ρ : Rho} (f : Nat->Str) (src : FI) (hs : src ρ = some (rngD n)) (hn : n<=1000) (h : ∀ k,k < n->fe (ρ ++ [.fz (.int k)]) = some (.str (f k))) : Av src allT fe ρ = some (.lst (((List.range n).map f).map .str)):=by
 have c : ∀ l : List Nat,(∀ k ∈ l,k < n)->Bh ρ allT fe (l.map fun (k : Nat) => D.int k) = some ((l.map f).map .str):=by
  intro l
  induction l with
  | nil => intro _; rfl
  | cons k r ih =>
   intro hl
   rw [List.map_cons,CN,K5,h k (hl k (by simp)),ih fun d hd => hl d (by simp [hd])]
   rfl
 exact Fe hs (by rw [Bs]; omega) (c (List.range n) fun k hk => List.mem_range.mp hk)
theorem nodup_range {α : Type} [DecidableEq α] (f : Nat->α) (n : Nat) (h : ∀ i < n,∀ j < n,f i = f j->i = j) : ((List.range n).map f).Nodup:=by
 rw [List.Nodup,List.pairwise_map]
 refine List.Pairwise.imp_of_mem ?_ List.nodup_range
 intro a b ha hb hab e
 exact hab (h a (List.mem_range.mp ha) b (List.mem_range.mp hb) e)
theorem V9 {a b c d : Str} (h : a ++ c ++ b = a ++ d ++ b) : c = d:=by
 have:=congrArg cs h
 simp only [Qd] at this
 exact dW (List.append_cancel_left (List.append_cancel_right this))
theorem qO {x y : Str} (h : ("z" : Str) ++ x = "z" ++ y) : x = y:=by
 have:=congrArg cs h
 simp only [Qd] at this
 exact dW (List.append_cancel_left this)
theorem dZ (i : Int) : ∃ ws : List Str,DQ [.int i] = some (.lst (ws.map .str))/\ws.length = 6/\(∀ x ∈ ws,Wd x)/\ws.Nodup:=by
  obtain ⟨n,hn⟩ : ∃ n,modD (.int (i * 1000000007)) (.int 1000000000000000000) = some (.int n):=⟨_,Dg _ _ (by decide)⟩
  have em:=JW i 1000000007 (by decide)
  have ep:=qM
  have hmod : 0<=n % 7/\n % 7 < 7:=by clear hn em ep; omega
  obtain ⟨n',b,z,el,hb,hbL⟩:=V8 i n (n % 7).toNat (by omega)
  have lb:=j5 b (by omega)
  obtain ⟨at',emod,ha0,ha1⟩ : ∃ a,modD (.int (n' / 7)) (.int ((b.length : Int) + 1)) = some (.int a)/\0<=a/\a<=b.length:=⟨_,Dg _ _ (by omega),Int.emod_nonneg _ (by omega),by have:=Int.emod_lt_of_pos (n' / 7) (show (0 : Int) < (b.length : Int) + 1 by omega); omega⟩
  have cb:=dY ha0 ha1
  generalize hf1 : (fun k : Nat => cutS b none (some at') ++ Li (n' / 5 + 5 * (k : Int)) ++ cutS b (some at') none) = f1
  have f1e : ∀ k,f1 k = cutS b none (some at') ++ Li (n' / 5 + 5 * (k : Int)) ++ cutS b (some at') none:=fun k => by rw [<-hf1]
  have pre1 : ∀ k,Pre (f1 k):=fun k => by
    have hx:=(Us (n' / 5 + 5 * (k : Int))).2
    have hx1:=hx.len
    rw [f1e]
    exact ⟨by rw [DN,DN]; omega,by rw [DN,DN]; omega,PP (PP (TJ hbL _ _) hx.isL) (TJ hbL _ _)⟩
  have nd1 : ((List.range 6).map f1).Nodup:=nodup_range f1 6 fun i hi j hj e => by
    rw [f1e,f1e] at e
    have:=ZF (V9 e)
    omega
  have c1 : Av (rngI (kF (.int 6))) allT Hh [.fz (.int i),.fz (.str LET),.fz (.int n'),.fz (.str b),z,.fz (.int at'),.un] = some (.lst (((List.range 6).map f1).map .str)):=Ut f1 _ (by rfl) (by decide) fun k hk => by
    have e1:=Ma 5 (k : Int) (by decide)
    obtain ⟨ex,hx⟩:=Us (n' / 5 + 5 * (k : Int))
    have hx1:=hx.len
    have s1:=sl_s b none (some at') (by omega)
    have s2:=sl_s b (some at') none (by omega)
    have a1:=Ry (i:=cutS b none (some at')) (j:=Li (n' / 5 + 5 * (k : Int))) (by omega)
    have a2:=Ry (i:=cutS b none (some at') ++ Li (n' / 5 + 5 * (k : Int))) (j:=cutS b (some at') none) (by rw [DN]; omega)
    simp only [ciK,Hh,e1,ex,s1,s2,a1,a2,f1e]
  have fin : ∀ (b' : Str) (w : List Str),w.length = 6->(∀ x ∈ w,Pre x)->w.Nodup->∃ (o2 : List D),Av (seqI (vF 6)) (Bc) (CP) [.fz (.int i),.fz (.str LET),.fz (.int n'),.fz (.str b'),z,.fz (.int at'),.fz (.lst (w.map .str))] = some (.lst o2)
     /\Av (seqI (vF 6)) (allT) (Dq) [.fz (.int i),.fz (.str LET),.fz (.int n'),.fz (.str b'),z,.fz (.int at'),.fz (.lst (w.map .str))] = some (.lst ((w.map fun x => ("z" : Str) ++ x).map .str))/\(¬ (0 : Int) < o2.length->∀ x ∈ w,Wd x):=by
    intro b' w hw hs _
    have tst : ∀ x : Str,Bc ([.fz (.int i),.fz (.str LET),.fz (.int n'),.fz (.str b'),z,.fz (.int at'),.fz (.lst (w.map .str))] ++ [.fz (.str x)]) = some (KEPT.any (fun y => y == x)):=fun x => by
      have:=W3 x ["not", "and", "or", "some", "all"]
      simp only [List.map_cons,List.map_nil] at this
      simp only [cK,Bc,this]
      rfl
    obtain ⟨o2,f2,l2,p2⟩:=bI (src:=seqI (vF 6)) (ga:=Bc) (fe:=CP) (ρ:=[.fz (.int i),.fz (.str LET),.fz (.int n'),.fz (.str b'),z,.fz (.int at'),.fz (.lst (w.map .str))]) (ds:=w.map .str) (P:=fun _ => True) (by rfl) (by simp; omega) fun d hd => by
      obtain ⟨x,hx,rfl⟩:=List.mem_map.mp hd
      exact ⟨_,tst x,.str x,by rfl,trivial⟩
    have c7 : ∀ l : List Str,(∀ x ∈ l,Pre x)->Bh [.fz (.int i),.fz (.str LET),.fz (.int n'),.fz (.str b'),z,.fz (.int at'),.fz (.lst (w.map .str))] allT Dq (l.map .str) = some ((l.map fun x => ("z" : Str) ++ x).map .str):=by
      intro l
      induction l with
      | nil => intro _; rfl
      | cons x r ih =>
        intro hl
        have hp:=hl x (by simp)
        have a:=Ry (i := "z") (j:=x) (by (have : Str.length "z" = 1:=by decide +kernel); have:=hp.2.1; omega)
        have v : Dq ([.fz (.int i),.fz (.str LET),.fz (.int n'),.fz (.str b'),z,.fz (.int at'),.fz (.lst (w.map .str))] ++ [.fz (.str x)]) = some (.str ("z" ++ x)):=by simp only [cK,Dq,a]
        rw [List.map_cons,CN,K5,v,ih fun y hy => hl y (by simp [hy])]
        rfl
    refine ⟨o2,f2,Fe (by rfl) (by simp; omega) (c7 w hs),fun h0 x hx => ?_⟩
    have e0 : o2 = []:=List.length_eq_zero_iff.mp (by omega)
    subst e0
    have hc : Bh [.fz (.int i),.fz (.str LET),.fz (.int n'),.fz (.str b'),z,.fz (.int at'),.fz (.lst (w.map .str))] Bc CP (w.map .str) = some []:=by
      have : Av (seqI (vF 6)) (Bc) (CP) [.fz (.int i),.fz (.str LET),.fz (.int n'),.fz (.str b'),z,.fz (.int at'),.fz (.lst (w.map .str))] = (Bh [.fz (.int i),.fz (.str LET),.fz (.int n'),.fz (.str b'),z,.fz (.int at'),.fz (.lst (w.map .str))] Bc CP (w.map .str)).map D.lst:=by
        show (if _ then _ else _) = _
        rw [if_pos (HD (by simp; omega))]
      rw [this] at f2
      cases e : Bh [.fz (.int i),.fz (.str LET),.fz (.int n'),.fz (.str b'),z,.fz (.int at'),.fz (.lst (w.map .str))] Bc CP (w.map .str) with
      | none => rw [e] at f2; cases f2
      | some l => rw [e] at f2; cases f2; rfl
    have:=Ra hc (.str x) (List.mem_map.mpr ⟨x,hx,rfl⟩)
    rw [tst x] at this
    have hp:=hs x hx
    refine ⟨hp.1,by have:=hp.2.1; omega,hp.2.2,fun hk => ?_⟩
    have : (KEPT.any (fun y => y == x)) = false:=Option.some.inj this
    rw [List.any_eq_false] at this
    exact this x hk (by simp)
  have zn : ∀ w : List Str,w.Nodup->(w.map fun x => ("z" : Str) ++ x).Nodup:=fun w hw => by
    rw [List.Nodup,List.pairwise_map]
    exact List.Pairwise.imp (fun hab e => hab (qO e)) hw
  have zw : ∀ w : List Str,(∀ x ∈ w,Pre x)->∀ x ∈ w.map (fun x => ("z" : Str) ++ x),Wd x:=fun w hw x hx => by
    obtain ⟨y,hy,rfl⟩:=List.mem_map.mp hx
    exact z_wd (hw y hy)
  have rr:=Gb (n % 7) (by omega)
  have hL : (Str.ofString "abcdefghijklmnopqrstuvwxyz") = LET:=rfl
  by_cases h3 : n' % 3 = 0
  · obtain ⟨o4,f4,l4,p4⟩:=Wz (src:=rngI (kF (.int 6))) (fe:=Hi) (ρ:=[.fz (.int i),.fz (.str LET),.fz (.int n'),.fz (.str b),z,.fz (.int at'),.fz (.lst (((List.range 6).map f1).map .str))]) (ds:=rngD 6) (P:=fun y => ∃ x,y = D.str x/\Nm x) (by rfl) (by decide) fun d hd => by
      obtain ⟨k,hk,rfl⟩:=Tt hd
      have e1:=Ma (k : Int) (k : Int) (by omega)
      have hkk:=sq6 hk
      have e2:=Kl n' (3 + (k : Int) * k) (by omega) (by omega)
      obtain ⟨x,ex,hx⟩:=dX (n' / (3 + (k : Int) * k))
      refine ⟨.str x,?_,x,rfl,hx⟩
      simp only [ciK,Hi,e1,e2,ex]
    obtain ⟨w4,q4,k4,r4⟩:=R1 p4
    rw [q4] at f4
    obtain ⟨ej,hj,hjL⟩:=qN (by rw [k4,l4]; rfl) r4
    generalize hf2 : (fun k : Nat => cutS (Str.join "" w4) none (some ((k : Int) + 1))) = f2'
    have f2e : ∀ k,f2' k = cutS (Str.join "" w4) none (some ((k : Int) + 1)):=fun k => by rw [<-hf2]
    have f2l : ∀ k,k < 6->(f2' k).length = k + 1:=fun k hk => by
      rw [f2e,<-KR,TF]
      have:=Vf (cs (Str.join "" w4)) (k + 1)
      rw [show ((k : Int) + 1) = ((k + 1 : Nat) : Int) by omega,this,List.length_take,KR]
      omega
    have c5 : Av (rngI (kF (.int 6))) allT Hj [.fz (.int i),.fz (.str LET),.fz (.int n'),.fz (.str (Str.join "" w4)),z,.fz (.int at'),.fz (.lst (((List.range 6).map f1).map .str))] = some (.lst (((List.range 6).map f2').map .str)):=Ut f2' _ (by rfl) (by decide) fun k hk => by
      have s1:=sl_s (Str.join "" w4) none (some ((k : Int) + 1)) (by omega)
      simp only [ciK,Hj,s1,f2e]
    have pre2 : ∀ x ∈ (List.range 6).map f2',Pre x:=fun x hx => by
      obtain ⟨k,hk,rfl⟩:=List.mem_map.mp hx
      have hk:=List.mem_range.mp hk
      have:=f2l k hk
      exact ⟨by omega,by omega,by rw [f2e]; exact TJ hjL _ _⟩
    have nd2 : ((List.range 6).map f2').Nodup:=nodup_range f2' 6 fun i hi j hj e => by
      have h1:=f2l i hi
      have h2:=f2l j hj
      rw [e] at h1
      omega
    obtain ⟨o2,f2,f3,g2⟩:=fin (Str.join "" w4) ((List.range 6).map f2') (by simp) pre2 nd2
    by_cases h0 : (0 : Int) < o2.length
    · refine ⟨_,?_,?_,zw _ pre2,zn _ nd2⟩
      · simp only [ciK,DQ,Dz,hL,em,ep,hn,rr,el,lb,emod,c1,h3,f4,ej,c5,f2,W0,h0,f3]
      · simp
    · refine ⟨(List.range 6).map f2',?_,by simp,g2 h0,nd2⟩
      simp only [ciK,DQ,Dz,hL,em,ep,hn,rr,el,lb,emod,c1,h3,f4,ej,c5,f2,W0,h0,f3]
  · have pre1' : ∀ x ∈ (List.range 6).map f1,Pre x:=fun x hx => by
      obtain ⟨k,hk,rfl⟩:=List.mem_map.mp hx
      exact pre1 k
    obtain ⟨o2,f2,f3,g2⟩:=fin b ((List.range 6).map f1) (by simp) pre1' nd1
    by_cases h0 : (0 : Int) < o2.length
    · refine ⟨_,?_,?_,zw _ pre1',zn _ nd1⟩
      · simp only [ciK,DQ,Dz,hL,em,ep,hn,rr,el,lb,emod,c1,h3,f2,W0,h0,f3]
      · simp
    · refine ⟨(List.range 6).map f1,?_,by simp,g2 h0,nd1⟩
      simp only [ciK,DQ,Dz,hL,em,ep,hn,rr,el,lb,emod,c1,h3,f2,W0,h0,f3]
theorem dh (i : Int) : ∃ ws : List Str,HN [.int i] = some (.lst (ws.map .str))/\2<=ws.length/\ws.length<=6:=by
 have em:=JW i 1000000007 (by decide)
 obtain ⟨m,hm,h0,h5⟩ : ∃ m : Int,i * 1000000007 % 2147483647 % 5 = m/\0<=m/\m < 5:=⟨_,rfl,Int.emod_nonneg _ (by decide),Int.emod_lt_of_pos _ (by decide)⟩
 have er : rngI (vF 2) [.fz (.int i),.fz (.str LET),.fz (.int (2 + m))] = some (rngD (2 + m).toNat):=Gb (2 + m) (by clear em hm; omega)
 obtain ⟨out,h1,h2,h3⟩:=Wz (src:=rngI (vF 2)) (fe:=Hl) (ρ:=[.fz (.int i),.fz (.str LET),.fz (.int (2 + m))]) (ds:=rngD (2 + m).toNat) (P:=fun y => ∃ x,y = D.str x/\True) er (by rw [Bs]; clear em hm; omega) fun d hd => by
  obtain ⟨k,hk,rfl⟩:=Tt hd
  have e1:=JW (i / 26 % 2) 2 (by decide)
  have e2:=JW (7 + i / 26 % 2 * 2) (k : Int) (by clear em hm; omega)
  obtain ⟨x,ex,_⟩:=dX (i % 26 + (7 + i / 26 % 2 * 2) * (k : Int))
  refine ⟨.str x,?_,x,rfl,trivial⟩
  simp only [ciK,Hl,e1,e2,ex]
 obtain ⟨ws,e,hl,_⟩:=R1 h3
 have hlen : ws.length = (2 + m).toNat:=by rw [hl,h2,Bs]
 refine ⟨ws,?_,by clear em hm; omega,by clear em hm; omega⟩
 rw [e] at h1
 have hL : (Str.ofString "abcdefghijklmnopqrstuvwxyz") = LET:=rfl
 simp only [ciK,HN,Je,hL,em,hm,h1]
end K17
namespace K17
open PySem L2 PV
structure Wl where
 n : Nat
 ms : List (Str × List Nat)
 ts : List (Str × List (Nat × Nat))
abbrev iN (t : Nat) : D:=.int (t : Int)
abbrev pN (q : Nat × Nat) : D:=.tup [.int (q.1 : Int),.int (q.2 : Int)]
def lM (l : List Nat) : D:=.lst (l.map iN)
def lT (l : List (Nat × Nat)) : D:=.lst (l.map pN)
def eM (ms : List (Str × List Nat)) : List (Key × D):=ms.map fun p => (.inr p.1,lM p.2)
def eT (ts : List (Str × List (Nat × Nat))) : List (Key × D):=ts.map fun p => (.inr p.1,lT p.2)
def kM (l : List Nat) : D:=.dk (l.map fun (t : Nat) => ((.inl (t : Int) : Key),.bl true))
def kT (l : List (Nat × Nat)) : D:=.dt (l.map fun q => ([(.inl (q.1 : Int) : Key),.inl (q.2 : Int)],.bl true))
def oM (ms : List (Str × List Nat)) : List (Key × D):=ms.map fun p => (.inr p.1,kM p.2)
def oT (ts : List (Str × List (Nat × Nat))) : List (Key × D):=ts.map fun p => (.inr p.1,kT p.2)
def wob (W : Wl) : D:=.ob "World" [("size",.int W.n),("marked",.dk (oM W.ms)),("tied",.dk (oT W.ts))]
structure WOk (W : Wl) : Prop where
 n5 : W.n<=5
 m3 : W.ms.length<=3
 t3 : W.ts.length<=3
 mw : ∀ p ∈ W.ms,Wd p.1
 tw : ∀ p ∈ W.ts,Wd p.1
 nd : (W.ms.map (·.1) ++ W.ts.map (·.1)).Nodup
 ml : ∀ p ∈ W.ms,p.2.Nodup/\p.2.length<=100/\∀ t ∈ p.2,t < W.n
 tl : ∀ p ∈ W.ts,p.2.Nodup/\p.2.length<=100/\∀ q ∈ p.2,q.1 < W.n/\q.2 < W.n
theorem NT (n : Nat) (t : Nat) (h : t < n) : Be [.int (n : Int),.int (t : Int)] = some .non:=by
 have c1 : ¬ ((t : Int) < 0):=by omega
 have c2 : ¬ ((n : Int)<=t):=by omega
 simp only [ciK,Be,Fx,c1,c2]
theorem di {t : Nat} {l : List Nat} (h : t ∉ l) : (.inl (t : Int) : Key) ∉ (l.map fun (t : Nat) => ((.inl (t : Int) : Key),D.bl true)).map (·.1):=by
 intro z
 rw [List.map_map] at z
 obtain ⟨u,hu,e⟩:=List.mem_map.mp z
 simp at e
 have e' : u = t:=by omega
 exact h (e' ▸ hu)
theorem Rb (n : Nat) (x z0 : Slot) : ∀ (r p : List Nat) (z : Slot),(p ++ r).Nodup->(∀ t ∈ r,t < n)->(p ++ r).length<=100 ->
  ∃ z',forF (tgB (BW 3) Es) (r.map iN) [.fz (.int (n : Int)),x,.ow (kM p),z] = some (.nx [.fz (.int (n : Int)),x,.ow (kM (p ++ r)),z'])
 | [],p,z,_,_,_ => ⟨z,by rw [List.append_nil]; rfl⟩
 | t :: r,p,z,nd,hl,hlen => by
  have nt : t ∉ p:=by
   intro q
   rw [List.nodup_append] at nd
   exact nd.2.2 t q t (by simp) rfl
  have e1:=NT n t (hl t (by simp))
  have e2 : CG (kM p) (.int (t : Int)) (.bl true) = some (kM (p ++ [t])):=by
   show CG (.dk _) _ _ = _
   rw [oF _ _ _ (by simp at hlen ⊢; omega),putL_new (di nt)]
   simp [kM]
  have b : Es [.fz (.int (n : Int)),x,.ow (kM p),.fz (iN t)] = some (.nx [.fz (.int (n : Int)),x,.ow (kM (p ++ [t])),.fz (iN t)]):=by
   simp only [dK,Es,e1,e2]
  obtain ⟨z',ih⟩:=Rb n x z0 r (p ++ [t]) (.fz (iN t)) (by simpa using nd) (fun u hu => hl u (by simp [hu])) (by simpa using hlen)
  refine ⟨z',?_⟩
  rw [List.map_cons,Bl,e_tg,Dl,Fg]
  simp only [List.set_cons_zero,List.set_cons_succ]
  rw [b,DP,ih]
  simp
theorem jF (n : Nat) (l : List Nat) (nd : l.Nodup) (hl : ∀ t ∈ l,t < n) (hlen : l.length<=100) : De [.int (n : Int),lM l] = some (kM l):=by
 obtain ⟨z',e⟩:=Rb n (.fz (lM l)) .un l [] .un (by simpa using nd) hl (by simpa using hlen)
 rw [List.nil_append] at e
 have e0 : (D.dk []) = kM []:=rfl
 simp only [dK,De,Io,e0,lM,e] at e ⊢
theorem dj {t : Nat × Nat} {l : List (Nat × Nat)} (h : t ∉ l) : [(.inl (t.1 : Int) : Key),.inl (t.2 : Int)] ∉ (l.map fun (q : Nat × Nat) => ([(.inl (q.1 : Int) : Key),.inl (q.2 : Int)],D.bl true)).map (·.1):=by
 intro z
 rw [List.map_map] at z
 obtain ⟨u,hu,e⟩:=List.mem_map.mp z
 simp at e
 have e' : u = t:=by
  obtain ⟨a,b⟩:=u
  obtain ⟨c,d⟩:=t
  simp at e ⊢
  omega
 exact h (e' ▸ hu)
theorem Qe (n : Nat) (x : Slot) : ∀ (r p : List (Nat × Nat)) (z z2 : Slot),(p ++ r).Nodup->(∀ t ∈ r,t.1 < n/\t.2 < n)->(p ++ r).length<=100 ->
  ∃ z' z2',forF (tgB (tupG 2 (Bo 3 (Bo 4 nilG))) Fy) (r.map pN) [.fz (.int (n : Int)),x,.ow (kT p),z,z2] = some (.nx [.fz (.int (n : Int)),x,.ow (kT (p ++ r)),z',z2'])
 | [],p,z,z2,_,_,_ => ⟨z,z2,by rw [List.append_nil]; rfl⟩
 | t :: r,p,z,z2,nd,hl,hlen => by
  have nt : t ∉ p:=by
   intro q
   rw [List.nodup_append] at nd
   exact nd.2.2 t q t (by simp) rfl
  have e1:=NT n t.1 (hl t (by simp)).1
  have e1':=NT n t.2 (hl t (by simp)).2
  have e2 : Mu (kT p) [.int (t.1 : Int),.int (t.2 : Int)] (.bl true) = some (kT (p ++ [t])):=by
   show Mu (.dt _) _ _ = _
   rw [oG _ _ _ _ (by simp at hlen ⊢; omega),putL_new (dj nt)]
   simp [kT]
  have b : Fy [.fz (.int (n : Int)),x,.ow (kT p),.fz (.int (t.1 : Int)),.fz (.int (t.2 : Int))] = some (.nx [.fz (.int (n : Int)),x,.ow (kT (p ++ [t])),.fz (.int (t.1 : Int)),.fz (.int (t.2 : Int))]):=by
   simp only [dK,Fy,e1,e1',e2]
  obtain ⟨z',z2',ih⟩:=Qe n x r (p ++ [t]) (.fz (.int (t.1 : Int))) (.fz (.int (t.2 : Int))) (by simpa using nd) (fun u hu => hl u (by simp [hu])) (by simpa using hlen)
  refine ⟨z',z2',?_⟩
  rw [List.map_cons,Bl,e_tg,Ks,Fg]
  simp only [List.set_cons_zero,List.set_cons_succ]
  rw [b,DP,ih]
  simp
theorem dm (n : Nat) (l : List (Nat × Nat)) (nd : l.Nodup) (hl : ∀ t ∈ l,t.1 < n/\t.2 < n) (hlen : l.length<=100) : D_ [.int (n : Int),lT l] = some (kT l):=by
 obtain ⟨z',z2',e⟩:=Qe n (.fz (lT l)) l [] .un .un (by simpa using nd) hl (by simpa using hlen)
 rw [List.nil_append] at e
 have e0 : (D.dt []) = kT []:=rfl
 simp only [dK,D_,Jf,e0,lT,e] at e ⊢
theorem oW (c : Nat) : inD false (.str ⟨#[c]⟩) (.str LET) = some (.bl (!(Builtin.Str.occurrences LET ⟨#[c]⟩ 0 LET.length 1).isEmpty)):=of_eq_true (eq_self _)
theorem oX : ∀ c ∈ cs LET,(!(Builtin.Str.occurrences LET ⟨#[c]⟩ 0 LET.length 1).isEmpty) = true:=by decide +kernel
theorem jG {x : Str} (h : x ∉ KEPT) : inF false (.str x) c_KEPT_TEXTS = some (.bl false):=by
 have e : inF false (.str x) c_KEPT_TEXTS = inD false (.str x) (.lst (KEPT.map .str)):=rfl
 rw [e,W3]
 have : (KEPT.any fun y => y == x) = false:=by
  rw [List.any_eq_false]
  intro y hy hz
  have:=beq_iff_eq.mp hz
  exact h (this ▸ hy)
 rw [this]
theorem oY (x : Str) (h : x.length<=10000000) : lenE (.str x) = some (.int x.length):=j5 x h
theorem X7 {x : Str} (h : Wd x) : EY [.str x] = some (.bl true):=by
 have k:=jG h.kept
 have h1:=h.lo
 have h2:=h.hi
 have l:=oY x (by omega)
 have c0 : ¬ ((x.length : Int) = 0):=by omega
 have c8 : ¬ ((8 : Int) < x.length):=by omega
 have cc : ∀ l : List Nat,(∀ c ∈ l,c ∈ cs LET)->Bh [.fz (.str x)] allT G5 (l.map fun c => .str ⟨#[c]⟩) = some (l.map fun _ => .bl true):=by
  intro l
  induction l with
  | nil => intro _; rfl
  | cons c r ih =>
   intro hl
   have v : G5 ([.fz (.str x)] ++ [.fz (.str ⟨#[c]⟩)]) = some (.bl true):=by
    have e : inF false (.str ⟨#[c]⟩) (.str LET) = some (.bl true):=by
     show inD false (.str ⟨#[c]⟩) (.str LET) = _
     rw [oW,oX c (hl c (by simp))]
    have hL : (Str.ofString "abcdefghijklmnopqrstuvwxyz") = LET:=rfl
    simp only [cK,G5,hL,e]
   rw [List.map_cons,CN,K5,v,ih fun d hd => hl d (by simp [hd])]
   rfl
 have c1 : Av (seqA (vF 0)) allT G5 [.fz (.str x)] = some (.lst ((cs x).map fun _ => .bl true)):=by
  refine Fe (ds:=(cs x).map fun c => .str ⟨#[c]⟩) (by rfl) (by rw [List.length_map,KR]; omega) (cc (cs x) h.isL)
 have al : ∀ l : List Nat,allD (.lst (l.map fun _ => .bl true)) = some (.bl true):=by
  intro l
  have q : ∀ l : List Nat,blsD (l.map fun _ => D.bl true) = some (l.map fun _ => true):=by
   intro l
   induction l with
   | nil => rfl
   | cons c r ih => simp [blsD,ih]
  show (blsD (l.map fun _ => D.bl true)).map _ = _
  rw [q]
  simp
 simp only [ciK,EY,Ob,k,l,c0,c8,c1,al]
theorem Qf (i j : Int) (h : i<=j) : Bd [.int i,.int j] = some .non:=by
 have c : ¬ (j < i):=by omega
 simp only [ciK,Bd,Hm,c]
abbrev fS (n : Nat) : Str × Bool × D:=("size",false,.int (n : Int))
abbrev fM (ms : List (Str × List Nat)) : Str × Bool × D:=("marked",true,.dk (oM ms))
abbrev fT (ts : List (Str × List (Nat × Nat))) : Str × Bool × D:=("tied",true,.dk (oT ts))
theorem q1 : (("marked" : Str) == "size") = false:=by decide +kernel
theorem q2 : (("tied" : Str) == "size") = false:=by decide +kernel
theorem q3 : (("tied" : Str) == "marked") = false:=by decide +kernel
theorem n1 : ¬ (("size" : Str) = "marked"):=by decide +kernel
theorem n2 : ¬ (("size" : Str) = "tied"):=by decide +kernel
theorem n3 : ¬ (("marked" : Str) = "tied"):=by decide +kernel
theorem lkM (n : Nat) (d e : D) : List.lookup ("marked" : Str) [fS n,("marked",true,d),("tied",true,e)] = some (true,d):=by
 rw [List.lookup_cons,q1]
 show List.lookup ("marked" : Str) [("marked",true,d),("tied",true,e)] = _
 rw [List.lookup_cons,show (("marked" : Str) == "marked") = true by decide +kernel]
theorem lkT (n : Nat) (d e : D) : List.lookup ("tied" : Str) [fS n,("marked",true,d),("tied",true,e)] = some (true,e):=by
 rw [List.lookup_cons,q2]
 show List.lookup ("tied" : Str) [("marked",true,d),("tied",true,e)] = _
 rw [List.lookup_cons,q3]
 show List.lookup ("tied" : Str) [("tied",true,e)] = _
 rw [List.lookup_cons,show (("tied" : Str) == "tied") = true by decide +kernel]
theorem rpM (n : Nat) (d e d' : D) : repE "marked" d' [fS n,("marked",true,d),("tied",true,e)] = [fS n,("marked",true,d'),("tied",true,e)]:=by
 unfold repE repE
 rw [if_neg n1,if_pos rfl]
theorem rpT (n : Nat) (d e e' : D) : repE "tied" e' [fS n,("marked",true,d),("tied",true,e)] = [fS n,("marked",true,d),("tied",true,e')]:=by
 unfold repE repE repE
 rw [if_neg n2,if_neg n3,if_pos rfl]
theorem JS {α : Type} {w : Str} (f : α->D) {l : List (Str × α)} (h : w ∉ l.map (·.1)) : (.inr w : Key) ∉ (l.map fun p => ((.inr p.1 : Key),f p.2)).map (·.1):=by
 intro z
 rw [List.map_map] at z
 obtain ⟨u,hu,e⟩:=List.mem_map.mp z
 simp at e
 exact h (List.mem_map.mpr ⟨u,hu,e⟩)
theorem Qg (n : Nat) (hn : n<=5) (x : Addr) (a b : D) (e : D) (z6 : Slot) : ∀ (r p : List (Str × List Nat)) (z4 z5 : Slot),((p ++ r).map (·.1)).Nodup->(∀ q ∈ r,Wd q.1/\q.2.Nodup/\q.2.length<=100/\∀ t ∈ q.2,t < n)->(p ++ r).length<=3->(∀ d,z4 ≠ .ow d)->(∀ d,z5 ≠ .ow d)->(∀ d,z6 ≠ .ow d) ->
  ∃ z4' z5',(∀ d,z4' ≠ .ow d)/\(∀ d,z5' ≠ .ow d)/\Hv (tupG 2 (Bo 4 (Bo 5 nilG))) CQ (r.map fun q => .tup [.str q.1,lM q.2]) [.fz (.adr x),.fz (.int (n : Int)),.fz a,.fz b,z4,z5,z6] [fS n,fM p,("tied",true,e)] = some ([.fz (.adr x),.fz (.int (n : Int)),.fz a,.fz b,z4',z5',z6],[fS n,fM (p ++ r),("tied",true,e)])
 | [],p,z4,z5,_,_,_,h4,h5,_ => ⟨z4,z5,h4,h5,by rw [List.append_nil]; rfl⟩
 | t :: r,p,z4,z5,nd,hl,hlen,h4,h5,h6 => by
  obtain ⟨w,l⟩:=t
  obtain ⟨hw,l1,l2,l3⟩:=hl (w,l) (by simp)
  have nt : w ∉ p.map (·.1):=by
   intro q
   rw [List.map_append,List.nodup_append] at nd
   exact nd.2.2 w q w (by simp) rfl
  have e1:=X7 hw
  have e2:=jF n l l1 l3 l2
  have e3 : CG (.dk (oM p)) (.str w) (kM l) = some (.dk (oM (p ++ [(w,l)]))):=by
   rw [Ij _ _ _ (by simp [oM] at hlen ⊢; omega)]
   have : (.inr w : Key) ∉ (oM p).map (·.1):=JS kM nt
   rw [putL_new this]
   simp [oM]
  have b0 : CQ [.fz (.adr x),.fz (.int (n : Int)),.fz a,.fz b,.fz (.str w),.fz (lM l),z6] [fS n,fM p,("tied",true,e)] = some ([.fz (.adr x),.fz (.int (n : Int)),.fz a,.fz b,.fz (.str w),.fz (lM l),z6],[fS n,fM (p ++ [(w,l)]),("tied",true,e)]):=by
   have t0 : ifE (QD (notT (trF (Ai (EY) (Ab (vF 4) (nilA)))))) [.fz (.adr x),.fz (.int (n : Int)),.fz a,.fz b,.fz (.str w),.fz (lM l),z6] [fS n,fM p,("tied",true,e)] = some ([.fz (.adr x),.fz (.int (n : Int)),.fz a,.fz b,.fz (.str w),.fz (lM l),z6],[fS n,fM p,("tied",true,e)]):=by
    have : notT (trF (Ai (EY) (Ab (vF 4) (nilA)))) [.fz (.adr x),.fz (.int (n : Int)),.fz a,.fz b,.fz (.str w),.fz (lM l),z6] = some false:=by simp only [cK,e1]
    unfold ifE QD
    rw [this]
   have t1 : Ot "marked" (vF 4) (Ai (De) (Ab (vF 1) (Ab (vF 5) (nilA)))) [.fz (.adr x),.fz (.int (n : Int)),.fz a,.fz b,.fz (.str w),.fz (lM l),z6] [fS n,fM p,("tied",true,e)] = some ([.fz (.adr x),.fz (.int (n : Int)),.fz a,.fz b,.fz (.str w),.fz (lM l),z6],[fS n,fM (p ++ [(w,l)]),("tied",true,e)]):=by
    have v1 : Ai (De) (Ab (vF 1) (Ab (vF 5) (nilA))) [.fz (.adr x),.fz (.int (n : Int)),.fz a,.fz b,.fz (.str w),.fz (lM l),z6] = some (kM l):=by simp only [cK,e2]
    have v2 : vF 4 [.fz (.adr x),.fz (.int (n : Int)),.fz a,.fz b,.fz (.str w),.fz (lM l),z6] = some (.str w):=rfl
    unfold Ot
    rw [v1,v2]
    show (match List.lookup ("marked" : Str) [fS n,fM p,("tied",true,e)] with | some (true,d) => (CG d (.str w) (kM l)).map fun d' => (_,repE "marked" d' [fS n,fM p,("tied",true,e)]) | _ => none) = _
    rw [lkM]
    show (CG (.dk (oM p)) (.str w) (kM l)).map _ = _
    rw [e3]
    show some (_,repE "marked" _ [fS n,fM p,("tied",true,e)]) = _
    rw [rpM]
   unfold CQ
   rw [Ik,t0,Gq,t1]
  obtain ⟨z4',z5',g4,g5,ih⟩:=Qg n hn x a b e z6 r (p ++ [(w,l)]) (.fz (.str w)) (.fz (lM l)) (by simpa using nd) (fun u hu => hl u (by simp [hu])) (by simpa using hlen) (fun d => by simp) (fun d => by simp) h6
  refine ⟨z4',z5',g4,g5,?_⟩
  rw [List.map_cons]
  unfold Hv
  rw [Ks]
  have no : noOw [.fz (.adr x),.fz (.int (n : Int)),.fz a,.fz b,.fz (.str w),.fz (lM l),z6] = true:=by
   unfold noOw
   cases z6 with
   | ow d => exact absurd rfl (h6 d)
   | un => rfl
   | fz d => rfl
  show (if noOw [.fz (.adr x),.fz (.int (n : Int)),.fz a,.fz b,.fz (.str w),.fz (lM l),z6] = true then (CQ [.fz (.adr x),.fz (.int (n : Int)),.fz a,.fz b,.fz (.str w),.fz (lM l),z6] _).bind _ else none) = _
  rw [if_pos no,b0]
  show Hv _ _ _ _ _ = _
  rw [ih]
  simp
end K17
namespace K17
open PySem L2 PV
theorem Rc (n : Nat) (hn : n<=5) (x : Addr) (a b : D) (ms : List (Str × List Nat)) (z5 : Slot) (h5 : ∀ d,z5 ≠ .ow d) : ∀ (r p : List (Str × List (Nat × Nat))) (z4 z6 : Slot),((p ++ r).map (·.1)).Nodup->(∀ q ∈ r,Wd q.1/\q.1 ∉ ms.map (·.1)/\q.2.Nodup/\q.2.length<=100/\∀ t ∈ q.2,t.1 < n/\t.2 < n)->(p ++ r).length<=3->(∀ d,z4 ≠ .ow d)->(∀ d,z6 ≠ .ow d) ->
  ∃ z4' z6',Hv (tupG 2 (Bo 4 (Bo 6 nilG))) CT (r.map fun q => .tup [.str q.1,lT q.2]) [.fz (.adr x),.fz (.int (n : Int)),.fz a,.fz b,z4,z5,z6] [fS n,fM ms,fT p] = some ([.fz (.adr x),.fz (.int (n : Int)),.fz a,.fz b,z4',z5,z6'],[fS n,fM ms,fT (p ++ r)])
 | [],p,z4,z6,_,_,_,h4,h6 => ⟨z4,z6,by rw [List.append_nil]; rfl⟩
 | t :: r,p,z4,z6,nd,hl,hlen,h4,h6 => by
  obtain ⟨w,l⟩:=t
  obtain ⟨hw,nm,l1,l2,l3⟩:=hl (w,l) (by simp)
  have nt : w ∉ p.map (·.1):=by
   intro q
   rw [List.map_append,List.nodup_append] at nd
   exact nd.2.2 w q w (by simp) rfl
  have e1:=X7 hw
  have e2:=dm n l l1 l3 l2
  have e3 : CG (.dk (oT p)) (.str w) (kT l) = some (.dk (oT (p ++ [(w,l)]))):=by
   rw [Ij _ _ _ (by simp [oT] at hlen ⊢; omega)]
   have : (.inr w : Key) ∉ (oT p).map (·.1):=JS kT nt
   rw [putL_new this]
   simp [oT]
  have e4 : getK (.inr w : Key) (oM ms) = none:=OD (JS kM nm)
  have b0 : CT [.fz (.adr x),.fz (.int (n : Int)),.fz a,.fz b,.fz (.str w),z5,.fz (lT l)] [fS n,fM ms,fT p] = some ([.fz (.adr x),.fz (.int (n : Int)),.fz a,.fz b,.fz (.str w),z5,.fz (lT l)],[fS n,fM ms,fT (p ++ [(w,l)])]):=by
   have t0 : ifE (orTE (QD (notT (trF (Ai (EY) (Ab (vF 4) (nilA)))))) (inTE "marked" (vF 4))) [.fz (.adr x),.fz (.int (n : Int)),.fz a,.fz b,.fz (.str w),z5,.fz (lT l)] [fS n,fM ms,fT p] = some ([.fz (.adr x),.fz (.int (n : Int)),.fz a,.fz b,.fz (.str w),z5,.fz (lT l)],[fS n,fM ms,fT p]):=by
    have u1 : notT (trF (Ai (EY) (Ab (vF 4) (nilA)))) [.fz (.adr x),.fz (.int (n : Int)),.fz a,.fz b,.fz (.str w),z5,.fz (lT l)] = some false:=by simp only [cK,e1]
    have v2 : vF 4 [.fz (.adr x),.fz (.int (n : Int)),.fz a,.fz b,.fz (.str w),z5,.fz (lT l)] = some (.str w):=rfl
    have u2 : inTE "marked" (vF 4) [.fz (.adr x),.fz (.int (n : Int)),.fz a,.fz b,.fz (.str w),z5,.fz (lT l)] [fS n,fM ms,fT p] = some false:=by
     unfold inTE
     rw [v2]
     show (match List.lookup ("marked" : Str) [fS n,fM ms,fT p] with | some (true,.dk kds) => (keyD (.str w)).map fun q => (getK q kds).isSome | _ => none) = _
     rw [lkM]
     show some ((getK (.inr w : Key) (oM ms)).isSome) = _
     rw [e4]
     rfl
    unfold ifE orTE QD
    rw [u1]
    show (match inTE "marked" (vF 4) _ _ with | some false => some _ | _ => none) = _
    rw [u2]
   have t1 : Ot "tied" (vF 4) (Ai (D_) (Ab (vF 1) (Ab (vF 6) (nilA)))) [.fz (.adr x),.fz (.int (n : Int)),.fz a,.fz b,.fz (.str w),z5,.fz (lT l)] [fS n,fM ms,fT p] = some ([.fz (.adr x),.fz (.int (n : Int)),.fz a,.fz b,.fz (.str w),z5,.fz (lT l)],[fS n,fM ms,fT (p ++ [(w,l)])]):=by
    have v1 : Ai (D_) (Ab (vF 1) (Ab (vF 6) (nilA))) [.fz (.adr x),.fz (.int (n : Int)),.fz a,.fz b,.fz (.str w),z5,.fz (lT l)] = some (kT l):=by simp only [cK,e2]
    have v2 : vF 4 [.fz (.adr x),.fz (.int (n : Int)),.fz a,.fz b,.fz (.str w),z5,.fz (lT l)] = some (.str w):=rfl
    unfold Ot
    rw [v1,v2]
    show (match List.lookup ("tied" : Str) [fS n,fM ms,fT p] with | some (true,d) => (CG d (.str w) (kT l)).map fun d' => (_,repE "tied" d' [fS n,fM ms,fT p]) | _ => none) = _
    rw [lkT]
    show (CG (.dk (oT p)) (.str w) (kT l)).map _ = _
    rw [e3]
    show some (_,repE "tied" _ [fS n,fM ms,fT p]) = _
    rw [rpT]
   unfold CT
   rw [Ik,t0,Gq,t1]
  obtain ⟨z4',z6',ih⟩:=Rc n hn x a b ms z5 h5 r (p ++ [(w,l)]) (.fz (.str w)) (.fz (lT l)) (by simpa using nd) (fun u hu => hl u (by simp [hu])) (by simpa using hlen) (fun d => by simp) (fun d => by simp)
  refine ⟨z4',z6',?_⟩
  rw [List.map_cons]
  unfold Hv
  have tg : tupG 2 (Bo 4 (Bo 6 nilG)) (.tup [.str w,lT l]) [.fz (.adr x),.fz (.int (n : Int)),.fz a,.fz b,z4,z5,z6] = some [.fz (.adr x),.fz (.int (n : Int)),.fz a,.fz b,.fz (.str w),z5,.fz (lT l)]:=by rw [Ks]; rfl
  rw [tg]
  have no : noOw [.fz (.adr x),.fz (.int (n : Int)),.fz a,.fz b,.fz (.str w),z5,.fz (lT l)] = true:=by
   unfold noOw
   cases z5 with
   | ow d => exact absurd rfl (h5 d)
   | un => rfl
   | fz d => rfl
  show (if noOw [.fz (.adr x),.fz (.int (n : Int)),.fz a,.fz b,.fz (.str w),z5,.fz (lT l)] = true then (CT [.fz (.adr x),.fz (.int (n : Int)),.fz a,.fz b,.fz (.str w),z5,.fz (lT l)] _).bind _ else none) = _
  rw [if_pos no,b0]
  show Hv _ _ _ _ _ = _
  rw [ih]
  simp
theorem X8 (W : Wl) (h : WOk W) (x : Addr) : CK x [.int (W.n : Int),.dk (eM W.ms),.dk (eT W.ts)] = some [fS W.n,fM W.ms,fT W.ts]:=by
 have ndm : (W.ms.map (·.1)).Nodup:=(List.nodup_append.mp h.nd).1
 have ndt : (W.ts.map (·.1)).Nodup:=(List.nodup_append.mp h.nd).2.1
 obtain ⟨z4,z5,g4,g5,m⟩:=Qg W.n h.n5 x (.dk (eM W.ms)) (.dk (eT W.ts)) (.dk []) .un W.ms [] .un .un (by simpa using ndm) (fun q hq => ⟨h.mw q hq,h.ml q hq⟩) (by simpa using h.m3) (fun d => by simp) (fun d => by simp) (fun d => by simp)
 obtain ⟨z4',z6',t⟩:=Rc W.n h.n5 x (.dk (eM W.ms)) (.dk (eT W.ts)) W.ms z5 g5 W.ts [] z4 .un (by simpa using ndt) (fun q hq => ⟨h.tw q hq,fun z => (List.nodup_append.mp h.nd).2.2 q.1 z q.1 (List.mem_map.mpr ⟨q,hq,rfl⟩) rfl,h.tl q hq⟩) (by simpa using h.t3) g4 (fun d => by simp)
 rw [List.nil_append] at m t
 change Hv _ _ _ _ [fS W.n,fM [],fT []] = some (_,[fS W.n,fM W.ms,fT []]) at m
 have r1:=Qf (W.n : Int) 5 (by have:=h.n5; omega)
 have r2:=Qf ((eM W.ms).length : Int) 3 (by have:=h.m3; simp [eM]; omega)
 have r3:=Qf ((eT W.ts).length : Int) 3 (by have:=h.t3; simp [eT]; omega)
 have no : noOw [.fz (.adr x),.fz (.int (W.n : Int)),.fz (.dk (eM W.ms)),.fz (.dk (eT W.ts)),.un,.un,.un] = true:=rfl
 have p1 : pureE (GZ (Ai (Bd) (Ab (vF 1) (Ab (kF (.int 5)) (nilA))))) [.fz (.adr x),.fz (.int (W.n : Int)),.fz (.dk (eM W.ms)),.fz (.dk (eT W.ts)),.un,.un,.un] [] = some ([.fz (.adr x),.fz (.int (W.n : Int)),.fz (.dk (eM W.ms)),.fz (.dk (eT W.ts)),.un,.un,.un],[]):=S7 (by simp only [cK,r1]) no
 have p2 : pureE (GZ (Ai (Bd) (Ab (uF lenE (vF 2)) (Ab (kF (.int 3)) (nilA))))) [.fz (.adr x),.fz (.int (W.n : Int)),.fz (.dk (eM W.ms)),.fz (.dk (eT W.ts)),.un,.un,.un] [] = some ([.fz (.adr x),.fz (.int (W.n : Int)),.fz (.dk (eM W.ms)),.fz (.dk (eT W.ts)),.un,.un,.un],[]):=S7 (by simp only [dK,r2]) no
 have p3 : pureE (GZ (Ai (Bd) (Ab (uF lenE (vF 3)) (Ab (kF (.int 3)) (nilA))))) [.fz (.adr x),.fz (.int (W.n : Int)),.fz (.dk (eM W.ms)),.fz (.dk (eT W.ts)),.un,.un,.un] [] = some ([.fz (.adr x),.fz (.int (W.n : Int)),.fz (.dk (eM W.ms)),.fz (.dk (eT W.ts)),.un,.un,.un],[]):=S7 (by simp only [dK,r3]) no
 have s1 : Xf "size" (vF 1) [.fz (.adr x),.fz (.int (W.n : Int)),.fz (.dk (eM W.ms)),.fz (.dk (eT W.ts)),.un,.un,.un] [] = some ([.fz (.adr x),.fz (.int (W.n : Int)),.fz (.dk (eM W.ms)),.fz (.dk (eT W.ts)),.un,.un,.un],[fS W.n]):=rfl
 have s2 : Oq "marked" (kF (.dk [])) [.fz (.adr x),.fz (.int (W.n : Int)),.fz (.dk (eM W.ms)),.fz (.dk (eT W.ts)),.un,.un,.un] [fS W.n] = some ([.fz (.adr x),.fz (.int (W.n : Int)),.fz (.dk (eM W.ms)),.fz (.dk (eT W.ts)),.un,.un,.un],[fS W.n,fM []]):=by
  have l : List.lookup ("marked" : Str) [fS W.n] = none:=by
   rw [List.lookup_cons,q1]
   rfl
  unfold Oq
  show (if (List.lookup ("marked" : Str) [fS W.n]).isNone = true/\[fS W.n].length < 1000 then some (_,[fS W.n] ++ [(("marked" : Str),true,D.dk [])]) else none) = _
  rw [l,if_pos ⟨rfl,(by show 1 < 1000; decide)⟩]
  rfl
 have s3 : Oq "tied" (kF (.dk [])) [.fz (.adr x),.fz (.int (W.n : Int)),.fz (.dk (eM W.ms)),.fz (.dk (eT W.ts)),.un,.un,.un] [fS W.n,fM []] = some ([.fz (.adr x),.fz (.int (W.n : Int)),.fz (.dk (eM W.ms)),.fz (.dk (eT W.ts)),.un,.un,.un],[fS W.n,fM [],fT []]):=by
  have l : List.lookup ("tied" : Str) [fS W.n,fM []] = none:=by
   rw [List.lookup_cons,q2]
   show List.lookup ("tied" : Str) [fM []] = none
   rw [List.lookup_cons,q3]
   rfl
  unfold Oq
  show (if (List.lookup ("tied" : Str) [fS W.n,fM []]).isNone = true/\[fS W.n,fM []].length < 1000 then some (_,[fS W.n,fM []] ++ [(("tied" : Str),true,D.dk [])]) else none) = _
  rw [l,if_pos ⟨rfl,(by show 2 < 1000; decide)⟩]
  rfl
 have i1 : Lp (vF 2) [.fz (.adr x),.fz (.int (W.n : Int)),.fz (.dk (eM W.ms)),.fz (.dk (eT W.ts)),.un,.un,.un] = some (W.ms.map fun q => .tup [.str q.1,lM q.2]):=by
  show some ((eM W.ms).map fun p => D.tup [kDt p.1,p.2]) = _
  simp only [eM,List.map_map,Function.comp_def,RW]
 have i2 : Lp (vF 3) [.fz (.adr x),.fz (.int (W.n : Int)),.fz (.dk (eM W.ms)),.fz (.dk (eT W.ts)),z4,z5,.un] = some (W.ts.map fun q => .tup [.str q.1,lT q.2]):=by
  show some ((eT W.ts).map fun p => D.tup [kDt p.1,p.2]) = _
  simp only [eT,List.map_map,Function.comp_def,RW]
 have st : Sv 7 x [.int (W.n : Int),.dk (eM W.ms),.dk (eT W.ts)] = [.fz (.adr x),.fz (.int (W.n : Int)),.fz (.dk (eM W.ms)),.fz (.dk (eT W.ts)),.un,.un,.un]:=rfl
 unfold CK runI
 rw [if_pos (show [D.int (W.n : Int),.dk (eM W.ms),.dk (eT W.ts)].length + 1 = 4 from rfl),st]
 unfold Gi
 rw [Ik,p1,Gq,Ik,p2,Gq,Ik,p3,Gq,Ik,s1,Gq,Ik,s2,Gq,Ik,s3,Gq,Ik,dD i1,m,Gq,Ik,dD i2,t,Gq,oH]
 rfl
theorem lC (W : Wl) (h : WOk W) (fs : FA) (ρ : Rho) (hf : fs ρ = some [.int (W.n : Int),.dk (eM W.ms),.dk (eT W.ts)]) : mkI "World" CK fs ρ = some (wob W):=by
 unfold mkI
 rw [hf]
 simp only [Option.bind_some,X8 W h 0]
 rw [if_pos (fun x => X8 W h x)]
 rfl
end K17
namespace K17
open PySem L2 PV
inductive Fa where
 | mk (w x : Str) | ti (w x y : Str) | sa (x y : Str)
def enc : Fa->D
 | .mk w x => .tup [.str "mark",.str w,.str x]
 | .ti w x y => .tup [.str "tie",.str w,.str x,.str y]
 | .sa x y => .tup [.str "same",.str x,.str y]
def nms : Fa->List Str
 | .mk _ x => [x]
 | .ti _ x y => [x,y]
 | .sa x y => [x,y]
def fst : Fa->Str | .mk _ x => x | .ti _ x _ => x | .sa x _ => x
def lst' : Fa->Str | .mk _ x => x | .ti _ _ y => y | .sa _ y => y
def Kn (W : Wl) : Fa->Prop
 | .mk w _ => w ∈ W.ms.map (·.1)
 | .ti w _ _ => w ∈ W.ts.map (·.1)
 | .sa _ _ => True
def prs (W : Wl) : Fa->List (Nat × Nat)
 | .mk w _ => ((W.ms.find? (fun p => p.1 = w)).map (·.2)).getD [] |>.map fun t => (t,t)
 | .ti w _ _ => ((W.ts.find? (fun p => p.1 = w)).map (·.2)).getD []
 | .sa _ _ => (List.range W.n).map fun t => (t,t)
theorem Ju {α : Type} (f : α->D) (w : Str) : ∀ (l : List (Str × α)),getK (.inr w : Key) (l.map fun p => ((.inr p.1 : Key),f p.2)) = (l.find? (fun p => p.1 = w)).map fun p => f p.2
 | [] => rfl
 | p :: r => by
  rw [List.map_cons]
  unfold getK
  by_cases h : p.1 = w
  ·rw [if_pos (by rw [h]),List.find?_cons_of_pos (by simpa using h)]
   rfl
  ·rw [if_neg (by simpa using h),List.find?_cons_of_neg (by simpa using h)]
   exact Ju f w r
theorem KY {α : Type} {w : Str} {l : List (Str × α)} (h : w ∈ l.map (·.1)) : ∃ q,q ∈ l/\l.find? (fun p => p.1 = w) = some q:=by
 cases e : l.find? (fun p => p.1 = w) with
 | some q => exact ⟨q,List.mem_of_find?_eq_some e,rfl⟩
 | none =>
  obtain ⟨q,hq,rfl⟩:=List.mem_map.mp h
  have:=List.find?_eq_none.mp e q hq
  simp at this
theorem KZ (W : Wl) : fldD "size" (wob W) = some (.int (W.n : Int)):=by
 show List.lookup ("size" : Str) [("size",D.int W.n),("marked",.dk (oM W.ms)),("tied",.dk (oT W.ts))] = _
 rw [List.lookup_cons,show (("size" : Str) == "size") = true by decide +kernel]
theorem Uu (W : Wl) : fldD "marked" (wob W) = some (.dk (oM W.ms)):=by
 show List.lookup ("marked" : Str) [("size",D.int W.n),("marked",.dk (oM W.ms)),("tied",.dk (oT W.ts))] = _
 rw [List.lookup_cons,q1]
 show List.lookup ("marked" : Str) [("marked",D.dk (oM W.ms)),("tied",.dk (oT W.ts))] = _
 rw [List.lookup_cons,show (("marked" : Str) == "marked") = true by decide +kernel]
theorem dw (W : Wl) : fldD "tied" (wob W) = some (.dk (oT W.ts)):=by
 show List.lookup ("tied" : Str) [("size",D.int W.n),("marked",.dk (oM W.ms)),("tied",.dk (oT W.ts))] = _
 rw [List.lookup_cons,q2]
 show List.lookup ("tied" : Str) [("marked",D.dk (oM W.ms)),("tied",.dk (oT W.ts))] = _
 rw [List.lookup_cons,q3]
 show List.lookup ("tied" : Str) [("tied",D.dk (oT W.ts))] = _
 rw [List.lookup_cons,show (("tied" : Str) == "tied") = true by decide +kernel]
theorem oZ : inF false (.str "mark") c_FACTS = some (.bl true):=of_eq_true (eq_self _)
theorem qP : inF false (.str "tie") c_FACTS = some (.bl true):=of_eq_true (eq_self _)
theorem oh : inF false (.str "same") c_FACTS = some (.bl true):=of_eq_true (eq_self _)
theorem k1 (a b c : D) : slD (.tup [a,b,c]) (some 1) none = some (.tup [b,c]):=of_eq_true (eq_self _)
theorem k2 (a b c : D) : slD (.tup [a,b,c]) (some 2) none = some (.tup [c]):=of_eq_true (eq_self _)
theorem k3 (a b c d : D) : slD (.tup [a,b,c,d]) (some 2) none = some (.tup [c,d]):=of_eq_true (eq_self _)
theorem g1 : eqD false (.str "mark") (.str "same") = some (.bl false):=of_eq_true (eq_self _)
theorem g2 : eqD false (.str "mark") (.str "mark") = some (.bl true):=of_eq_true (eq_self _)
theorem g3 : eqD false (.str "tie") (.str "same") = some (.bl false):=of_eq_true (eq_self _)
theorem g4 : eqD false (.str "tie") (.str "mark") = some (.bl false):=of_eq_true (eq_self _)
theorem g5 : eqD false (.str "tie") (.str "tie") = some (.bl true):=of_eq_true (eq_self _)
theorem g6 : eqD false (.str "same") (.str "same") = some (.bl true):=of_eq_true (eq_self _)
theorem g7 : eqD false (.str "same") (.str "mark") = some (.bl false):=of_eq_true (eq_self _)
theorem g8 : eqD false (.str "mark") (.str "tie") = some (.bl false):=of_eq_true (eq_self _)
theorem g9 : eqD false (.str "same") (.str "tie") = some (.bl false):=of_eq_true (eq_self _)
theorem O1 (a : Fa) : Ez [enc a] = some (.tup ((nms a).map .str)):=by
 cases a with
 | mk w x => simp only [dK,Ez,Hn,enc,nms,g1,k2]
 | ti w x y => simp only [dK,Ez,Hn,enc,nms,g3,k3]
 | sa x y => simp only [dK,Ez,Hn,enc,nms,g6,k1]
theorem Qh (a : Fa) : ∃ t r,enc a = .tup (.str t :: r)/\inF false (.str t) c_FACTS = some (.bl true):=by
 cases a with
 | mk w x => exact ⟨_,_,rfl,oZ⟩
 | ti w x y => exact ⟨_,_,rfl,qP⟩
 | sa x y => exact ⟨_,_,rfl,oh⟩
theorem jH (a : Fa) (n : Nat) : BL (n + 1) [enc a] = some (.lst ((CZ (nms a)).map .str)):=by
 obtain ⟨t,r,e,h⟩:=Qh a
 have l2 : (nms a).length<=2:=by cases a <;> simp [nms]
 have l3 : (CZ (nms a)).length<=60:=Nat.le_trans (sub_len (Mh (JC _)) (fun x hx => (Dd x _).mp hx)) (by omega)
 have e2:=ss_t (xs:=nms a) (by omega) l3
 have ni:=O1 a
 rw [e] at ni ⊢
 simp only [dK,BL,Ea,h,ni,e2]
theorem V_ (a : Fa) : Bq [enc a] = some (.tup []):=by
 obtain ⟨t,r,e,h⟩:=Qh a
 rw [e]
 simp only [dK,Bq,Jh,h]
theorem WD (W : Wl) (a : Fa) (hk : Kn W a) (n : Nat) : Ag (n + 1) [wob W,enc a] = some .non:=by
 have sy:=V_ a
 cases a with
 | mk w x =>
  obtain ⟨q,hq,e⟩:=KY hk
  have e1 : getK (.inr w : Key) (oM W.ms) = some (kM q.2):=by
   show getK _ (W.ms.map fun p => _) = _
   rw [Ju kM w W.ms,e]
   rfl
  simp only [enc] at sy ⊢
  simp only [dK,Ag,An,g2,Uu,e1,g8,sy,Option.isSome_some,Bool.not_true,if_true]
 | ti w x y =>
  obtain ⟨q,hq,e⟩:=KY hk
  have e1 : getK (.inr w : Key) (oT W.ts) = some (kT q.2):=by
   show getK _ (W.ts.map fun p => _) = _
   rw [Ju kT w W.ts,e]
   rfl
  simp only [enc] at sy ⊢
  simp only [dK,Ag,An,g4,g5,dw,e1,sy,Option.isSome_some,Bool.not_true,if_true]
 | sa x y =>
  simp only [enc] at sy ⊢
  simp only [dK,Ag,An,g7,g9,sy]
def Pl (n : Nat) (g : List (Key × D)) (P : Str->Nat) (x : Str) : Prop:=getK (.inr x : Key) g = some (.int (P x : Int))/\P x < n
theorem Uv (W : Wl) (g : List (Key × D)) (P : Str->Nat) (xs : List Str) (h : ∀ x ∈ xs,Pl W.n g P x) : Dk [wob W,.lst (xs.map .str),.dk g] = some .non:=by
 have l1 : ∀ (r : List Str) (z : Slot),(∀ x ∈ r,Pl W.n g P x)->∃ z',forF (tgB (BW 3) Cu) (r.map .str) [.fz (wob W),.fz (.lst (xs.map .str)),.fz (.dk g),z] = some (.nx [.fz (wob W),.fz (.lst (xs.map .str)),.fz (.dk g),z']):=by
  intro r
  induction r with
  | nil => intro z _; exact ⟨z,rfl⟩
  | cons x r ih =>
   intro z hr
   obtain ⟨e1,e2⟩:=hr x (by simp)
   obtain ⟨z',e⟩:=ih (.fz (.str x)) fun y hy => hr y (by simp [hy])
   refine ⟨z',?_⟩
   have b : Cu [.fz (wob W),.fz (.lst (xs.map .str)),.fz (.dk g),.fz (.str x)] = some (.nx [.fz (wob W),.fz (.lst (xs.map .str)),.fz (.dk g),.fz (.str x)]):=by
    simp only [dK,Cu,e1,Option.isSome_some,Bool.not_true,if_true]
   rw [List.map_cons,Bl,e_tg,Dl,Fg]
   simp only [List.set_cons_zero,List.set_cons_succ]
   rw [b,DP,e]
 have l2 : ∀ (r : List Str) (z : Slot),(∀ x ∈ r,Pl W.n g P x)->∃ z',forF (tgB (BW 3) Cv) (r.map .str) [.fz (wob W),.fz (.lst (xs.map .str)),.fz (.dk g),z] = some (.nx [.fz (wob W),.fz (.lst (xs.map .str)),.fz (.dk g),z']):=by
  intro r
  induction r with
  | nil => intro z _; exact ⟨z,rfl⟩
  | cons x r ih =>
   intro z hr
   obtain ⟨e1,e2⟩:=hr x (by simp)
   obtain ⟨z',e⟩:=ih (.fz (.str x)) fun y hy => hr y (by simp [hy])
   refine ⟨z',?_⟩
   have t:=NT W.n (P x) e2
   have b : Cv [.fz (wob W),.fz (.lst (xs.map .str)),.fz (.dk g),.fz (.str x)] = some (.nx [.fz (wob W),.fz (.lst (xs.map .str)),.fz (.dk g),.fz (.str x)]):=by
    simp only [dK,Cv,KZ,e1,t]
   rw [List.map_cons,Bl,e_tg,Dl,Fg]
   simp only [List.set_cons_zero,List.set_cons_succ]
   rw [b,DP,e]
 obtain ⟨z1,e1⟩:=l1 xs .un h
 obtain ⟨z2,e2⟩:=l2 xs z1 h
 simp only [dK,Dk,GD,e1,e2]
def row (n p : Nat) : D:=.lst ((List.range n).map fun (t : Nat) => .int (if t = p then 1 else 0))
def Jx (n : Nat) (P : Str->Nat) (xs : List Str) : D:=.dk (xs.map fun x => ((.inr x : Key),row n (P x)))
theorem JT {n : Nat} {fe : FE} {ρ : Rho} (f : Nat->D) (src : FI) (hs : src ρ = some (rngD n)) (hn : n<=1000) (h : ∀ k,k < n->fe (ρ ++ [.fz (.int k)]) = some (f k)) : Av src allT fe ρ = some (.lst ((List.range n).map f)):=by
 have c : ∀ l : List Nat,(∀ k ∈ l,k < n)->Bh ρ allT fe (l.map fun (k : Nat) => D.int k) = some (l.map f):=by
  intro l
  induction l with
  | nil => intro _; rfl
  | cons k r ih =>
   intro hl
   rw [List.map_cons,CN,K5,h k (hl k (by simp)),ih fun d hd => hl d (by simp [hd])]
   rfl
 exact Fe hs (by rw [Bs]; omega) (c (List.range n) fun k hk => List.mem_range.mp hk)
theorem Qi (W : Wl) (h5 : W.n<=5) (a g0 nm : D) (g : List (Key × D)) (P : Str->Nat) : ∀ (r p : List Str) (z : Slot),(p ++ r).Nodup->(∀ x ∈ r,Pl W.n g P x)->(p ++ r).length<=100 ->
  ∃ z',forF (tgB (BW 6) Ky) (r.map .str) [.fz (wob W),.fz a,.fz g0,.fz (.dk g),.fz nm,.ow (Jx W.n P p),z] = some (.nx [.fz (wob W),.fz a,.fz g0,.fz (.dk g),.fz nm,.ow (Jx W.n P (p ++ r)),z'])
 | [],p,z,_,_,_ => ⟨z,by rw [List.append_nil]; rfl⟩
 | x :: r,p,z,nd,hl,hlen => by
  have nt : x ∉ p:=by
   intro q
   rw [List.nodup_append] at nd
   exact nd.2.2 x q x (by simp) rfl
  obtain ⟨e1,e2⟩:=hl x (by simp)
  have cm : Av (rngI (uF (fldD "size") (vF 0))) allT Kw [.fz (wob W),.fz a,.fz g0,.fz (.dk g),.fz nm,.ow (Jx W.n P p),.fz (.str x)] = some (row W.n (P x)):=by
   refine JT (fun t => .int (if t = P x then 1 else 0)) _ ?_ (by omega) fun k hk => ?_
   ·have rg:=Gb (W.n : Int) (by omega)
    simp only [J1,e_u,e_v,List.getElem?_cons_zero,e_vs,e_us,KZ,rg,Int.toNat_natCast]
   ·have q : decide ((k : Int) = (P x : Int)) = decide (k = P x):=by
     by_cases z : k = P x
     ·simp [z]
     ·have : ¬ ((k : Int) = (P x : Int)):=by omega
      simp [z,this]
    by_cases z : k = P x
    ·simp only [diK,Kw,e1,q,z,if_true]
    ·simp only [diK,Kw,e1,q,z,if_false]
  have pk : CG (Jx W.n P p) (.str x) (row W.n (P x)) = some (Jx W.n P (p ++ [x])):=by
   show CG (.dk _) _ _ = _
   rw [Ij _ _ _ (by simp at hlen ⊢; omega)]
   have : (.inr x : Key) ∉ (p.map fun x => ((.inr x : Key),row W.n (P x))).map (·.1):=by
    intro q
    rw [List.map_map] at q
    obtain ⟨u,hu,e⟩:=List.mem_map.mp q
    simp at e
    exact nt (e ▸ hu)
   rw [putL_new this]
   simp [Jx]
  have b : Ky [.fz (wob W),.fz a,.fz g0,.fz (.dk g),.fz nm,.ow (Jx W.n P p),.fz (.str x)] = some (.nx [.fz (wob W),.fz a,.fz g0,.fz (.dk g),.fz nm,.ow (Jx W.n P (p ++ [x])),.fz (.str x)]):=by
   simp only [Ky,J5,e_v,List.getElem?_cons_succ,List.getElem?_cons_zero,e_vs,Cm,cm,Hg,pk,RD,List.set_cons_zero,List.set_cons_succ]
  obtain ⟨z',ih⟩:=Qi W h5 a g0 nm g P r (p ++ [x]) (.fz (.str x)) (by simpa using nd) (fun u hu => hl u (by simp [hu])) (by simpa using hlen)
  refine ⟨z',?_⟩
  rw [List.map_cons,Bl,e_tg,Dl,Fg]
  simp only [List.set_cons_zero,List.set_cons_succ]
  rw [b,DP,ih]
  simp
theorem d7 (W : Wl) (h5 : W.n<=5) (hw : WOk W) (a : Fa) (hk : Kn W a) : Gj [wob W,enc a] = some (lT (prs W a)):=by
 cases a with
 | mk w x =>
  obtain ⟨q,hq,e⟩:=KY hk
  have e1 : getK (.inr w : Key) (oM W.ms) = some (kM q.2):=by
   show getK _ (W.ms.map fun p => _) = _
   rw [Ju kM w W.ms,e]
   rfl
  have cm : Av (seqA (bF ixE (uF (fldD "marked") (vF 0)) (bF ixE (vF 1) (kF (.int 1))))) allT GF [.fz (wob W),.fz (.tup [.str "mark",.str w,.str x])] = some (.lst ((q.2.map fun t => (t,t)).map pN)):=by
   refine Fe (ds:=q.2.map iN) ?_ (by rw [List.length_map]; have:=(hw.ml q hq).2.1; omega) ?_
   ·simp only [Gh,e_b,e_u,e_v,e_k,List.getElem?_cons_succ,List.getElem?_cons_zero,e_vs,e_us,Uu,e_bs,Fq,ixt1,HF,e1]
    show Mv (some (.dk _)) = _
    rw [Kr,List.map_map]
    rfl
   ·have : ∀ l : List Nat,Bh [.fz (wob W),.fz (.tup [.str "mark",.str w,.str x])] allT GF (l.map iN) = some ((l.map fun t => (t,t)).map pN):=by
     intro l
     induction l with
     | nil => rfl
     | cons t r ih =>
      have v : GF ([.fz (wob W),.fz (.tup [.str "mark",.str w,.str x])] ++ [.fz (iN t)]) = some (pN (t,t)):=by simp only [cK,GF]
      rw [List.map_cons,CN,K5,v,ih]
      rfl
    exact this q.2
  have ep : prs W (.mk w x) = q.2.map fun t => (t,t):=by simp only [prs,e,Option.map_some,Option.getD_some]
  rw [ep]
  simp only [dK,enc,Gj,Hq,g2,cm,lT]
 | ti w x y =>
  obtain ⟨q,hq,e⟩:=KY hk
  have e1 : getK (.inr w : Key) (oT W.ts) = some (kT q.2):=by
   show getK _ (W.ts.map fun p => _) = _
   rw [Ju kT w W.ts,e]
   rfl
  have ep : prs W (.ti w x y) = q.2:=by simp only [prs,e,Option.map_some,Option.getD_some]
  have el : K7 (kT q.2) = some (lT q.2):=by
   show some (D.lst ((q.2.map _).map _)) = _
   rw [List.map_map]
   rfl
  rw [ep]
  simp only [dK,enc,Gj,Hq,g4,g3,dw,e1,el]
 | sa x y =>
  have cm : Av (rngI (uF (fldD "size") (vF 0))) allT Ji [.fz (wob W),.fz (.tup [.str "same",.str x,.str y])] = some (.lst ((List.range W.n).map fun t => pN (t,t))):=by
   refine JT (fun t => pN (t,t)) _ ?_ (by omega) fun k hk => ?_
   ·have rg:=Gb (W.n : Int) (by omega)
    simp only [J1,e_u,e_v,List.getElem?_cons_zero,e_vs,e_us,KZ,rg,Int.toNat_natCast]
   ·simp only [cK,Ji]
  have ep : lT (prs W (.sa x y)) = .lst ((List.range W.n).map fun t => pN (t,t)):=by simp only [prs,lT,List.map_map]; rfl
  rw [ep]
  simp only [dK,enc,Gj,Hq,g7,g6,cm]
end K17
namespace K17
open PySem L2 PV
theorem K1 (i j : Int) : K4 (.int i) (.int j) = some (.int (Builtin.bitAnd i j)):=of_eq_true (eq_self _)
theorem TQ (i j : Int) : borD (.int i) (.int j) = some (.int (Builtin.bitOr i j)):=of_eq_true (eq_self _)
theorem jJ (i j : Int) : We (.int i) (.int j) = some (.int (Builtin.bitXor i j)):=of_eq_true (eq_self _)
theorem d8 {x w : Nat} (h : x < 2 ^ w) : Builtin.Int.intBits (x : Int)<=w:=by
 unfold Builtin.Int.intBits
 by_cases z : x = 0
 ·subst z; simp
 ·have e : ((x : Int) == 0) = false:=by simp [z]
  rw [e,Int.natAbs_natCast]
  have:=(Nat.log2_lt z).mpr h
  simp
  omega
theorem TV (x w k : Nat) (h : x < 2 ^ w) (hw : w<=4194304) (hk : k<=1000000) : shlD (.int (x : Int)) (.int (k : Int)) = some (.int ((x <<< k : Nat) : Int)):=by
 have c : CShl (x : Int) (k : Int):=⟨by omega,by omega,Nat.le_trans (d8 h) hw⟩
 show (if CShl (x : Int) (k : Int) then some (D.int ((x : Int) * 2 ^ ((k : Int)).toNat)) else none) = _
 rw [if_pos c,Int.toNat_natCast,Nat.shiftLeft_eq]
 simp
theorem jK (x k : Nat) : shrD (.int (x : Int)) (.int (k : Int)) = some (.int ((x >>> k : Nat) : Int)):=by
 show (if (0 : Int)<=(k : Int) then some (D.int ((x : Int) / 2 ^ ((k : Int)).toNat)) else none) = _
 rw [if_pos (by omega),Int.toNat_natCast,Nat.shiftRight_eq_div_pow]
 simp
theorem Qj (w : Nat) (h : w<=1000000) : By [.int (w : Int)] = some (.int ((2 ^ w - 1 : Nat) : Int)):=by
 have e:=TV 1 1 w (by decide) (by decide) h
 have e' : shlD (.int 1) (.int (w : Int)) = some (.int ((1 <<< w : Nat) : Int)):=e
 simp only [ciK,By,Jl,e']
 rw [Nat.shiftLeft_eq,Nat.one_mul]
 have:=Nat.two_pow_pos w
 congr 2
 omega
theorem Uw (x w : Nat) (hx : x < 2 ^ w) : ∀ (l : List D) (n : Nat) (z : Slot),w * (n + l.length)<=1000000->w<=1000000 ->
  ∃ z',forF (tgB (BW 4) HR) l [.fz (.int (x : Int)),.fz (.int (w : Int)),s2,.fz (.int (KB.rep x w n : Int)),z] = some (.nx [.fz (.int (x : Int)),.fz (.int (w : Int)),s2,.fz (.int (KB.rep x w (n + l.length) : Int)),z'])
 | [],n,z,_,_ => ⟨z,by simp [HX]⟩
 | d :: r,n,z,h,hw => by
  have e1:=TV (KB.rep x w n) (w * n) w (KB.V7 hx n) (Nat.le_trans (Nat.mul_le_mul_left w (by omega)) (Nat.le_trans h (by decide))) hw
  have e2:=KB.Qc (KB.rep x w n <<< w) x
  have b : HR [.fz (.int (x : Int)),.fz (.int (w : Int)),s2,.fz (.int (KB.rep x w n : Int)),.fz d] = some (.nx [.fz (.int (x : Int)),.fz (.int (w : Int)),s2,.fz (.int (KB.rep x w (n + 1) : Int)),.fz d]):=by
   simp only [cK,HR,e1,TQ,e2,KB.rep]
  have q : n + (d :: r).length = n + 1 + r.length:=by rw [List.length_cons]; omega
  obtain ⟨z',ih⟩:=Uw x w hx r (n + 1) (.fz d) (by rw [<-q]; exact h) hw
  refine ⟨z',?_⟩
  rw [Bl,e_tg,Dl,Fg]
  simp only [List.set_cons_zero,List.set_cons_succ]
  rw [b,DP,ih,q]
theorem Ux (x w n : Nat) (hx : x < 2 ^ w) (h : w * n<=1000000) (hw : w<=1000000) (hn : n<=5) : Jk [.int (x : Int),.int (w : Int),.int (n : Int)] = some (.int (KB.rep x w n : Int)):=by
 obtain ⟨z',e⟩:=Uw (s2:=.fz (.int (n : Int))) x w hx (rngD n) 0 .un (by rw [Bs,Nat.zero_add]; exact h) hw
 rw [Bs,Nat.zero_add] at e
 have e0 : (KB.rep x w 0 : Int) = 0:=rfl
 rw [e0] at e
 have g:=Gb (n : Int) ⟨by omega,by omega⟩
 rw [Int.toNat_natCast] at g
 simp only [cK,Jk,Lr,g,e]
end K17
namespace K17
open PySem L2 PV
theorem Rf {n : Nat} {ga : FT} {fe : FE} {ρ : Rho} (f : Nat->Bool) (h : Nat->D) (src : FI) (hs : src ρ = some (rngD n)) (hn : n<=1000) (h1 : ∀ k,k < n->ga (ρ ++ [.fz (.int k)]) = some (f k)) (h2 : ∀ k,k < n->fe (ρ ++ [.fz (.int k)]) = some (h k)) : Av src ga fe ρ = some (.lst (((List.range n).filter f).map h)):=by
 have c : ∀ l : List Nat,(∀ k ∈ l,k < n)->Bh ρ ga fe (l.map fun (k : Nat) => D.int k) = some ((l.filter f).map h):=by
  intro l
  induction l with
  | nil => intro _; rfl
  | cons k r ih =>
   intro hl
   rw [List.map_cons,CN,h1 k (hl k (by simp)),h2 k (hl k (by simp)),ih fun d hd => hl d (by simp [hd]),List.filter_cons]
   cases f k <;> rfl
 exact Fe hs (by rw [Bs]; omega) (c (List.range n) fun k hk => List.mem_range.mp hk)
theorem d9 (i j : Int) (h : 0<=j) : shrD (.int i) (.int j) = some (.int (i / 2 ^ j.toNat)):=by
 show (if 0<=j then some (D.int (i / 2 ^ j.toNat)) else none) = _
 rw [if_pos h]
theorem qQ : shlD (.int 1) (.int 90) = some (.int 1237940039285380274899124224):=by
 show (if CShl 1 90 then some (D.int (1 * 2 ^ (90 : Int).toNat)) else none) = _
 rw [if_pos (by unfold CShl; decide +kernel)]
 rfl
theorem jL (i : Int) (h : Builtin.Int.intBits i<=1048576) : mulD (.int i) (.int 27182818284590452353602874713526624977572470936999595749669) = some (.int (i * 27182818284590452353602874713526624977572470936999595749669)):=by
 show (if K3 i _ then some (D.int (i * _)) else none) = _
 rw [if_pos (.inr ⟨by omega,by decide +kernel⟩)]
structure Mk (n : Nat) (ws : List Str) (k : Nat) (ms : List (Str × List Nat)) : Prop where
 len : ms.length = k
 nm : ms.map (·.1) = ws.take k
 ok : ∀ p ∈ ms,p.2.Nodup/\p.2.length<=100/\∀ t ∈ p.2,t < n
theorem Oe {l : List Str} (nd : l.Nodup) {i j : Nat} (hi : i < l.length) (hj : j < l.length) (e : l[i] = l[j]) : i = j:=by
 have h:=List.pairwise_iff_getElem.mp nd
 rcases Nat.lt_trichotomy i j with z | z | z
 ·exact absurd e (h i j hi hj z)
 ·exact z
 ·exact absurd e.symm (h j i hj hi z)
theorem Ht (n : Nat) (f : Nat->Bool) : ((List.range n).filter f).Nodup:=List.Nodup.sublist List.filter_sublist List.nodup_range
theorem Ka (n : Nat) (hn : n<=5) (ρ : Rho) (i : Nat) (h : ρ[i]? = some (.fz (.int (n : Int)))) : rngI (vF i) ρ = some (rngD n):=by
 have rg:=Gb (n : Int) (by omega)
 simp only [J1,e_v,h,e_vs,rg,Int.toNat_natCast]
theorem ZG (n : Nat) (hn : n<=5) (o : Slot) (b : D) (bits : Int) (ws : List Str) (hw : ws.length = 6) (nd : ws.Nodup) (k : Nat) (hk : k < 3) (ms : List (Str × List Nat)) (hm : Mk n ws k ms) (z7 z8 z9 : Slot) :
  ∃ ms',Dr [o,.fz b,.fz (.lst (ws.map .str)),.fz (.int bits),.fz (.int (n : Int)),.ow (.dk (eM ms)),.fz (.int (k : Int)),z7,z8,z9] = some (.nx [o,.fz b,.fz (.lst (ws.map .str)),.fz (.int bits),.fz (.int (n : Int)),.ow (.dk (eM ms')),.fz (.int (k : Int)),z7,z8,z9])/\Mk n ws (k + 1) ms':=by
 obtain ⟨f,hf⟩ : ∃ f : Nat->Bool,∀ t,t < n->Ft ([o,.fz b,.fz (.lst (ws.map .str)),.fz (.int bits),.fz (.int (n : Int)),.ow (.dk (eM ms)),.fz (.int (k : Int)),z7,z8,z9] ++ [.fz (.int (t : Int))]) = some (f t):=by
  refine ⟨fun t => decide (Builtin.bitAnd (bits / 2 ^ (5 * (k : Int) + t).toNat) 1 = 1),fun t ht => ?_⟩
  have m1:=Ma 5 (k : Int) (by decide)
  have s1:=d9 bits (5 * (k : Int) + t) (by omega)
  simp only [ciK,Ft,m1,s1,K1]
 have cm : Av (rngI (vF 4)) Ft J7 [o,.fz b,.fz (.lst (ws.map .str)),.fz (.int bits),.fz (.int (n : Int)),.ow (.dk (eM ms)),.fz (.int (k : Int)),z7,z8,z9] = some (lM ((List.range n).filter f)):=
  Rf f iN _ (Ka n hn _ 4 rfl) (by omega) hf fun t ht => rfl
 have hk6 : k < ws.length:=by omega
 have ix : ixE (.lst (ws.map .str)) (.int (k : Int)) = some (.str ws[k]):=by
  show atI (ws.map D.str) (k : Int) = _
  rw [Ig,List.getElem?_map]
  simp [hk6]
 have nt : ws[k] ∉ ms.map (·.1):=by
  rw [hm.nm]
  intro q
  obtain ⟨j,hj,e⟩:=List.getElem_of_mem q
  rw [List.length_take] at hj
  rw [List.getElem_take] at e
  have:=Oe nd (by omega) hk6 e
  omega
 have pk : CG (.dk (eM ms)) (.str ws[k]) (lM ((List.range n).filter f)) = some (.dk (eM (ms ++ [(ws[k],(List.range n).filter f)]))):=by
  rw [Ij _ _ _ (by have:=hm.len; simp [eM]; omega)]
  have : (.inr ws[k] : Key) ∉ (eM ms).map (·.1):=JS lM nt
  rw [putL_new this]
  simp [eM]
 refine ⟨ms ++ [(ws[k],(List.range n).filter f)],?_,by simp [hm.len],?_,?_⟩
 ·simp only [Dr,J5,e_b,e_v,List.getElem?_cons_succ,List.getElem?_cons_zero,e_vs,Cm,e_bs,ix,cm,Hg,pk,RD,List.set_cons_zero,List.set_cons_succ]
 ·rw [List.map_append,hm.nm,List.take_succ]
  simp [hk6]
 ·intro p hp
  rcases List.mem_append.mp hp with q | q
  ·exact hm.ok p q
  ·simp at q
   subst q
   refine ⟨Ht n f,?_,fun t ht => List.mem_range.mp (List.mem_filter.mp ht).1⟩
   have:=List.length_filter_le f (List.range n)
   rw [List.length_range] at this
   show ((List.range n).filter f).length<=100
   omega
structure Tk (n : Nat) (ws : List Str) (k : Nat) (ts : List (Str × List (Nat × Nat))) : Prop where
 len : ts.length = k
 nm : ts.map (·.1) = (ws.drop (6 - k)).reverse
 ok : ∀ p ∈ ts,p.2.Nodup/\p.2.length<=100/\∀ q ∈ p.2,q.1 < n/\q.2 < n
structure Fd (n k : Nat) (l : List (Nat × Nat)) : Prop where
 nd : l.Nodup
 len : l.length<=5 * k
 lt : ∀ q ∈ l,q.1 < k/\q.2 < n
theorem WF (n : Nat) (hn : n<=5) (o : Slot) (b ws : D) (bits : Int) (m t : Slot) (k : Nat) (i : Nat) (hi : i < n) (l : List (Nat × Nat)) (hl : Fd n i l) :
  ∃ l',Fw [o,.fz b,.fz ws,.fz (.int bits),.fz (.int (n : Int)),m,.fz (.int (k : Int)),t,.fz (lT l),.fz (.int (i : Int))] = some (.nx [o,.fz b,.fz ws,.fz (.int bits),.fz (.int (n : Int)),m,.fz (.int (k : Int)),t,.fz (lT l'),.fz (.int (i : Int))])/\Fd n (i + 1) l':=by
 obtain ⟨f,hf⟩ : ∃ f : Nat->Bool,∀ u,u < n->Fv ([o,.fz b,.fz ws,.fz (.int bits),.fz (.int (n : Int)),m,.fz (.int (k : Int)),t,.fz (lT l),.fz (.int (i : Int))] ++ [.fz (.int (u : Int))]) = some (f u):=by
  refine ⟨fun u => decide (Builtin.bitAnd (bits / 2 ^ (15 + 25 * (k : Int) + 5 * (i : Int) + u).toNat) 1 = 1),fun u hu => ?_⟩
  have m1:=Ma 25 (k : Int) (by decide)
  have m2:=Ma 5 (i : Int) (by decide)
  have s1:=d9 bits (15 + 25 * (k : Int) + 5 * (i : Int) + u) (by omega)
  simp only [ciK,Fv,m1,m2,s1,K1]
 have cm : Av (rngI (vF 4)) Fv Hk [o,.fz b,.fz ws,.fz (.int bits),.fz (.int (n : Int)),m,.fz (.int (k : Int)),t,.fz (lT l),.fz (.int (i : Int))] = some (.lst (((List.range n).filter f).map fun u => pN (i,u))):=
  Rf f (fun u => pN (i,u)) _ (Ka n hn _ 4 rfl) (by omega) hf fun u hu => by simp only [cK,Hk]
 have fl:=List.length_filter_le f (List.range n)
 rw [List.length_range] at fl
 have ad : addD (lT l) (.lst (((List.range n).filter f).map fun u => pN (i,u))) = some (lT (l ++ ((List.range n).filter f).map fun u => (i,u))):=by
  show addD (.lst (l.map pN)) _ = _
  rw [m5 (by rw [List.length_map,List.length_map]; have:=hl.len; omega)]
  simp [lT]
 refine ⟨l ++ ((List.range n).filter f).map fun u => (i,u),?_,?_,?_,?_⟩
 ·simp only [Fw,Pn,e_b,e_v,List.getElem?_cons_succ,List.getElem?_cons_zero,e_vs,cm,e_bs,ad,Lj,List.set_cons_zero,List.set_cons_succ]
 ·rw [List.nodup_append]
  refine ⟨hl.nd,?_,fun a ha c hc e => ?_⟩
  ·rw [List.Nodup,List.pairwise_map]
   exact List.Pairwise.imp (fun hab e => hab (by simpa using e)) (Ht n f)
  ·subst e
   obtain ⟨u,_,rfl⟩:=List.mem_map.mp hc
   have:=(hl.lt _ ha).1
   simp at this
 ·have:=hl.len
  rw [List.length_append,List.length_map]
  omega
 ·intro q hq
  rcases List.mem_append.mp hq with z | z
  ·have:=hl.lt q z
   exact ⟨by omega,this.2⟩
  ·obtain ⟨u,hu,rfl⟩:=List.mem_map.mp z
   exact ⟨by simp,List.mem_range.mp (List.mem_filter.mp hu).1⟩
theorem d_ (n : Nat) (hn : n<=5) (o : Slot) (b : D) (bits : Int) (ws : List Str) (hw : ws.length = 6) (nd : ws.Nodup) (k : Nat) (hk : k < 3) (ts : List (Str × List (Nat × Nat))) (ht : Tk n ws k ts) (m z8 z9 : Slot) :
  ∃ ts' z8' z9',Cz [o,.fz b,.fz (.lst (ws.map .str)),.fz (.int bits),.fz (.int (n : Int)),m,.fz (.int (k : Int)),.ow (.dk (eT ts)),z8,z9] = some (.nx [o,.fz b,.fz (.lst (ws.map .str)),.fz (.int bits),.fz (.int (n : Int)),m,.fz (.int (k : Int)),.ow (.dk (eT ts')),z8',z9'])/\Tk n ws (k + 1) ts':=by
 obtain ⟨ρ',ef,l,z9',rfl,hl⟩:=JB (b:=tgB (BW 9) Fw) (ds:=rngD n) (ρ:=[o,.fz b,.fz (.lst (ws.map .str)),.fz (.int bits),.fz (.int (n : Int)),m,.fz (.int (k : Int)),.ow (.dk (eT ts)),.fz (lT []),z9])
  (P:=fun i ρ => ∃ l z,ρ = [o,.fz b,.fz (.lst (ws.map .str)),.fz (.int bits),.fz (.int (n : Int)),m,.fz (.int (k : Int)),.ow (.dk (eT ts)),.fz (lT l),z]/\Fd n i l) 0 ⟨[],_,rfl,by simp,by simp,by simp⟩ (by
   rintro i d ρ hd ⟨l,z,rfl,hl⟩
   have hi : i < n:=by
    have:=(List.getElem?_eq_some_iff.mp hd).1
    rwa [Bs] at this
   have ed : d = .int (i : Int):=by
    unfold rngD at hd
    rw [List.getElem?_map,List.getElem?_range hi] at hd
    exact (Option.some.inj hd).symm
   subst ed
   obtain ⟨l',e',hl'⟩:=WF n hn o b (.lst (ws.map .str)) bits m (.ow (.dk (eT ts))) k i hi l (by rw [Nat.zero_add] at hl; exact hl)
   refine ⟨_,?_,l',.fz (.int (i : Int)),rfl,by rw [Nat.zero_add]; exact hl'⟩
   rw [e_tg,Dl,Fg]
   simp only [List.set_cons_zero,List.set_cons_succ]
   exact e')
 rw [Bs,Nat.zero_add] at hl
 have h5 : 5 - k < ws.length:=by omega
 have ix : ixE (.lst (ws.map .str)) (.int (5 - (k : Int))) = some (.str ws[5 - k]):=by
  show atI (ws.map D.str) (5 - (k : Int)) = _
  rw [show (5 - (k : Int)) = ((5 - k : Nat) : Int) by omega,Ig,List.getElem?_map]
  simp [h5]
 have nt : ws[5 - k] ∉ ts.map (·.1):=by
  rw [ht.nm]
  intro q
  rw [List.mem_reverse] at q
  obtain ⟨j,hj,e⟩:=List.getElem_of_mem q
  rw [List.length_drop] at hj
  rw [List.getElem_drop] at e
  have:=Oe nd (by omega) h5 e
  omega
 have pk : CG (.dk (eT ts)) (.str ws[5 - k]) (lT l) = some (.dk (eT (ts ++ [(ws[5 - k],l)]))):=by
  rw [Ij _ _ _ (by have:=ht.len; simp [eT]; omega)]
  have : (.inr ws[5 - k] : Key) ∉ (eT ts).map (·.1):=JS lT nt
  rw [putL_new this]
  simp [eT]
 refine ⟨ts ++ [(ws[5 - k],l)],.fz (lT l),z9',?_,by simp [ht.len],?_,?_⟩
 ·have rg:=Ka n hn [o,.fz b,.fz (.lst (ws.map .str)),.fz (.int bits),.fz (.int (n : Int)),m,.fz (.int (k : Int)),.ow (.dk (eT ts)),.fz (lT []),z9] 4 rfl
  have e0 : D.lst [] = lT []:=rfl
  simp only [Cz,RC,Pn,Wm,Wk,Vk,e0,Lj,List.set_cons_zero,List.set_cons_succ,e_nx,Wx,rg,R0,ef,J5,e_b,e_k,e_v,List.getElem?_cons_succ,List.getElem?_cons_zero,e_vs,Cm,e_bs,Vh,ix,Hg,pk,RD]
 ·rw [List.map_append,ht.nm,show 6 - (k + 1) = 5 - k by omega,List.drop_eq_getElem_cons h5,List.reverse_cons,show 5 - k + 1 = 6 - k by omega]
  rfl
 ·intro p hp
  rcases List.mem_append.mp hp with q | q
  ·exact ht.ok p q
  ·simp at q
   subst q
   exact ⟨hl.nd,by have:=hl.len; show l.length<=100; omega,hl.lt⟩
end K17
namespace K17
open PySem L2 PV
theorem Uy (i1 i2 : Int) (hb : Builtin.Int.intBits i2<=1048576) (ws : List Str) (hw : ws.length = 6) (wd : ∀ x ∈ ws,Wd x) (nd : ws.Nodup) : ∃ W : Wl,Bx [.int i1,.int i2,.lst (ws.map .str)] = some (.lst [.int (W.n : Int),.dk (eM W.ms),.dk (eT W.ts)])/\WOk W:=by
 have e1:=jL i2 hb
 have e2:=qQ
 have em:=JW (i1 / 3) 1000000007 (by decide)
 obtain ⟨A,hA⟩ : ∃ A,modD (.int (i2 * 27182818284590452353602874713526624977572470936999595749669)) (.int 1237940039285380274899124224) = some (.int A):=⟨_,Dg _ _ (by decide)⟩
 obtain ⟨B,hB⟩ : ∃ B,modD (.int i2) (.int 1237940039285380274899124224) = some (.int B):=⟨_,Dg _ _ (by decide)⟩
 obtain ⟨N,hN,hN0⟩ : ∃ N,modD (.int (i1 / 3 * 1000000007)) (.int 2147483647) = some (.int N)/\0<=N:=⟨_,Dg _ _ (by decide),Int.emod_nonneg _ (by decide)⟩
 have hn6 : N % 6 = ((N % 6).toNat : Int)/\(N % 6).toNat<=5:=by omega
 generalize hn : (N % 6).toNat = n at hn6
 obtain ⟨en,hn5⟩:=hn6
 have h1 : 0<=N / 6 % 4/\N / 6 % 4 < 4:=by omega
 have h2 : 0<=N / 24 % 4/\N / 24 % 4 < 4:=by omega
 have r1:=Gb (N / 6 % 4) (by omega)
 have r2:=Gb (N / 24 % 4) (by omega)
 have core : ∀ bits : Int,∃ W : Wl,(runO (RB (setO 0 [.fz (.int i1),.fz (.int i2),.fz (.lst (ws.map .str)),.fz (.int bits),.un,.un,.un,.un,.un,.un] (some (.int N))) (seqF (setF 4 (bF modD (vF 0) (kF (.int 6)))) (seqF (setW 5 (kF (.dk []))) (seqF (forS (rngI (bF modD (bF Ec (vF 0) (kF (.int 6))) (kF (.int 4)))) (BW 6) (Dr)) (seqF (setW 7 (kF (.dk []))) (seqF (forS (rngI (bF modD (bF Ec (vF 0) (kF (.int 24))) (kF (.int 4)))) (BW 6) (Cz)) (fzS [5,7] (retF (lstF (Ab (vF 4) (Ab (vF 5) (Ab (vF 7) (nilA))))))))))))) = some (.lst [.int (W.n : Int),.dk (eM W.ms),.dk (eT W.ts)]))/\WOk W:=by
  intro bits
  obtain ⟨ρ1,f1,ms,z6,rfl,hm⟩:=JB (b:=tgB (BW 6) Dr) (ds:=rngD (N / 6 % 4).toNat) (ρ:=[.fz (.int N),.fz (.int i2),.fz (.lst (ws.map .str)),.fz (.int bits),.fz (.int (n : Int)),.ow (.dk (eM [])),.un,.un,.un,.un])
   (P:=fun k ρ => ∃ ms z,ρ = [.fz (.int N),.fz (.int i2),.fz (.lst (ws.map .str)),.fz (.int bits),.fz (.int (n : Int)),.ow (.dk (eM ms)),z,.un,.un,.un]/\Mk n ws k ms) 0 ⟨[],_,rfl,rfl,by simp,by simp⟩ (by
    rintro i d ρ hd ⟨ms,z,rfl,hm⟩
    have hi : i < (N / 6 % 4).toNat:=by
     have:=(List.getElem?_eq_some_iff.mp hd).1
     rwa [Bs] at this
    have ed : d = .int (i : Int):=by
     unfold rngD at hd
     rw [List.getElem?_map,List.getElem?_range hi] at hd
     exact (Option.some.inj hd).symm
    subst ed
    rw [Nat.zero_add] at hm
    obtain ⟨ms',e',hm'⟩:=ZG n hn5 (.fz (.int N)) (.int i2) bits ws hw nd i (by omega) ms hm .un .un .un
    refine ⟨_,?_,ms',.fz (.int (i : Int)),rfl,by rw [Nat.zero_add]; exact hm'⟩
    rw [e_tg,Dl,Fg]
    simp only [List.set_cons_zero,List.set_cons_succ]
    exact e')
  rw [Bs,Nat.zero_add] at hm
  obtain ⟨ρ2,f2,ts,y6,y8,y9,rfl,ht⟩:=JB (b:=tgB (BW 6) Cz) (ds:=rngD (N / 24 % 4).toNat) (ρ:=[.fz (.int N),.fz (.int i2),.fz (.lst (ws.map .str)),.fz (.int bits),.fz (.int (n : Int)),.ow (.dk (eM ms)),z6,.ow (.dk (eT [])),.un,.un])
   (P:=fun k ρ => ∃ ts z z8 z9,ρ = [.fz (.int N),.fz (.int i2),.fz (.lst (ws.map .str)),.fz (.int bits),.fz (.int (n : Int)),.ow (.dk (eM ms)),z,.ow (.dk (eT ts)),z8,z9]/\Tk n ws k ts) 0 ⟨[],_,_,_,rfl,rfl,by simp [hw],by simp⟩ (by
    rintro i d ρ hd ⟨ts,z,z8,z9,rfl,ht⟩
    have hi : i < (N / 24 % 4).toNat:=by
     have:=(List.getElem?_eq_some_iff.mp hd).1
     rwa [Bs] at this
    have ed : d = .int (i : Int):=by
     unfold rngD at hd
     rw [List.getElem?_map,List.getElem?_range hi] at hd
     exact (Option.some.inj hd).symm
    subst ed
    rw [Nat.zero_add] at ht
    obtain ⟨ts',z8',z9',e',ht'⟩:=d_ n hn5 (.fz (.int N)) (.int i2) bits ws hw nd i (by omega) ts ht (.ow (.dk (eM ms))) z8 z9
    refine ⟨_,?_,ts',.fz (.int (i : Int)),z8',z9',rfl,by rw [Nat.zero_add]; exact ht'⟩
    rw [e_tg,Dl,Fg]
    simp only [List.set_cons_zero,List.set_cons_succ]
    exact e')
  rw [Bs,Nat.zero_add] at ht
  have lm:=hm.len
  have lt:=ht.len
  refine ⟨⟨n,ms,ts⟩,?_,hn5,by show ms.length<=3; omega,by show ts.length<=3; omega,fun p hp => ?_,fun p hp => ?_,?_,hm.ok,ht.ok⟩
  ·have m6:=Dg N 6 (by decide)
   rw [en] at m6
   have e0 : D.dk [] = .dk (eM []):=rfl
   have e0' : D.dk (eM []) = .dk (eT []):=rfl
   have f2' : forF (tgB (BW 6) Cz) (rngD (N / 24 % 4).toNat) [.fz (.int N),.fz (.int i2),.fz (.lst (ws.map .str)),.fz (.int bits),.fz (.int (n : Int)),.ow (.dk (eM ms)),z6,.ow (.dk (eM [])),.un,.un] = _:=f2
   simp only [Lj,List.set_cons_zero,List.set_cons_succ,e_nx,RC,Pn,e_b,e_v,e_k,List.getElem?_cons_zero,List.getElem?_cons_succ,e_vs,e_bs,m6,Ff,e0,Dj,Wx,J1,Kl,Int.reduceLT,Dg,r1,R0,f1,r2,f2',K9,Ii,K8,aJ,Wm,Vj,Wk,Rz,Vl,Vi,Vm]
  ·have : p.1 ∈ ws.take (N / 6 % 4).toNat:=by rw [<-hm.nm]; exact List.mem_map.mpr ⟨p,hp,rfl⟩
   exact wd _ (List.mem_of_mem_take this)
  ·have : p.1 ∈ (ws.drop (6 - (N / 24 % 4).toNat)).reverse:=by rw [<-ht.nm]; exact List.mem_map.mpr ⟨p,hp,rfl⟩
   exact wd _ (List.mem_of_mem_drop (List.mem_reverse.mp this))
  ·show (ms.map (·.1) ++ ts.map (·.1)).Nodup
   rw [hm.nm,ht.nm,List.nodup_append]
   refine ⟨nd.sublist (List.take_sublist _ _),(by rw [List.Nodup,List.pairwise_reverse]; exact List.Pairwise.imp (fun h e => h e.symm) (nd.sublist (List.drop_sublist _ _))),fun x hx y hy e => ?_⟩
   subst e
   rw [List.mem_reverse] at hy
   obtain ⟨a,ha,ea⟩:=List.getElem_of_mem hx
   obtain ⟨c,hc,ec⟩:=List.getElem_of_mem hy
   rw [List.length_take] at ha
   rw [List.length_drop] at hc
   rw [List.getElem_take] at ea
   rw [List.getElem_drop] at ec
   have:=Oe nd (by omega) (by omega) (ea.trans ec.symm)
   omega
 by_cases h3 : i1 % 3 = 2
 ·obtain ⟨W,hW,ok⟩:=core B
  refine ⟨W,?_,ok⟩
  rw [<-hW]
  simp only [Bx,HJ,Wy,List.length_cons,List.length_nil,Nat.reduceAdd,Mf,List.map_cons,List.map_nil,List.replicate_succ,List.replicate_zero,Nat.reduceSub,List.cons_append,List.nil_append,RC,Pn,e_b,e_v,e_k,List.getElem?_cons_zero,List.getElem?_cons_succ,e_vs,e_bs,e1,e2,hA,Lj,List.set_cons_zero,List.set_cons_succ,e_nx,e_if,e_bl,Dg,Int.reduceLT,Tp,h3,decide_true,Wn,aG,hB,Kl,em,hN]
 ·obtain ⟨W,hW,ok⟩:=core A
  refine ⟨W,?_,ok⟩
  rw [<-hW]
  simp only [Bx,HJ,Wy,List.length_cons,List.length_nil,Nat.reduceAdd,Mf,List.map_cons,List.map_nil,List.replicate_succ,List.replicate_zero,Nat.reduceSub,List.cons_append,List.nil_append,RC,Pn,e_b,e_v,e_k,List.getElem?_cons_zero,List.getElem?_cons_succ,e_vs,e_bs,e1,e2,hA,Lj,List.set_cons_zero,List.set_cons_succ,e_nx,e_if,e_bl,Dg,Int.reduceLT,Tp,h3,decide_false,Wn,aH,aF,Kl,em,hN]
theorem NZ {k k' : Key} {v : D} (h : k ≠ k') : ∀ (l : List (Key × D)),getK k (putL k' v l) = getK k l:=by
 have r : ∀ l : List (Key × D),getK k (repK k' v l) = getK k l:=by
  intro l
  induction l with
  | nil => rfl
  | cons p r ih =>
   unfold repK getK
   by_cases z : p.1 = k
   ·rw [if_pos z,if_pos z,if_neg (fun e => h (z.symm.trans e))]
   ·rw [if_neg z,if_neg z,ih]
 intro l
 unfold putL
 split
 ·exact r l
 ·induction l with
  | nil =>
   show getK k [(k',v)] = _
   unfold getK
   rw [if_neg (fun e => h e.symm)]
   rfl
  | cons p r' ih =>
   rename_i hn
   rw [List.cons_append]
   unfold getK
   by_cases z : p.1 = k
   ·rw [if_pos z,if_pos z]
   ·rw [if_neg z,if_neg z]
    refine ih ?_
    unfold getK at hn
    by_cases y : p.1 = k'
    ·rw [if_pos y] at hn; simp at hn
    ·rw [if_neg y] at hn; exact hn
def Ints (l : List (Key × D)) : Prop:=∀ p ∈ l,∃ i,p.2 = D.int i
theorem eE {l : List (Key × D)} (h : Ints l) (k : Key) (i : Int) : Ints (putL k (.int i) l):=by
 have r : ∀ l : List (Key × D),Ints l->Ints (repK k (.int i) l):=by
  intro l
  induction l with
  | nil => intro _ p hp; cases hp
  | cons p r ih =>
   intro h q hq
   unfold repK at hq
   rcases List.mem_cons.mp hq with z | z
   ·subst z
    by_cases y : p.1 = k
    ·exact ⟨i,by simp [y]⟩
    ·obtain ⟨j,e⟩:=h p (by simp)
     exact ⟨j,by simp [y,e]⟩
   ·exact ih (fun q hq => h q (by simp [hq])) q z
 unfold putL
 split
 ·exact r l h
 ·intro p hp
  rcases List.mem_append.mp hp with z | z
  ·exact h p z
  ·simp at z; subst z; exact ⟨i,rfl⟩
theorem ZJ {l : List (Key × D)} (h : Ints l) : dkEq l l = some true:=by
 unfold dkEq
 rw [if_pos rfl]
 induction l with
 | nil => rfl
 | cons p r ih =>
  obtain ⟨i,e⟩:=h p (by simp)
  have i1:=ih fun q hq => h q (by simp [hq])
  rw [List.map_cons,e]
  have f : flD (.int i) (.int i) = some true:=by
   show some (eqV (.int i) (.int i)) = _
   simp [eqV]
  simp only [allO,f,i1]
  rfl
theorem Uz (k : Key) (v : D) (l : List (Key × D)) : (putL k v l).length<=l.length + 1:=by
 have r : ∀ l : List (Key × D),(repK k v l).length = l.length:=by
  intro l
  induction l with
  | nil => rfl
  | cons p r ih => unfold repK; simp [ih]
 unfold putL
 split
 ·rw [r]; omega
 ·simp
end K17
namespace K17
open PySem L2 PV
theorem ZK {α : Type} {fe : FE} {ρ : Rho} (g f : α->D) (xs : List α) (src : FI) (hs : src ρ = some (xs.map g)) (hn : xs.length<=1000) (h : ∀ x ∈ xs,fe (ρ ++ [.fz (g x)]) = some (f x)) : Av src allT fe ρ = some (.lst (xs.map f)):=by
 have c : ∀ l : List α,(∀ x ∈ l,x ∈ xs)->Bh ρ allT fe (l.map g) = some (l.map f):=by
  intro l
  induction l with
  | nil => intro _; rfl
  | cons k r ih =>
   intro hl
   rw [List.map_cons,CN,K5,h k (hl k (by simp)),ih fun d hd => hl d (by simp [hd])]
   rfl
 exact Fe hs (by rw [List.length_map]; omega) (c xs fun k hk => hk)
def nD (x : Nat) : D:=.int (x : Int)
def spt (l : List (Str × List Nat)) : D:=.dk (l.map fun p => ((.inr p.1 : Key),D.lst (p.2.map nD)))
theorem TX (l : List (Str × List Nat)) (nd : (l.map (·.1)).Nodup) (p : Str × List Nat) (hp : p ∈ l) : ixE (spt l) (.str p.1) = some (.lst (p.2.map nD)):=by
 have : getK (.inr p.1 : Key) (l.map fun p => ((.inr p.1 : Key),D.lst (p.2.map nD))) = some (.lst (p.2.map nD)):=by
  refine Xy ?_ (List.mem_map.mpr ⟨p,hp,rfl⟩)
  rw [List.map_map]
  rw [List.Nodup,List.pairwise_map] at nd
  rw [List.Nodup,List.pairwise_map]
  exact List.Pairwise.imp (fun hab e => hab (by simpa using e)) nd
 rw [spt,HF]
 exact this
def wide (n w : Nat) (l : List (Str × List Nat)) : List (Str × List Nat):=l.map fun p => (p.1,p.2.map fun x => KB.rep x w n)
structure Rows (n w : Nat) (l : List (Str × List Nat)) : Prop where
 nd : (l.map (·.1)).Nodup
 len : ∀ p ∈ l,p.2.length = n
 lt : ∀ p ∈ l,∀ x ∈ p.2,x < 2 ^ w
 few : l.length<=100
theorem jM (l : List (Str × List Nat)) (x : Str) (v : List Nat) (hx : x ∉ l.map (·.1)) (hl : l.length<=1000) : CG (spt l) (.str x) (.lst (v.map nD)) = some (spt (l ++ [(x,v)])):=by
 show CG (.dk _) _ _ = _
 rw [Ij _ _ _ (by simp; omega)]
 have : (.inr x : Key) ∉ (l.map fun p => ((.inr p.1 : Key),D.lst (p.2.map nD))).map (·.1):=by
  intro q
  rw [List.map_map] at q
  obtain ⟨u,hu,e⟩:=List.mem_map.mp q
  simp at e
  exact hx (e ▸ List.mem_map.mpr ⟨u,hu,rfl⟩)
 rw [putL_new this]
 simp [spt]
theorem Rg (W : Wl) (h5 : W.n<=5) (nm : D) (w : Nat) (hw : w * W.n<=1000000) (hw' : w<=1000000) (l : List (Str × List Nat)) (R : Rows W.n w l) : ∀ (r p : List (Str × List Nat)) (z : Slot),p ++ r = l ->
  ∃ z',forF (tgB (BW 5) Hx) (r.map fun q => .str q.1) [.fz (wob W),.fz nm,.fz (spt l),.fz (nD w),.ow (spt (wide W.n w p)),z] = some (.nx [.fz (wob W),.fz nm,.fz (spt l),.fz (nD w),.ow (spt (wide W.n w l)),z'])
 | [],p,z,e => ⟨z,by rw [List.append_nil] at e; subst e; rfl⟩
 | q :: r,p,z,e => by
  have hq : q ∈ l:=by rw [<-e]; simp
  have nd:=R.nd
  rw [<-e,List.map_append,List.nodup_append] at nd
  have nt : q.1 ∉ (wide W.n w p).map (·.1):=by
   intro m
   rw [wide,List.map_map] at m
   obtain ⟨u,hu,eu⟩:=List.mem_map.mp m
   exact nd.2.2 u.1 (List.mem_map.mpr ⟨u,hu,rfl⟩) q.1 (by simp) eu
  have g:=TX l R.nd q hq
  have cm : Av (seqA (bF ixE (vF 2) (vF 5))) allT J8 [.fz (wob W),.fz nm,.fz (spt l),.fz (nD w),.ow (spt (wide W.n w p)),.fz (.str q.1)] = some (.lst ((q.2.map fun x => KB.rep x w W.n).map nD)):=by
   rw [List.map_map]
   refine ZK nD _ q.2 _ ?_ (by rw [R.len q hq]; omega) fun x hx => ?_
   ·simp only [dK,g]
   ·have rp:=Ux x w W.n (R.lt q hq x hx) hw hw' h5
    simp only [cK,J8,nD,KZ,rp,Function.comp_apply]
  have pl : (wide W.n w p).length<=1000:=by
   have:=R.few
   rw [<-e,List.length_append] at this
   rw [wide,List.length_map]
   omega
  have pk:=jM (wide W.n w p) q.1 (q.2.map fun x => KB.rep x w W.n) nt pl
  have ew : wide W.n w p ++ [(q.1,q.2.map fun x => KB.rep x w W.n)] = wide W.n w (p ++ [q]):=by simp [wide]
  rw [ew] at pk
  have b : Hx [.fz (wob W),.fz nm,.fz (spt l),.fz (nD w),.ow (spt (wide W.n w p)),.fz (.str q.1)] = some (.nx [.fz (wob W),.fz nm,.fz (spt l),.fz (nD w),.ow (spt (wide W.n w (p ++ [q]))),.fz (.str q.1)]):=by
   simp only [Hx,J5,cm,e_v,List.getElem?_cons_zero,List.getElem?_cons_succ,e_vs,Cm,Hg,pk,Option.map_some,List.set_cons_zero,List.set_cons_succ]
  obtain ⟨z',ih⟩:=Rg W h5 nm w hw hw' l R r (p ++ [q]) (.fz (.str q.1)) (by rw [List.append_assoc]; exact e)
  refine ⟨z',?_⟩
  rw [List.map_cons,Bl,e_tg,Dl,Fg]
  simp only [List.set_cons_zero,List.set_cons_succ]
  rw [b,DP,ih]
def putN (x : Str) (v : List Nat) (l : List (Str × List Nat)) : List (Str × List Nat):=if x ∈ l.map (·.1) then l.map fun p => (p.1,if p.1 = x then v else p.2) else l ++ [(x,v)]
theorem U0 (x : Str) : ∀ l : List (Str × List Nat),(getK (.inr x : Key) (l.map fun p => ((.inr p.1 : Key),D.lst (p.2.map nD)))).isSome = decide (x ∈ l.map (·.1))
 | [] => rfl
 | p :: r => by
  by_cases h : p.1 = x
  ·simp [getK,h]
  ·have g : ¬ x = p.1:=fun e => h e.symm
   simp only [List.map_cons,getK]
   rw [if_neg (fun e => h (by simpa using e)),U0 x r]
   simp [g]
theorem U3 (x : Str) (v : List Nat) : ∀ l : List (Str × List Nat),repK (.inr x : Key) (D.lst (v.map nD)) (l.map fun p => ((.inr p.1 : Key),D.lst (p.2.map nD))) = (l.map fun p => (p.1,if p.1 = x then v else p.2)).map fun p => ((.inr p.1 : Key),D.lst (p.2.map nD))
 | [] => rfl
 | p :: r => by
  simp only [List.map_cons,repK]
  rw [U3 x v r]
  by_cases h : p.1 = x
  ·simp [h]
  ·simp [h]
theorem eF (x : Str) (v : List Nat) (l : List (Str × List Nat)) : putL (.inr x : Key) (D.lst (v.map nD)) (l.map fun p => ((.inr p.1 : Key),D.lst (p.2.map nD))) = (putN x v l).map fun p => ((.inr p.1 : Key),D.lst (p.2.map nD)):=by
 unfold putL putN
 rw [U0]
 by_cases h : x ∈ l.map (·.1)
 ·rw [if_pos h,if_pos (by simpa using h),U3]
 ·rw [if_neg h,if_neg (by simpa using h)]
  simp
def bnd (n w : Nat) : List Nat:=(List.range n).map fun t => (2 ^ w - 1) <<< (t * w)
theorem TY (a b : Nat) (h : a<=1000000) (h' : b<=1000000) : mulD (.int (a : Int)) (.int (b : Int)) = some (.int ((a * b : Nat) : Int)):=by
 rw [JW _ _ ⟨by omega,by omega⟩]
 simp
theorem WK (W : Wl) (h5 : W.n<=5) (x : Str) (w : Nat) (hw : w * W.n<=1000000) (hw' : w<=100000) (l : List (Str × List Nat)) (R : Rows W.n w l) : Kv [wob W,.str x,spt l,nD w] = some (spt (putN x (bnd W.n w) (wide W.n w l))):=by
 obtain ⟨z',lo⟩:=Rg W h5 (.str x) w hw (by omega) l R l [] .un rfl
 have w0 : spt (wide W.n w []) = .dk []:=rfl
 rw [w0] at lo
 have rg:=Gb (W.n : Int) (by omega)
 have cm (z : Slot) : Av (rngI (uF (fldD "size") (vF 0))) allT J9 [.fz (wob W),.fz (.str x),.fz (spt l),.fz (nD w),.ow (spt (wide W.n w l)),z] = some (.lst ((bnd W.n w).map nD)):=by
  rw [bnd,List.map_map]
  refine JT _ _ ?_ (by omega) fun k hk => ?_
  ·simp only [J1,e_u,e_v,List.getElem?_cons_zero,e_vs,e_us,KZ,rg,Int.toNat_natCast]
  ·have ev:=Qj w (by omega)
   have m:=TY k w (by omega) (by omega)
   have kw : k * w<=1000000:=Nat.le_trans (Nat.mul_le_mul_right w (Nat.le_of_lt hk)) (by rw [Nat.mul_comm]; exact hw)
   have s:=TV (2 ^ w - 1) w (k * w) (by have:=Nat.two_pow_pos w; omega) (by omega) kw
   simp only [cK,J9,nD,ev,m,s,Function.comp_apply]
 have ks : (l.map fun p => ((.inr p.1 : Key),D.lst (p.2.map nD))).map (fun p => kDt p.1) = l.map fun q => D.str q.1:=by
  rw [List.map_map]
  rfl
 have pk : CG (spt (wide W.n w l)) (.str x) (.lst ((bnd W.n w).map nD)) = some (spt (putN x (bnd W.n w) (wide W.n w l))):=by
  show CG (.dk _) _ _ = _
  have:=R.few
  rw [Ij _ _ _ (by rw [List.length_map,wide,List.length_map]; omega),eF]
  rfl
 have sk : Mv (some (spt l)) = some (l.map fun q => D.str q.1):=by rw [spt,Kr,ks]
 simp only [cK,Kv,Oc,Ff,Dj,Gh,sk,lo,J5,cm,Cm,Hg,pk,Option.map_some,K9,Ii,K8]
end K17
namespace K17
open PySem L2 PV
def Asg (n w : Nat) (l : List (Str × List Nat)) (Q : Nat->Str->Nat) : Prop:=∀ j,j < w->∀ p ∈ l,∀ t,t < n->(p.2.getD t 0).testBit j = decide (t = Q j p.1)
theorem X_ (A : List Nat) (a : Nat) (h : a < A.length) : ixE (.lst (A.map nD)) (.int (a : Int)) = some (nD (A.getD a 0)):=by
 show atI (A.map nD) (a : Int) = _
 rw [Ig,List.getElem?_map]
 simp [h]
def orP (A B : List Nat) (c : Nat) (q : Nat × Nat) : Nat:=c ||| (A.getD q.1 0 &&& B.getD q.2 0)
theorem Rh (n : Nat) (A B : List Nat) (hA : A.length = n) (hB : B.length = n) (s0 s1 s2 s3 : Slot) : ∀ (l : List (Nat × Nat)) (c : Nat) (z7 z8 : Slot),(∀ q ∈ l,q.1 < n/\q.2 < n) ->
  ∃ z7' z8',forF (tgB (tupG 2 (Bo 7 (Bo 8 nilG))) GJ) (l.map pN) [s0,s1,s2,s3,.fz (.lst (A.map nD)),.fz (.lst (B.map nD)),.fz (nD c),z7,z8] = some (.nx [s0,s1,s2,s3,.fz (.lst (A.map nD)),.fz (.lst (B.map nD)),.fz (nD (l.foldl (orP A B) c)),z7',z8'])
 | [],c,z7,z8,_ => ⟨z7,z8,by simp [HX]⟩
 | q :: r,c,z7,z8,h => by
  obtain ⟨h1,h2⟩:=h q (by simp)
  have e1:=X_ A q.1 (by omega)
  have e2:=X_ B q.2 (by omega)
  have b : GJ [s0,s1,s2,s3,.fz (.lst (A.map nD)),.fz (.lst (B.map nD)),.fz (nD c),.fz (.int (q.1 : Int)),.fz (.int (q.2 : Int))] = some (.nx [s0,s1,s2,s3,.fz (.lst (A.map nD)),.fz (.lst (B.map nD)),.fz (nD (orP A B c q)),.fz (.int (q.1 : Int)),.fz (.int (q.2 : Int))]):=by
   simp only [cK,GJ,e1,e2]
   simp only [cK,nD,K1,TQ,KB.NP,KB.Qc,orP]
  obtain ⟨z7',z8',ih⟩:=Rh n A B hA hB s0 s1 s2 s3 r (orP A B c q) (.fz (.int (q.1 : Int))) (.fz (.int (q.2 : Int))) fun u hu => h u (by simp [hu])
  refine ⟨z7',z8',?_⟩
  rw [List.map_cons,Bl,e_tg,Ks,Fg]
  simp only [List.set_cons_zero,List.set_cons_succ]
  rw [b,DP,ih,List.foldl_cons]
theorem YB (A B : List Nat) (j : Nat) : ∀ (l : List (Nat × Nat)) (c : Nat),(l.foldl (orP A B) c).testBit j = (c.testBit j || l.any fun q => (A.getD q.1 0).testBit j && (B.getD q.2 0).testBit j)
 | [],c => by simp
 | q :: r,c => by
  rw [List.foldl_cons,YB A B j r,orP,Nat.testBit_or,Nat.testBit_and,List.any_cons,Bool.or_assoc]
theorem YC {A : List Nat} {m : Nat} (hA : ∀ x ∈ A,x < m) (h0 : 0 < m) (i : Nat) : A.getD i 0 < m:=by
 rw [List.getD_eq_getElem?_getD]
 cases e : A[i]? with
 | none => simpa using h0
 | some v => exact hA v (List.mem_of_getElem? e)
theorem eG {A B : List Nat} {w : Nat} (hA : ∀ x ∈ A,x < 2 ^ w) : ∀ (l : List (Nat × Nat)) (c : Nat),c < 2 ^ w->l.foldl (orP A B) c < 2 ^ w
 | [],c,h => h
 | q :: r,c,h => eG hA r _ (Nat.or_lt_two_pow h (Nat.lt_of_le_of_lt Nat.and_le_left (YC hA (Nat.two_pow_pos w) q.1)))
theorem ou (W : Wl) (h : WOk W) (a : Fa) (hk : Kn W a) : ∀ q ∈ prs W a,q.1 < W.n/\q.2 < W.n:=by
 intro q hq
 cases a with
 | mk w x =>
  obtain ⟨p,hp,e⟩:=KY hk
  simp only [prs,e,Option.map_some,Option.getD_some] at hq
  obtain ⟨t,ht,rfl⟩:=List.mem_map.mp hq
  have:=(h.ml p hp).2.2 t ht
  exact ⟨this,this⟩
 | ti w x y =>
  obtain ⟨p,hp,e⟩:=KY hk
  simp only [prs,e,Option.map_some,Option.getD_some] at hq
  exact (h.tl p hp).2.2 q hq
 | sa x y =>
  simp only [prs] at hq
  obtain ⟨t,ht,rfl⟩:=List.mem_map.mp hq
  have:=List.mem_range.mp ht
  exact ⟨this,this⟩
def holds (W : Wl) (P : Str->Nat) (a : Fa) : Bool:=(prs W a).any fun q => decide (q.1 = P (fst a)) && decide (q.2 = P (lst' a))
theorem jN (W : Wl) (h : WOk W) (w : Nat) (l : List (Str × List Nat)) (R : Rows W.n w l) (Q : Nat->Str->Nat) (hQ : Asg W.n w l Q) (a : Fa) (hk : Kn W a) (hx : ∀ x ∈ nms a,x ∈ l.map (·.1)) : ∃ c,HQ [wob W,enc a,spt l] = some (nD c)/\c < 2 ^ w/\∀ j,j < w->c.testBit j = holds W (Q j) a:=by
 have ni:=O1 a
 have pk:=d7 W h.n5 h a hk
 have f1 : ∃ r,nms a = fst a :: r:=by cases a <;> exact ⟨_,rfl⟩
 obtain ⟨r,e1⟩:=f1
 have i0 : ixD (.tup ((nms a).map .str)) (.int 0) = some (.str (fst a)):=by rw [e1]; exact ixt0 _ _
 have i1 : ixD (.tup ((nms a).map .str)) (.int (-1)) = some (.str (lst' a)):=by
  cases a with
  | mk w x => exact Kh [] (D.str x)
  | ti w x y => exact Kh [D.str x] (D.str y)
  | sa x y => exact Kh [D.str x] (D.str y)
 have m1 : fst a ∈ l.map (·.1):=hx _ (by rw [e1]; simp)
 have m2 : lst' a ∈ l.map (·.1):=hx _ (by cases a <;> simp [nms,lst'])
 obtain ⟨p,hp,ep⟩:=List.mem_map.mp m1
 obtain ⟨q,hq,eq⟩:=List.mem_map.mp m2
 have s1:=TX l R.nd p hp
 have s2:=TX l R.nd q hq
 rw [ep] at s1
 rw [eq] at s2
 have lt:=ou W h a hk
 obtain ⟨z7,z8,lp⟩:=Rh W.n p.2 q.2 (R.len p hp) (R.len q hq) (.fz (wob W)) (.fz (enc a)) (.fz (spt l)) (.fz (.tup ((nms a).map .str))) (prs W a) 0 .un .un lt
 refine ⟨(prs W a).foldl (orP p.2 q.2) 0,?_,eG (R.lt p hp) _ _ (Nat.two_pow_pos w),fun j hj => ?_⟩
 ·have e0 : nD 0 = .int 0:=rfl
  rw [e0] at lp
  simp only [cK,HQ,Jj,Fq,Gh,HH,ni,i0,i1,aD,s1,s2,pk,lT,lp]
 ·rw [YB,Nat.zero_testBit,Bool.false_or,holds]
  have : ∀ r : List (Nat × Nat),(∀ u ∈ r,u.1 < W.n/\u.2 < W.n)->(r.any fun u => (p.2.getD u.1 0).testBit j && (q.2.getD u.2 0).testBit j) = r.any fun u => decide (u.1 = Q j (fst a)) && decide (u.2 = Q j (lst' a)):=by
   intro r
   induction r with
   | nil => intro _; rfl
   | cons u r ih =>
    intro hu
    obtain ⟨u1,u2⟩:=hu u (by simp)
    rw [List.any_cons,List.any_cons,ih fun v hv => hu v (by simp [hv]),hQ j hj p hp u.1 u1,hQ j hj q hq u.2 u2,ep,eq]
  exact this _ lt
inductive Sy where
 | fa (a : Fa) | no (s : Sy) | bo (b : Bool) (s t : Sy) | qu (b : Bool) (x : Str) (s : Sy)
def encS : Sy->D
 | .fa a => enc a
 | .no s => .tup [.str "not",encS s]
 | .bo true s t => .tup [.str "both",encS s,encS t]
 | .bo false s t => .tup [.str "either",encS s,encS t]
 | .qu true x s => .tup [.str "some",.str x,encS s]
 | .qu false x s => .tup [.str "all",.str x,encS s]
def KnS (W : Wl) : Sy->Prop
 | .fa a => Kn W a
 | .no s => KnS W s
 | .bo _ s t => KnS W s/\KnS W t
 | .qu _ _ s => KnS W s
def fr : Sy->List Str
 | .fa a => nms a
 | .no s => fr s
 | .bo _ s t => fr s ++ fr t
 | .qu _ x s => (fr s).filter fun y => decide (y ≠ x)
def dpt : Sy->Nat
 | .fa _ => 0
 | .no s => dpt s
 | .bo _ s t => max (dpt s) (dpt t)
 | .qu _ _ s => dpt s + 1
def hgt : Sy->Nat
 | .fa _ => 1
 | .no s => hgt s + 1
 | .bo _ s t => max (hgt s) (hgt t) + 1
 | .qu _ _ s => hgt s + 1
def upd (P : Str->Nat) (x : Str) (k : Nat) : Str->Nat:=fun y => if y = x then k else P y
def tru (W : Wl) : (Str->Nat)->Sy->Bool
 | P,.fa a => holds W P a
 | P,.no s => !tru W P s
 | P,.bo b s t => if b then tru W P s && tru W P t else tru W P s || tru W P t
 | P,.qu b x s => if b then (List.range W.n).any fun k => tru W (upd P x k) s else (List.range W.n).all fun k => tru W (upd P x k) s
theorem Qk {x : Str} {v : List Nat} {l : List (Str × List Nat)} {p : Str × List Nat} (h : p ∈ putN x v l) : p = (x,v) ∨ (p ∈ l/\p.1 ≠ x):=by
 unfold putN at h
 split at h
 ·obtain ⟨q,hq,rfl⟩:=List.mem_map.mp h
  by_cases e : q.1 = x
  ·left; simp [e]
  ·right; simp [e,hq]
 ·rcases List.mem_append.mp h with z | z
  ·right
   refine ⟨z,fun e => ?_⟩
   rename_i g
   exact g (List.mem_map.mpr ⟨p,z,e⟩)
  ·left; simpa using z
theorem WL {x : Str} {v : List Nat} {l : List (Str × List Nat)} (y : Str) : y ∈ (putN x v l).map (·.1) ↔ y = x ∨ y ∈ l.map (·.1):=by
 unfold putN
 split
 ·rename_i g
  rw [List.map_map]
  show y ∈ l.map (fun p => p.1) ↔ _
  constructor
  ·exact .inr
  ·rintro (rfl | h)
   ·exact g
   ·exact h
 ·simp only [List.map_append,List.mem_append,List.map_cons,List.map_nil,List.mem_singleton]
  exact Or.comm
theorem ZL {n w : Nat} {l : List (Str × List Nat)} (R : Rows n w l) (hl : l.length < 100) (x : Str) : Rows n (w * n) (putN x (bnd n w) (wide n w l)):=by
 have wn : (wide n w l).map (·.1) = l.map (·.1):=by rw [wide,List.map_map]; rfl
 have wm : ∀ p ∈ wide n w l,p.2.length = n/\∀ y ∈ p.2,y < 2 ^ (w * n):=by
  intro p hp
  obtain ⟨q,hq,rfl⟩:=List.mem_map.mp hp
  refine ⟨by rw [List.length_map]; exact R.len q hq,fun y hy => ?_⟩
  obtain ⟨u,hu,rfl⟩:=List.mem_map.mp hy
  exact KB.V7 (R.lt q hq u hu) n
 have bm : (bnd n w).length = n/\∀ y ∈ bnd n w,y < 2 ^ (w * n):=by
  refine ⟨by simp [bnd],fun y hy => ?_⟩
  obtain ⟨k,hk,rfl⟩:=List.mem_map.mp hy
  exact KB.jC (List.mem_range.mp hk)
 refine ⟨?_,fun p hp => ?_,fun p hp => ?_,?_⟩
 ·unfold putN
  split
  ·rw [List.map_map]
   show ((wide n w l).map (·.1)).Nodup
   rw [wn]; exact R.nd
  ·rename_i g
   rw [List.map_append,wn,List.nodup_append]
   refine ⟨R.nd,by simp,fun a ha b hb e => ?_⟩
   simp at hb
   rw [wn] at g
   exact g (hb ▸ e ▸ ha)
 ·rcases Qk hp with rfl | ⟨z,_⟩
  ·exact bm.1
  ·exact (wm p z).1
 ·rcases Qk hp with rfl | ⟨z,_⟩
  ·exact bm.2
  ·exact (wm p z).2
 ·unfold putN
  split
  ·rw [List.length_map,wide,List.length_map]; omega
  ·rw [List.length_append,wide,List.length_map]; simp; omega
theorem eO {n w : Nat} {l : List (Str × List Nat)} (R : Rows n w l) {Q : Nat->Str->Nat} (hQ : Asg n w l Q) (x : Str) : Asg n (w * n) (putN x (bnd n w) (wide n w l)) (fun i => upd (Q (i % w)) x (i / w)):=by
 intro i hi p hp t ht
 have w0 : 0 < w:=Nat.pos_of_ne_zero fun e => by subst e; simp at hi
 have im : i % w < w:=Nat.mod_lt _ w0
 have ik : i / w < n:=by rw [Nat.div_lt_iff_lt_mul w0,Nat.mul_comm]; exact hi
 have ei : i = i % w + w * (i / w):=(Nat.mod_add_div i w).symm
 rcases Qk hp with rfl | ⟨z,hne⟩
 ·have : (bnd n w).getD t 0 = (2 ^ w - 1) <<< (t * w):=by
   rw [bnd,List.getD_eq_getElem?_getD,List.getElem?_map,List.getElem?_range ht]; rfl
  simp only [this]
  have fb:=KB.dO (w:=w) (t:=t) (k:=i / w) im
  rw [<-ei] at fb
  rw [fb]
  simp only [upd,if_true]
  by_cases e : t = i / w
  ·simp [<-e]
  ·have : ¬ i / w = t:=fun q => e q.symm
   simp [e,this]
 ·obtain ⟨q,hq,rfl⟩:=List.mem_map.mp z
  have hl:=R.len q hq
  have : (q.2.map fun x => KB.rep x w n).getD t 0 = KB.rep (q.2.getD t 0) w n:=by
   rw [List.getD_eq_getElem?_getD,List.getElem?_map,List.getD_eq_getElem?_getD,List.getElem?_eq_getElem (by omega)]; rfl
  simp only [this]
  have lt : q.2.getD t 0 < 2 ^ w:=YC (R.lt q hq) (Nat.two_pow_pos w) t
  have rb:=KB.X6 lt im n (i / w)
  rw [<-ei] at rb
  rw [rb,hQ _ im q hq t ht]
  have g : ¬ q.1 = x:=hne
  simp [ik,upd,g]
end K17
namespace K17
open PySem L2 PV
theorem YD (rc : List D->Option D) (s0 s1 s2 s3 s4 s5 s6 : Slot) : ∀ (l : List Nat) (a b : Nat) (z : Slot),
  ∃ z',forF (tgB (BW 9) (Eu rc)) (l.map nD) [s0,s1,s2,s3,s4,s5,s6,.fz (nD a),.fz (nD b),z] = some (.nx [s0,s1,s2,s3,s4,s5,s6,.fz (nD (l.foldl (· ||| ·) a)),.fz (nD (l.foldl (· &&& ·) b)),z'])
 | [],a,b,z => ⟨z,by simp [HX]⟩
 | q :: r,a,b,z => by
  have e : Eu rc [s0,s1,s2,s3,s4,s5,s6,.fz (nD a),.fz (nD b),.fz (nD q)] = some (.nx [s0,s1,s2,s3,s4,s5,s6,.fz (nD (a ||| q)),.fz (nD (b &&& q)),.fz (nD q)]):=by
   simp only [cK,Eu,nD,K1,TQ,KB.NP,KB.Qc]
  obtain ⟨z',ih⟩:=YD rc s0 s1 s2 s3 s4 s5 s6 r (a ||| q) (b &&& q) (.fz (nD q))
  refine ⟨z',?_⟩
  rw [List.map_cons,Bl,e_tg,Dl,Fg]
  simp only [List.set_cons_zero,List.set_cons_succ]
  rw [e,DP,ih,List.foldl_cons,List.foldl_cons]
theorem YF (j : Nat) : ∀ (l : List Nat) (a : Nat),(l.foldl (· ||| ·) a).testBit j = (a.testBit j || l.any fun x => x.testBit j)
 | [],a => by simp
 | q :: r,a => by rw [List.foldl_cons,YF j r,Nat.testBit_or,List.any_cons,Bool.or_assoc]
theorem U4 (j : Nat) : ∀ (l : List Nat) (a : Nat),(l.foldl (· &&& ·) a).testBit j = (a.testBit j && l.all fun x => x.testBit j)
 | [],a => by simp
 | q :: r,a => by rw [List.foldl_cons,U4 j r,Nat.testBit_and,List.all_cons,Bool.and_assoc]
theorem eQ {w : Nat} : ∀ (l : List Nat) (a : Nat),(∀ x ∈ l,x < 2 ^ w)->a < 2 ^ w->l.foldl (· ||| ·) a < 2 ^ w
 | [],a,_,h => h
 | q :: r,a,hl,h => eQ r _ (fun x hx => hl x (by simp [hx])) (Nat.or_lt_two_pow h (hl q (by simp)))
theorem YG {w : Nat} : ∀ (l : List Nat) (a : Nat),a < 2 ^ w->l.foldl (· &&& ·) a < 2 ^ w
 | [],a,h => h
 | q :: r,a,h => YG r _ (Nat.lt_of_le_of_lt Nat.and_le_left h)
theorem kS : eqD false (.str "some") (.str "some") = some (.bl true):=of_eq_true (eq_self _)
theorem kA : eqD false (.str "all") (.str "some") = some (.bl false):=of_eq_true (eq_self _)
theorem kNn : eqD false (.str "not") (.str "not") = some (.bl true):=of_eq_true (eq_self _)
theorem kBn : eqD false (.str "both") (.str "not") = some (.bl false):=of_eq_true (eq_self _)
theorem kEn : eqD false (.str "either") (.str "not") = some (.bl false):=of_eq_true (eq_self _)
theorem kBb : eqD false (.str "both") (.str "both") = some (.bl true):=of_eq_true (eq_self _)
theorem kEb : eqD false (.str "either") (.str "both") = some (.bl false):=of_eq_true (eq_self _)
theorem fcS : inF false (.str "some") c_FACTS = some (.bl false):=of_eq_true (eq_self _)
theorem fcA : inF false (.str "all") c_FACTS = some (.bl false):=of_eq_true (eq_self _)
theorem fcN : inF false (.str "not") c_FACTS = some (.bl false):=of_eq_true (eq_self _)
theorem fcB : inF false (.str "both") c_FACTS = some (.bl false):=of_eq_true (eq_self _)
theorem fcE : inF false (.str "either") c_FACTS = some (.bl false):=of_eq_true (eq_self _)
theorem biS : inF false (.str "some") c_BINDERS = some (.bl true):=of_eq_true (eq_self _)
theorem biA : inF false (.str "all") c_BINDERS = some (.bl true):=of_eq_true (eq_self _)
theorem biN : inF false (.str "not") c_BINDERS = some (.bl false):=of_eq_true (eq_self _)
theorem biB : inF false (.str "both") c_BINDERS = some (.bl false):=of_eq_true (eq_self _)
theorem biE : inF false (.str "either") c_BINDERS = some (.bl false):=of_eq_true (eq_self _)
theorem eU (W : Wl) (h5 : W.n<=5) (rc : List D->Option D) (w : Nat) (hw : w<=100000) (b : Bool) (x : Str) (s : Sy) (l : List (Str × List Nat)) (R : Rows W.n w l) (c : Nat) (hr : rc [wob W,encS s,spt (putN x (bnd W.n w) (wide W.n w l)),nD (w * W.n)] = some (nD c)) (T : Nat->Nat->Bool) (hT : ∀ j,j < w->∀ k,k < W.n->c.testBit (j + w * k) = T j k) :
  ∃ c',El rc [wob W,encS (.qu b x s),spt l,nD w] = some (nD c')/\c' < 2 ^ w/\∀ j,j < w->c'.testBit j = if b then (List.range W.n).any (T j) else (List.range W.n).all (T j):=by
 have hw5 : w * W.n<=1000000:=Nat.le_trans (Nat.mul_le_mul hw h5) (by decide)
 have wo:=WK W h5 x w hw5 hw l R
 have m : mulD (nD w) (.int (W.n : Int)) = some (nD (w * W.n)):=TY w W.n (by omega) (by omega)
 have ev : By [nD w] = some (nD (2 ^ w - 1)):=Qj w (by omega)
 have rg:=Gb (W.n : Int) (by omega)
 let bs : List Nat:=(List.range W.n).map fun t => (c >>> (t * w)) &&& (2 ^ w - 1)
 have cm (s4 : Slot) : Av (rngI (uF (fldD "size") (vF 0))) allT (G_ rc) [.fz (wob W),.fz (encS (.qu b x s)),.fz (spt l),.fz (nD w),s4,.fz (nD c),.un,.un,.un,.un] = some (.lst (bs.map nD)):=by
  show _ = some (D.lst (List.map nD (List.map _ _)))
  rw [List.map_map]
  refine JT _ _ ?_ (by omega) fun k hk => ?_
  ·simp only [J1,e_u,e_v,List.getElem?_cons_zero,e_vs,e_us,KZ,rg,Int.toNat_natCast]
  ·have mk : mulD (.int (k : Int)) (nD w) = some (nD (k * w)):=TY k w (by omega) (by omega)
   have sh : shrD (nD c) (nD (k * w)) = some (nD (c >>> (k * w))):=jK _ _
   have an : K4 (nD (c >>> (k * w))) (nD (2 ^ w - 1)) = some (nD ((c >>> (k * w)) &&& (2 ^ w - 1))):=by rw [nD,nD,K1,KB.NP]; rfl
   simp only [cK,G_,ev,mk,sh,an,Function.comp_apply]
 have bb : ∀ j,j < w->bs.any (fun y => y.testBit j) = (List.range W.n).any (T j)/\bs.all (fun y => y.testBit j) = (List.range W.n).all (T j):=by
  intro j hj
  have : ∀ r : List Nat,(∀ k ∈ r,k < W.n)->(r.map fun t => (c >>> (t * w)) &&& (2 ^ w - 1)).any (fun y => y.testBit j) = r.any (T j)/\(r.map fun t => (c >>> (t * w)) &&& (2 ^ w - 1)).all (fun y => y.testBit j) = r.all (T j):=by
   intro r
   induction r with
   | nil => intro _; exact ⟨rfl,rfl⟩
   | cons k r ih =>
    intro hk
    obtain ⟨i1,i2⟩:=ih fun u hu => hk u (by simp [hu])
    have e:=KB.ZC (c:=c) (k:=k) hj
    rw [hT j hj k (hk k (by simp))] at e
    rw [List.map_cons,List.any_cons,List.all_cons,i1,i2,e,List.any_cons,List.all_cons]
    exact ⟨rfl,rfl⟩
  exact this _ fun k hk => List.mem_range.mp hk
 have bl : ∀ y ∈ bs,y < 2 ^ w:=by
  intro y hy
  obtain ⟨k,_,rfl⟩:=List.mem_map.mp hy
  exact KB.dR
 obtain ⟨z',lo⟩:=YD rc (.fz (wob W)) (.fz (encS (.qu b x s))) (.fz (spt l)) (.fz (nD w)) (.fz (spt (putN x (bnd W.n w) (wide W.n w l)))) (.fz (nD c)) (.fz (.lst (bs.map nD))) bs 0 (2 ^ w - 1) .un
 rw [show nD 0 = D.int 0 from rfl] at lo
 have eq' : encS (.qu b x s) = .tup [.str (if b then "some" else "all"),.str x,encS s]:=by cases b <;> rfl
 have p0:=Nat.two_pow_pos w
 rw [eq'] at cm lo ⊢
 cases b with
 | true =>
  refine ⟨bs.foldl (· ||| ·) 0,?_,eQ bs 0 bl p0,fun j hj => by rw [YF,Nat.zero_testBit,Bool.false_or,(bb j hj).1]; rfl⟩
  simp only [if_true] at cm lo ⊢
  simp only [cK,El,Gu,Fq,wo,KZ,m,hr,cm,ev,Gh,HH,lo,kS]
 | false =>
  refine ⟨bs.foldl (· &&& ·) (2 ^ w - 1),?_,YG bs _ (by omega),fun j hj => by rw [U4,Nat.testBit_two_pow_sub_one,(bb j hj).2]; simp [hj]⟩
  simp only [Bool.false_eq_true,if_false] at cm lo ⊢
  simp only [cK,El,Gu,Fq,wo,KZ,m,hr,cm,ev,Gh,HH,lo,kA]
theorem Kc (W : Wl) (h : WOk W) : ∀ (s : Sy) (f w : Nat) (l : List (Str × List Nat)) (Q : Nat->Str->Nat),Rows W.n w l->Asg W.n w l Q->KnS W s->(∀ x ∈ fr s,x ∈ l.map (·.1))->hgt s<=f->l.length + dpt s<=100->w * 5 ^ dpt s<=100000 ->
  ∃ c,Bf f [wob W,encS s,spt l,nD w] = some (nD c)/\c < 2 ^ w/\∀ j,j < w->c.testBit j = tru W (Q j) s
 | .fa a,f,w,l,Q,R,hQ,hk,hx,hf,_,_ => by
  obtain ⟨f,rfl⟩ : ∃ g,f = g + 1:=⟨f - 1,by simp [hgt] at hf; omega⟩
  obtain ⟨c,fc,h1,h2⟩:=jN W h w l R Q hQ a hk hx
  refine ⟨c,?_,h1,h2⟩
  obtain ⟨t,r,et,hf⟩:=Qh a
  show Bf (f + 1) [wob W,enc a,spt l,nD w] = _
  rw [et] at fc ⊢
  simp only [dK,Bf,Du,hf,fc]
 | .no s,f,w,l,Q,R,hQ,hk,hx,hf,hl,hw => by
  obtain ⟨f,rfl⟩ : ∃ g,f = g + 1:=⟨f - 1,by simp [hgt] at hf; omega⟩
  have w5 : w<=100000:=Nat.le_trans (Nat.le_mul_of_pos_right w (Nat.pow_pos (by decide))) hw
  obtain ⟨c,e,h1,h2⟩:=Kc W h s f w l Q R hQ hk hx (by simp [hgt] at hf; omega) hl hw
  have ev : By [nD w] = some (nD (2 ^ w - 1)):=Qj w (by omega)
  have xo : We (nD (2 ^ w - 1)) (nD c) = some (nD (2 ^ w - (c + 1))):=by rw [nD,nD,jJ,KB.dN w c h1]; rfl
  refine ⟨2 ^ w - (c + 1),?_,by omega,fun j hj => by rw [KB.jD h1 hj,h2 j hj,tru]⟩
  simp only [dK,encS,Bf,Du,fcN,biN,kNn,e,ev,xo]
 | .bo b s t,f,w,l,Q,R,hQ,hk,hx,hf,hl,hw => by
  obtain ⟨f,rfl⟩ : ∃ g,f = g + 1:=⟨f - 1,by simp [hgt] at hf; omega⟩
  simp only [hgt,dpt,fr,KnS] at hk hx hf hl hw
  have ws : w * 5 ^ dpt s<=100000:=Nat.le_trans (Nat.mul_le_mul_left w (Nat.pow_le_pow_right (by decide) (Nat.le_max_left _ _))) hw
  have wt : w * 5 ^ dpt t<=100000:=Nat.le_trans (Nat.mul_le_mul_left w (Nat.pow_le_pow_right (by decide) (Nat.le_max_right _ _))) hw
  obtain ⟨c,e,h1,h2⟩:=Kc W h s f w l Q R hQ hk.1 (fun x q => hx x (List.mem_append_left _ q)) (by omega) (by omega) ws
  obtain ⟨d,e',h1',h2'⟩:=Kc W h t f w l Q R hQ hk.2 (fun x q => hx x (List.mem_append_right _ q)) (by omega) (by omega) wt
  have an : K4 (nD c) (nD d) = some (nD (c &&& d)):=by rw [nD,nD,K1,KB.NP]; rfl
  have or : borD (nD c) (nD d) = some (nD (c ||| d)):=by rw [nD,nD,TQ,KB.Qc]; rfl
  cases b with
  | true =>
   refine ⟨c &&& d,?_,Nat.lt_of_le_of_lt Nat.and_le_left h1,fun j hj => by rw [Nat.testBit_and,h2 j hj,h2' j hj,tru]; rfl⟩
   simp only [dK,encS,Bf,Du,fcB,biB,kBn,kBb,e,e',an]
  | false =>
   refine ⟨c ||| d,?_,Nat.or_lt_two_pow h1 h1',fun j hj => by rw [Nat.testBit_or,h2 j hj,h2' j hj,tru]; rfl⟩
   simp only [dK,encS,Bf,Du,fcE,biE,kEn,kEb,e,e',or]
 | .qu b x s,f,w,l,Q,R,hQ,hk,hx,hf,hl,hw => by
  obtain ⟨f,rfl⟩ : ∃ g,f = g + 1:=⟨f - 1,by simp [hgt] at hf; omega⟩
  simp only [hgt,dpt,fr,KnS] at hk hx hf hl hw
  have w5 : w<=100000:=Nat.le_trans (Nat.le_mul_of_pos_right w (Nat.pow_pos (by decide))) hw
  have ww : w * W.n * 5 ^ dpt s<=100000:=by
   refine Nat.le_trans ?_ hw
   rw [Nat.pow_succ,Nat.mul_assoc,Nat.mul_comm (5 ^ dpt s) 5]
   exact Nat.mul_le_mul_left w (Nat.mul_le_mul_right _ h.n5)
  have ll : (putN x (bnd W.n w) (wide W.n w l)).length<=l.length + 1:=by
   unfold putN
   split
   ·rw [List.length_map,wide,List.length_map]; omega
   ·rw [List.length_append,wide,List.length_map]; simp
  obtain ⟨c,e,h1,h2⟩:=Kc W h s f (w * W.n) _ _ (ZL R (by omega) x) (eO R hQ x) hk (by
   intro y hy
   rw [WL]
   by_cases q : y = x
   ·exact .inl q
   ·refine .inr ?_
    rw [wide,List.map_map]
    exact hx y (List.mem_filter.mpr ⟨hy,by simpa using q⟩)) (by omega) (by omega) ww
  obtain ⟨c',e',h1',h2'⟩:=eU W h.n5 (Bf f) w w5 b x s l R c e (fun j k => tru W (upd (Q j) x k) s) (by
   intro j hj k hk
   have lt : j + w * k < w * W.n:=by
    have:=Nat.mul_le_mul_left w (show k + 1<=W.n from hk)
    rw [Nat.mul_succ] at this
    omega
   rw [h2 _ lt]
   have m : (j + w * k) % w = j:=by rw [Nat.add_mul_mod_self_left,Nat.mod_eq_of_lt hj]
   have d : (j + w * k) / w = k:=by rw [Nat.add_mul_div_left _ _ (by omega),Nat.div_eq_of_lt hj,Nat.zero_add]
   simp only [m,d])
  refine ⟨c',?_,h1',fun j hj => by rw [h2' j hj,tru]⟩
  cases b with
  | true =>
   simp only [encS] at e' ⊢
   simp only [dK,Bf,Du,fcS,biS,e']
  | false =>
   simp only [encS] at e' ⊢
   simp only [dK,Bf,Du,fcA,biA,e']
end K17
namespace K17
open PySem L2 PV
def Am (ns : List Str) : Sy->Prop
 | .fa a => ∀ x ∈ nms a,x ∈ ns
 | .no s => Am ns s
 | .bo _ s t => Am ns s/\Am ns t
 | .qu _ _ s => Am ns s
def fn : Sy->List Str
 | .fa a => CZ (nms a)
 | .no s => CZ (fn s)
 | .bo _ s t => CZ (fn s ++ fn t)
 | .qu _ x s => CZ ((fn s).filter fun y => !decide (y = x))
theorem lD (s : Sy) : Up (fn s):=by cases s <;> exact JC _
theorem Kd : ∀ (s : Sy) (x : Str),x ∈ fn s ↔ x ∈ fr s
 | .fa a,x => by rw [fn,Dd,fr]
 | .no s,x => by rw [fn,Dd,fr,Kd s]
 | .bo _ s t,x => by rw [fn,Dd,fr,List.mem_append,List.mem_append,Kd s,Kd t]
 | .qu _ y s,x => by rw [fn,Dd,fr,List.mem_filter,List.mem_filter,Kd s]; simp
theorem Ly {ns : List Str} : ∀ (s : Sy),Am ns s->∀ x ∈ fr s,x ∈ ns
 | .fa a,h,x,hx => h x hx
 | .no s,h,x,hx => Ly s h x hx
 | .bo _ s t,h,x,hx => (List.mem_append.mp hx).elim (Ly s h.1 x) (Ly t h.2 x)
 | .qu _ y s,h,x,hx => Ly s h x (List.mem_filter.mp hx).1
theorem Ke {ns : List Str} (hn : ns.length<=6) {s : Sy} (h : Am ns s) : (fn s).length<=6:=Nat.le_trans (sub_len (Mh (lD s)) fun x hx => Ly s h x ((Kd s x).mp hx)) hn
theorem eV (A : D) : Bq [.tup [.str "not",A]] = some (.tup [A]):=of_eq_true (eq_self _)
theorem YH (A B : D) : Bq [.tup [.str "both",A,B]] = some (.tup [A,B]):=of_eq_true (eq_self _)
theorem Ri (A B : D) : Bq [.tup [.str "either",A,B]] = some (.tup [A,B]):=of_eq_true (eq_self _)
theorem YJ (A B : D) : Bq [.tup [.str "some",A,B]] = some (.tup [B]):=of_eq_true (eq_self _)
theorem eX (A B : D) : Bq [.tup [.str "all",A,B]] = some (.tup [B]):=of_eq_true (eq_self _)
theorem extR (xs ys : List Str) (h : xs.length + ys.length<=10000000) : extL (.lst (xs.map .str)) (.lst (ys.map .str)) = some (.lst ((xs ++ ys).map .str)):=by
 show (if _ then _ else _) = _
 rw [if_pos (by simpa using HD h),List.map_append]
theorem ZM (r : List D->Option D) (t : Str) (e : D) (z1 z2 : Slot) (x : Str) (xs : List Str) : Bh [.fz (.tup [.str t,.str x,e]),z1,z2] (Dt r) (Ho r) (xs.map .str) = some ((xs.filter (fun y => !decide (y = x))).map .str):=by
 induction xs with
 | nil => rfl
 | cons y ys ih =>
  have t : Dt r ([.fz (.tup [.str t,.str x,e]),z1,z2] ++ [.fz (.str y)]) = some (!decide (y = x)):=by
   have e : eqD true (.str y) (.str x) = some (.bl (!decide (y = x))):=rfl
   simp only [cK,Dt,Fq,e]
  rw [List.map_cons,CN,t,ih,List.filter_cons]
  by_cases q : y = x
  ·simp [q,jz]
  ·simp [q,p6]
   rfl
theorem Kf (ns : List Str) (hn : ns.length<=6) : ∀ (s : Sy) (n : Nat),hgt s<=n->Am ns s->BL n [encS s] = some (.lst ((fn s).map .str))
 | .fa a,n,h,hA => by
  obtain ⟨n,rfl⟩ : ∃ m,n = m + 1:=⟨n - 1,by simp [hgt] at h; omega⟩
  exact jH a n
 | .no s,n,h,hA => by
  obtain ⟨n,rfl⟩ : ∃ m,n = m + 1:=⟨n - 1,by simp [hgt] at h; omega⟩
  have i1:=Kf ns hn s n (by simp [hgt] at h; omega) hA
  have l1:=Ke (s:=s) hn hA
  have x1:=extR [] (fn s) (by simp; omega)
  have l2 : (CZ (fn s)).length<=6:=Ke (s:=.no s) hn hA
  have e:=ss_l (xs:=[] ++ fn s) (by simp; omega) (by rw [List.nil_append]; omega)
  simp only [List.map_nil,List.nil_append] at x1 e
  simp only [dK,BL,encS,fn,Ea,GC,Mg,JX,eV,fcN,biN,i1,x1,e]
 | .bo b s t,n,h,hA => by
  obtain ⟨n,rfl⟩ : ∃ m,n = m + 1:=⟨n - 1,by simp [hgt] at h; omega⟩
  simp only [hgt] at h
  have i1:=Kf ns hn s n (by omega) hA.1
  have i2:=Kf ns hn t n (by omega) hA.2
  have l1:=Ke hn hA.1
  have l2:=Ke hn hA.2
  have x1:=extR [] (fn s) (by simp; omega)
  have x2:=extR (fn s) (fn t) (by omega)
  have l3 : (CZ (fn s ++ fn t)).length<=6:=Ke (s:=.bo b s t) hn hA
  have e:=ss_l (xs:=fn s ++ fn t) (by simp; omega) (by omega)
  simp only [List.map_nil,List.nil_append] at x1
  cases b <;> simp only [dK,BL,encS,fn,Ea,GC,Mg,JX,YH,Ri,fcB,fcE,biB,biE,i1,i2,x1,x2,e]
 | .qu b x s,n,h,hA => by
  obtain ⟨n,rfl⟩ : ∃ m,n = m + 1:=⟨n - 1,by simp [hgt] at h; omega⟩
  simp only [hgt] at h
  have i1:=Kf ns hn s n (by omega) hA
  have l1:=Ke (s:=s) hn hA
  have x1:=extR [] (fn s) (by simp; omega)
  have l3 : (CZ ((fn s).filter fun y => !decide (y = x))).length<=6:=Ke (s:=.qu b x s) hn hA
  have lf:=List.length_filter_le (fun y => !decide (y = x)) (fn s)
  have e:=ss_l (xs:=(fn s).filter fun y => !decide (y = x)) (by omega) (by omega)
  have c (t : Str) (z2 : Slot) : Av (seqI (vU 1)) (Dt (BL n)) (Ho (BL n)) [.fz (.tup [.str t,.str x,encS s]),.ow (.lst ((fn s).map .str)),z2] = some (.lst (((fn s).filter (fun y => !decide (y = x))).map .str)):=
   Fe (by rfl) (by simp; omega) (ZM (BL n) t (encS s) _ z2 x (fn s))
  simp only [List.map_nil,List.nil_append] at x1
  cases b <;> simp only [dK,BL,encS,fn,Ea,GC,Mg,JX,YJ,eX,fcS,fcA,biS,biA,i1,x1,c,Ff,Dj,e]
theorem gmN : eqD false (.str "not") (.str "mark") = some (.bl false):=of_eq_true (eq_self _)
theorem gtN : eqD false (.str "not") (.str "tie") = some (.bl false):=of_eq_true (eq_self _)
theorem gmB : eqD false (.str "both") (.str "mark") = some (.bl false):=of_eq_true (eq_self _)
theorem gtB : eqD false (.str "both") (.str "tie") = some (.bl false):=of_eq_true (eq_self _)
theorem gmE : eqD false (.str "either") (.str "mark") = some (.bl false):=of_eq_true (eq_self _)
theorem gtE : eqD false (.str "either") (.str "tie") = some (.bl false):=of_eq_true (eq_self _)
theorem gmS : eqD false (.str "some") (.str "mark") = some (.bl false):=of_eq_true (eq_self _)
theorem gtS : eqD false (.str "some") (.str "tie") = some (.bl false):=of_eq_true (eq_self _)
theorem gmA : eqD false (.str "all") (.str "mark") = some (.bl false):=of_eq_true (eq_self _)
theorem gtA : eqD false (.str "all") (.str "tie") = some (.bl false):=of_eq_true (eq_self _)
theorem G7 (W : Wl) : ∀ (s : Sy) (n : Nat),hgt s<=n->KnS W s->Ag n [wob W,encS s] = some .non
 | .fa a,n,h,hk => by
  obtain ⟨n,rfl⟩ : ∃ m,n = m + 1:=⟨n - 1,by simp [hgt] at h; omega⟩
  exact WD W a hk n
 | .no s,n,h,hk => by
  obtain ⟨n,rfl⟩ : ∃ m,n = m + 1:=⟨n - 1,by simp [hgt] at h; omega⟩
  have i1:=G7 W s n (by simp [hgt] at h; omega) hk
  simp only [dK,Ag,An,Br,encS,gmN,gtN,eV,i1]
 | .bo b s t,n,h,hk => by
  obtain ⟨n,rfl⟩ : ∃ m,n = m + 1:=⟨n - 1,by simp [hgt] at h; omega⟩
  simp only [hgt] at h
  have i1:=G7 W s n (by omega) hk.1
  have i2:=G7 W t n (by omega) hk.2
  cases b <;> simp only [dK,Ag,An,Br,encS,gmB,gtB,gmE,gtE,YH,Ri,i1,i2]
 | .qu b x s,n,h,hk => by
  obtain ⟨n,rfl⟩ : ∃ m,n = m + 1:=⟨n - 1,by simp [hgt] at h; omega⟩
  simp only [hgt] at h
  have i1:=G7 W s n (by omega) hk
  cases b <;> simp only [dK,Ag,An,Br,encS,gmS,gtS,gmA,gtA,YJ,eX,i1]
def one (n p : Nat) : List Nat:=(List.range n).map fun t => if t = p then 1 else 0
theorem jO (n p : Nat) : row n p = .lst ((one n p).map nD):=by
 rw [row,one,List.map_map]
 congr 2
 funext t
 simp only [Function.comp_apply,nD]
 split <;> rfl
theorem ZP (n : Nat) (P : Str->Nat) (xs : List Str) : Jx n P xs = spt (xs.map fun x => (x,one n (P x))):=by
 rw [Jx,spt,List.map_map]
 congr 2
 funext x
 simp only [Function.comp_apply,jO]
theorem o6 (W : Wl) (h : WOk W) (ns : List Str) (hn : ns.length<=6) (g : List (Key × D)) (g0 : D) (h0 : g0 = .dk g ∨ (g0 = .non/\g = [])) (P : Str->Nat) (s : Sy) (hk : KnS W s) (hA : Am ns s) (hh : hgt s<=60) (hd : dpt s<=6) (hp : ∀ x ∈ fr s,Pl W.n g P x) : Jm [wob W,encS s,g0] = some (.bl (tru W P s)):=by
 have fn':=Kf ns hn s 60 hh hA
 have nd:=Mh (lD s)
 have l3:=Ke hn hA
 have up:=Uv W g P (fn s) fun x hx => hp x ((Kd s x).mp hx)
 have st:=G7 W s 60 hh hk
 obtain ⟨z',sp⟩:=Qi W h.n5 (encS s) g0 (.lst ((fn s).map .str)) g P (fn s) [] .un (by simpa using nd) (fun x hx => hp x ((Kd s x).mp hx)) (by simp; omega)
 rw [List.nil_append] at sp
 have e0 : D.dk [] = Jx W.n P []:=rfl
 have mm : (((fn s).map fun x => (x,one W.n (P x))).map (·.1)) = fn s:=by rw [List.map_map]; exact List.map_id _
 have R : Rows W.n 1 ((fn s).map fun x => (x,one W.n (P x))):=by
  refine ⟨by rw [mm]; exact nd,fun p hp => ?_,fun p hp => ?_,by rw [List.length_map]; omega⟩
  ·obtain ⟨x,_,rfl⟩:=List.mem_map.mp hp
   simp [one]
  ·obtain ⟨x,_,rfl⟩:=List.mem_map.mp hp
   intro y hy
   obtain ⟨t,_,rfl⟩:=List.mem_map.mp hy
   split <;> decide
 have hQ : Asg W.n 1 ((fn s).map fun x => (x,one W.n (P x))) (fun _ => P):=by
  intro j hj p hp t ht
  obtain ⟨x,_,rfl⟩:=List.mem_map.mp hp
  have j0 : j = 0:=by omega
  subst j0
  have : (one W.n (P x)).getD t 0 = if t = P x then 1 else 0:=by
   rw [one,List.getD_eq_getElem?_getD,List.getElem?_map,List.getElem?_range ht]; rfl
  simp only [this]
  by_cases q : t = P x
  ·simp [q]
  ·simp [q]
 obtain ⟨c,cs,c1,c2⟩:=Kc W h s 60 1 _ _ R hQ hk (by rw [mm]; exact fun x hx => (Kd s x).mpr hx) hh (by rw [List.length_map]; omega) (by
  rw [Nat.one_mul]
  exact Nat.le_trans (Nat.pow_le_pow_right (by decide) hd) (by decide))
 rw [<-ZP] at cs
 have c3:=c2 0 (by decide)
 have ec : c = if tru W P s then 1 else 0:=by
  rw [<-c3]
  have : c = 0 ∨ c = 1:=by omega
  rcases this with rfl | rfl <;> rfl
 have cs' : Bf 60 [wob W,encS s,Jx W.n P (fn s),.int 1] = some (.int (if tru W P s then 1 else 0)):=by
  have e1 : D.int 1 = nD 1:=rfl
  rw [e1,cs,ec,nD]
  congr 2
  split <;> rfl
 have eq1 : decide ((if tru W P s then (1 : Int) else 0) = 1) = tru W P s:=by cases tru W P s <;> decide
 rcases h0 with rfl | ⟨rfl,rfl⟩
 ·have nd1 : isND false (.dk g) = some (.bl false):=rfl
  simp only [ciK,Jm,PL,nd1,fn',up,st,Gh,HH,Ff,e0,Dj,sp,K9,Ii,K8,cs',eq1]
 ·have nd1 : isND false .non = some (.bl true):=rfl
  simp only [e0] at up sp
  simp only [ciK,Jm,PL,nd1,fn',e0,up,st,Gh,HH,Ff,Dj,sp,K9,Ii,K8,cs',eq1]
theorem o7 (W : Wl) (h : WOk W) (ns : List Str) (hn : ns.length<=6) (g : List (Key × D)) (P : Str->Nat) (s : Sy) (hk : KnS W s) (hA : Am ns s) (hh : hgt s<=60) (hd : dpt s<=6) (hp : ∀ x ∈ fr s,Pl W.n g P x) : Jm [wob W,encS s,.dk g] = some (.bl (tru W P s)):=o6 W h ns hn g _ (.inl rfl) P s hk hA hh hd hp
end K17
namespace K17
open PySem L2 PV
theorem Kg (xs : List Str) (j n : Int) (hl : n = xs.length) (hx : xs ≠ []) : ∃ x,x ∈ xs/\ixD (.lst (xs.map .str)) (.int (j % n)) = some (.str x):=by
 obtain ⟨x,hx,e⟩:=Wg (xs:=xs.map D.str) j n (by simpa using hl) (by simpa using hx)
 obtain ⟨y,hy,rfl⟩:=List.mem_map.mp hx
 exact ⟨y,hy,e⟩
theorem eY (xs : List Str) : lenD (.lst (xs.map .str)) = some (.int xs.length):=by simp [lenD]
theorem Tc (i : Int) (ms ts ns : List Str) (hne : ns ≠ []) : ∃ a,Bt [.int i,.lst (ms.map .str),.lst (ts.map .str),.lst (ns.map .str)] = some (enc a)/\(∀ x ∈ nms a,x ∈ ns)/\(match a with | .mk w _ => w ∈ ms | .ti w _ _ => w ∈ ts | .sa _ _ => True):=by
 have hnp : (0 : Int) < ns.length:=by have:=List.length_pos_iff.mpr hne; omega
 obtain ⟨x,mx,ex⟩:=Kg ns (i / 3) ns.length rfl hne
 obtain ⟨y,my,ey⟩:=Kg ns (i / 21) ns.length rfl hne
 have m1:=Dg (i / 3) ns.length hnp
 have m2:=Dg (i / 21) ns.length hnp
 have ln:=eY ns
 have lm:=eY ms
 have lt:=eY ts
 have nil_ne : ∀ xs : List Str,xs ≠ []->eqD true (.lst (xs.map .str)) (.lst []) = some (.bl true):=fun xs h => by
  have : ¬ xs.length = 0:=by simpa using h
  simp [eqD,eqvD,h]
 have nil_eq : eqD true (.lst (([] : List Str).map .str)) (.lst []) = some (.bl false):=rfl
 by_cases h1 : i % 3 = 1/\ms ≠ []
 ·obtain ⟨w,mw,ew⟩:=Kg ms (i / 147) ms.length rfl h1.2
  have m3:=Dg (i / 147) ms.length (by have:=List.length_pos_iff.mpr h1.2; omega)
  refine ⟨.mk w x,?_,by simpa [nms] using mx,mw⟩
  simp only [ciK,Bt,Ds,ln,m1,m2,ex,ey,h1.1,nil_ne ms h1.2,lm,m3,ew,enc]
 ·by_cases h2 : i % 3 = 2/\ts ≠ []
  ·obtain ⟨w,mw,ew⟩:=Kg ts (i / 147) ts.length rfl h2.2
   have m3:=Dg (i / 147) ts.length (by have:=List.length_pos_iff.mpr h2.2; omega)
   refine ⟨.ti w x y,?_,by simp [nms,mx,my],mw⟩
   simp only [ciK,Bt,Ds,ln,m1,m2,ex,ey,h2.1,nil_ne ts h2.2,lt,m3,ew,enc]
  ·refine ⟨.sa x y,?_,by simp [nms,mx,my],trivial⟩
   have g1 : i % 3 = 1->ms = []:=fun z => by
    by_cases q : ms = []
    ·exact q
    ·exact absurd ⟨z,q⟩ h1
   have g2 : i % 3 = 2->ts = []:=fun z => by
    by_cases q : ts = []
    ·exact q
    ·exact absurd ⟨z,q⟩ h2
   by_cases c1 : i % 3 = 1
   ·have e1:=g1 c1
    subst e1
    simp only [List.map_nil] at nil_eq
    simp only [ciK,Bt,Ds,ln,m1,m2,ex,ey,c1,nil_eq,enc]
   ·by_cases c2 : i % 3 = 2
    ·have e1:=g2 c2
     subst e1
     simp only [List.map_nil] at nil_eq
     simp only [ciK,Bt,Ds,ln,m1,m2,ex,ey,c2,nil_eq,enc]
    ·simp only [ciK,Bt,Ds,ln,m1,m2,ex,ey,c1,c2,enc]
def sd (s : Sy) : D:=.lst [encS s,.int (dpt s : Int)]
theorem sd0 (s : Sy) : ixE (sd s) (.int 0) = some (encS s):=ix0 _ _
theorem sd1 (s : Sy) : ixE (sd s) (.int 1) = some (.int (dpt s : Int)):=ix1 _ _ _
structure Gd (W : Wl) (ns : List Str) (M : Nat) (s : Sy) : Prop where
 kn : KnS W s
 am : Am ns s
 dp : dpt s<=M
theorem Ql (L : List D) (x v : D) : Ui (.lst (L ++ [x])) (.int (-1)) v = some (.lst (L ++ [v])):=by
 unfold Ui ixN
 simp
 refine ⟨by omega,?_⟩
 rw [show (-1 + ((L.length : Int) + 1)).toNat = L.length by omega]
 simp [List.set_append]
theorem eZ (i : Nat) (ρ : Rho) (L : List D) (x : D) : popO i ρ (some (.lst (L ++ [x]))) = some (.nx (ρ.set i (.ow (.lst L)))):=by
 rw [oJ]; simp
theorem ZQ (i j : Nat) (ρ : Rho) (L : List D) (x : D) : Uh i j ρ (some (.lst (L ++ [x]))) = some (.nx ((ρ.set i (.ow (.lst L))).set j (.fz x))):=by
 rw [i_]; simp
theorem YK (a b : Nat) : maxD (.int (a : Int)) (.int (b : Int)) = some (.int ((max a b : Nat) : Int)):=by
 show some (D.int (if (b : Int) > a then (b : Int) else a)) = _
 congr 2
 split <;> omega
theorem Td (a b : D) (i : Int) : ixE (.lst [a,b]) (.int (i % 2)) = some (if i % 2 = 0 then a else b):=by
 by_cases h : i % 2 = 0
 ·rw [h,if_pos rfl]; exact ix0 _ _
 ·rw [mod2 i h,if_neg (by decide)]; exact ix1 _ _ _
theorem YL (s : Sy) : 1<=hgt s:=by cases s <;> simp [hgt]
def bo' (b : Bool) (s t : Sy) : D:=.lst [.tup [.str (if b then "both" else "either"),encS s,encS t],.int ((max (dpt s) (dpt t) : Nat) : Int)]
theorem lE (b : Bool) (s t : Sy) : bo' b s t = sd (.bo b s t):=by cases b <;> rfl
theorem qR (b : Bool) (x : Str) (s : Sy) : D.lst [.tup [.str (if b then "some" else "all"),.str x,encS s],.int ((dpt s : Int) + 1)] = sd (.qu b x s):=by cases b <;> rfl
theorem qT (s : Sy) : D.lst [.tup [.str "not",encS s],.int (dpt s : Int)] = sd (.no s):=rfl
theorem lF (a : Fa) : D.lst [enc a,.int 0] = sd (.fa a):=rfl
theorem lG (L : List D) (x : D) (h : L.length<=1000) : appL (.lst L) x = some (.lst (L ++ [x])):=by
 unfold appL
 simp only []
 rw [if_pos (by (have : (1000 : Nat) < sizeLine:=by decide +kernel); omega)]
structure Stk (W : Wl) (ns : List Str) (M m : Nat) (l : List Sy) (s : Sy) : Prop where
 al : ∀ t ∈ l,Gd W ns M t/\hgt t + (l.length + 1)<=m
 gs : Gd W ns M s
 hs : hgt s + (l.length + 1)<=m
theorem U5 {W : Wl} {ns : List Str} {M m : Nat} {r : List Sy} {t s : Sy} (h : Stk W ns M m (r ++ [t]) s) (b : Bool) : Stk W ns M m r (.bo b t s):=by
 have ht:=h.al t (by simp)
 have:=h.hs
 simp at ht this
 refine ⟨fun u hu => ?_,⟨⟨ht.1.kn,h.gs.kn⟩,⟨ht.1.am,h.gs.am⟩,?_⟩,?_⟩
 ·have:=h.al u (by simp [hu])
  simp at this
  exact ⟨this.1,by omega⟩
 ·have:=ht.1.dp
  have:=h.gs.dp
  simp only [dpt]; omega
 ·simp only [hgt]; omega
theorem jP (W : Wl) (ns : List Str) (hne : ns ≠ []) (M m : Nat) (hm : m<=100) (l : List Sy) (s : Sy) (h : Stk W ns M m l s) (cs : Slot) (c : Int) (z7 z8 : Slot) :
  ∃ l' s' z7' z8',BJ [cs,.fz (.lst ((W.ms.map (·.1)).map .str)),.fz (.lst ((W.ts.map (·.1)).map .str)),.fz (.lst (ns.map .str)),.fz (.int (M : Int)),.ow (.lst (l.map sd ++ [sd s])),.fz (.int c),z7,z8] = some (.nx [cs,.fz (.lst ((W.ms.map (·.1)).map .str)),.fz (.lst ((W.ts.map (·.1)).map .str)),.fz (.lst (ns.map .str)),.fz (.int (M : Int)),.ow (.lst (l'.map sd ++ [sd s'])),.fz (.int c),z7',z8'])/\Stk W ns M (m + 1) l' s':=by
 have em:=JW (c / 8) 1000000007 (by decide)
 obtain ⟨N,hN⟩ : ∃ N,modD (.int (c / 8 * 1000000007)) (.int 2147483647) = some (.int N):=⟨_,Dg _ _ (by decide)⟩
 have a1 : ixE (.lst (l.map sd ++ [sd s])) (.int (-1)) = some (sd s):=Kh (l.map sd) (sd s)
 obtain ⟨x,mx,ex⟩:=Kg ns (N / 2) ns.length rfl hne
 replace ex : ixE (.lst (ns.map .str)) (.int (N / 2 % ns.length)) = some (.str x):=ex
 have lnn : lenE (.lst (ns.map .str)) = some (.int ns.length):=by simp [lenE,lenD]
 have mnn:=Dg (N / 2) ns.length (by have:=List.length_pos_iff.mpr hne; omega)
 have sl:=Ql (l.map sd) (sd s)
 have hl:=h.hs
 have hp:=YL s
 have keep : Stk W ns M (m + 1) l s:=⟨fun t ht => ⟨(h.al t ht).1,by have:=(h.al t ht).2; omega⟩,h.gs,by omega⟩
 by_cases h1 : 5 < c % 8/\(dpt s : Int) < (M : Int)
 ·refine ⟨l,.qu (decide (N % 2 = 0)) x s,.fz (.int N),.fz (sd s),?_,keep.al,⟨h.gs.kn,h.gs.am,by simp only [dpt]; omega⟩,by simp only [hgt]; omega⟩
  have w:=Td (.str "some") (.str "all") N
  have q:=qR (decide (N % 2 = 0)) x s
  have e : (if N % 2 = 0 then D.str "some" else D.str "all") = .str (if decide (N % 2 = 0) = true then "some" else "all"):=by by_cases z : N % 2 = 0 <;> simp [z]
  rw [e] at w
  simp only [ciK,BJ,em,hN,a1,h1.1,h1.2,sd0,sd1,w,lnn,mnn,ex,q,OJ,Ku,Cm,sl]
 ·have t1 : ¬ (5 < c % 8) ∨ ¬ ((dpt s : Int) < (M : Int)):=by omega
  by_cases h5 : c % 8 = 5
  ·refine ⟨l,.no s,.fz (.int N),.fz (sd s),?_,keep.al,⟨h.gs.kn,h.gs.am,h.gs.dp⟩,by simp only [hgt]; omega⟩
   have q:=qT s
   simp only [ciK,BJ,em,hN,a1,h5,sd0,sd1,q,OJ,Ku,Cm,sl]
  ·by_cases h6 : 2 < c % 8/\l ≠ []
   ·obtain ⟨r,t,rfl⟩ : ∃ r t,l = r ++ [t]:=⟨l.dropLast,l.getLast h6.2,(List.dropLast_concat_getLast h6.2).symm⟩
    refine ⟨r,.bo (decide (N % 2 = 0)) t s,.fz (.int N),.fz (sd s),?_,U5 keep _⟩
    have mm : (r ++ [t]).map sd = r.map sd ++ [sd t]:=by simp
    have a2 : ixE (.lst (r.map sd ++ [sd t])) (.int (-1)) = some (sd t):=Kh (r.map sd) (sd t)
    have w:=Td (.str "both") (.str "either") N
    have e : (if N % 2 = 0 then D.str "both" else D.str "either") = .str (if decide (N % 2 = 0) = true then "both" else "either"):=by by_cases z : N % 2 = 0 <;> simp [z]
    rw [e] at w
    have q:=lE (decide (N % 2 = 0)) t s
    unfold bo' at q
    have mx:=YK (dpt t) (dpt s)
    have s2:=Ql (r.map sd) (sd t)
    have ln : lenE (.lst ((r.map sd ++ [sd t]) ++ [sd s])) = some (.int ((r.length : Int) + 2)):=by simp [lenE,lenD]
    have g2 : (1 : Int) < (r.length : Int) + 2:=by omega
    have pl (ρ : Rho):=eZ 5 ρ (r.map sd ++ [sd t]) (sd s)
    rw [mm] at a1 ⊢
    rcases t1 with t1 | t1
    ·simp only [ciK,BJ,em,hN,a1,t1,h5,h6.1,ln,g2,dF,pl,Cm,sd0,sd1,a2,w,mx,q,OJ,Ku,s2]
    ·by_cases h7 : 5 < c % 8
     ·simp only [ciK,BJ,em,hN,a1,t1,h5,h7,h6.1,ln,g2,dF,pl,Cm,sd0,sd1,a2,w,mx,q,OJ,Ku,s2]
     ·simp only [ciK,BJ,em,hN,a1,t1,h5,h7,h6.1,ln,g2,dF,pl,Cm,sd0,sd1,a2,w,mx,q,OJ,Ku,s2]
   ·obtain ⟨a,ea,na,wa⟩:=Tc N (W.ms.map (·.1)) (W.ts.map (·.1)) ns hne
    have hk : Kn W a:=by cases a <;> exact wa
    have q:=lF a
    have ap:=lG (l.map sd ++ [sd s]) (sd (.fa a)) (by simp; omega)
    have ln : lenE (.lst (l.map sd ++ [sd s])) = some (.int ((l.length : Int) + 1)):=by simp [lenE,lenD]
    have mm : (l ++ [s]).map sd = l.map sd ++ [sd s]:=by simp
    refine ⟨l ++ [s],.fa a,.fz (.int N),.fz (sd s),?_,fun t ht => ?_,⟨hk,na,by simp [dpt]⟩,by simp [hgt]; omega⟩
    ·rw [mm]
     have t2 : ¬ (2 < c % 8) ∨ ¬ ((1 : Int) < (l.length : Int) + 1):=by
      by_cases z : 2 < c % 8
      ·right
       have : l = []:=by
        by_cases q : l = []
        ·exact q
        ·exact absurd ⟨z,q⟩ h6
       subst this
       simp
      ·exact .inl z
     have t3 : 5 < c % 8->¬ (dpt s : Int) < (M : Int):=by omega
     by_cases z5 : 5 < c % 8
     ·have z6:=t3 z5
      have z2 : 2 < c % 8:=by omega
      have z7 : ¬ ((1 : Int) < (l.length : Int) + 1):=by rcases t2 with t2 | t2; exact absurd z2 t2; exact t2
      simp only [ciK,BJ,em,hN,a1,z5,z6,z2,z7,h5,ln,sd1,ea,q,Mg,JX,Cm,ap]
     ·by_cases z2 : 2 < c % 8
      ·have z7 : ¬ ((1 : Int) < (l.length : Int) + 1):=by rcases t2 with t2 | t2; exact absurd z2 t2; exact t2
       simp only [ciK,BJ,em,hN,a1,z5,z2,z7,h5,ln,sd1,ea,q,Mg,JX,Cm,ap]
      ·simp only [ciK,BJ,em,hN,a1,z5,z2,h5,ln,sd1,ea,q,Mg,JX,Cm,ap]
    ·rcases List.mem_append.mp ht with z | z
     ·exact ⟨(h.al t z).1,by have:=(h.al t z).2; simp; omega⟩
     ·simp at z; subst z
      exact ⟨h.gs,by simp; omega⟩
theorem U6 (W : Wl) (ns : List Str) (hne : ns ≠ []) (M : Nat) (cs : Slot) : ∀ (r : List Int) (m : Nat) (l : List Sy) (s : Sy) (z6 z7 z8 : Slot),Stk W ns M m l s->m + r.length<=100 ->
  ∃ l' s' z6' z7' z8',forF (tgB (BW 6) BJ) (r.map .int) [cs,.fz (.lst ((W.ms.map (·.1)).map .str)),.fz (.lst ((W.ts.map (·.1)).map .str)),.fz (.lst (ns.map .str)),.fz (.int (M : Int)),.ow (.lst (l.map sd ++ [sd s])),z6,z7,z8] = some (.nx [cs,.fz (.lst ((W.ms.map (·.1)).map .str)),.fz (.lst ((W.ts.map (·.1)).map .str)),.fz (.lst (ns.map .str)),.fz (.int (M : Int)),.ow (.lst (l'.map sd ++ [sd s'])),z6',z7',z8'])/\Stk W ns M (m + r.length) l' s'
 | [],m,l,s,z6,z7,z8,h,_ => ⟨l,s,z6,z7,z8,by simp [HX],h⟩
 | c :: r,m,l,s,z6,z7,z8,h,hm => by
  obtain ⟨l1,s1,y7,y8,e1,h1⟩:=jP W ns hne M m (by simp at hm; omega) l s h cs c z7 z8
  obtain ⟨l2,s2,z6',z7',z8',e2,h2⟩:=U6 W ns hne M cs r (m + 1) l1 s1 (.fz (.int c)) y7 y8 h1 (by simp at hm; omega)
  refine ⟨l2,s2,z6',z7',z8',?_,by rw [List.length_cons,show m + (r.length + 1) = m + 1 + r.length by omega]; exact h2⟩
  rw [List.map_cons,Bl,e_tg,Dl,Fg]
  simp only [List.set_cons_zero,List.set_cons_succ]
  rw [e1,DP,e2]
theorem U7 (W : Wl) (ns : List Str) (M : Nat) (s0 s1 s2 s3 s4 s6 s7 : Slot) : ∀ (k m : Nat) (l : List Sy) (s : Sy) (z8 : Slot),Stk W ns M m l s->l.length + 1<=k ->
  ∃ s' z8',Ie C_ Fz k [s0,s1,s2,s3,s4,.ow (.lst (l.map sd ++ [sd s])),s6,s7,z8] = some (.nx [s0,s1,s2,s3,s4,.ow (.lst [sd s']),s6,s7,z8'])/\Gd W ns M s'/\hgt s' + 1<=m
 | 0,m,l,s,z8,h,hk => by omega
 | k + 1,m,l,s,z8,h,hk => by
  have ln : lenE (.lst (l.map sd ++ [sd s])) = some (.int ((l.length : Int) + 1)):=by simp [lenE,lenD]
  by_cases hl : l = []
  ·subst hl
   refine ⟨s,z8,?_,h.gs,by simpa using h.hs⟩
   have c0 : ¬ (1 : Int) < 1:=by decide
   have l1 : lenE (.lst [sd s]) = some (.int 1):=rfl
   have t0 : C_ [s0,s1,s2,s3,s4,.ow (.lst (([] : List Sy).map sd ++ [sd s])),s6,s7,z8] = some false:=by
    simp only [ciK,C_,l1,c0]
   unfold Ie
   rw [t0]
   rfl
  ·obtain ⟨r,t,rfl⟩ : ∃ r t,l = r ++ [t]:=⟨l.dropLast,l.getLast hl,(List.dropLast_concat_getLast hl).symm⟩
   have c0 : (1 : Int) < (((r ++ [t]).length : Nat) : Int) + 1:=by simp; omega
   obtain ⟨s',z8',e',g',hs'⟩:=U7 W ns M s0 s1 s2 s3 s4 s6 s7 k m r (.bo (decide (¬ ((r.length : Int) + 1) % 2 = 0)) t s) (.fz (sd s)) (U5 h _) (by simp at hk; omega)
   refine ⟨s',z8',?_,g',hs'⟩
   have t0 : C_ [s0,s1,s2,s3,s4,.ow (.lst ((r ++ [t]).map sd ++ [sd s])),s6,s7,z8] = some true:=by
    simp only [ciK,C_,ln,c0]
   have mm : (r ++ [t]).map sd = r.map sd ++ [sd t]:=by simp
   have a2 : ixE (.lst (r.map sd ++ [sd t])) (.int (-1)) = some (sd t):=Kh (r.map sd) (sd t)
   have w:=Td (.str "either") (.str "both") ((r.length : Int) + 1)
   have e : (if ((r.length : Int) + 1) % 2 = 0 then D.str "either" else D.str "both") = .str (if decide (¬ ((r.length : Int) + 1) % 2 = 0) = true then "both" else "either"):=by by_cases z : ((r.length : Int) + 1) % 2 = 0 <;> simp [z]
   rw [e] at w
   have q:=lE (decide (¬ ((r.length : Int) + 1) % 2 = 0)) t s
   unfold bo' at q
   have mx:=YK (dpt t) (dpt s)
   have sl:=Ql (r.map sd) (sd t)
   have l2 : lenE (.lst (r.map sd ++ [sd t])) = some (.int ((r.length : Int) + 1)):=by simp [lenE,lenD]
   have pl (ρ : Rho):=ZQ 5 8 ρ (r.map sd ++ [sd t]) (sd s)
   have b0 : Fz [s0,s1,s2,s3,s4,.ow (.lst ((r ++ [t]).map sd ++ [sd s])),s6,s7,z8] = some (.nx [s0,s1,s2,s3,s4,.ow (.lst (r.map sd ++ [sd (.bo (decide (¬ ((r.length : Int) + 1) % 2 = 0)) t s)])),s6,s7,.fz (sd s)]):=by
    rw [mm]
    simp only [ciK,Fz,oK,pl,Cm,sd0,sd1,a2,l2,w,mx,q,OJ,Ku,sl]
   unfold Ie
   rw [t0,b0]
   exact e'
theorem e_ (W : Wl) (ns : List Str) (hne : ns ≠ []) (M : Nat) (r : List Int) (hr : r.length<=50) : ∃ s,F_ [.lst (r.map .int),.lst ((W.ms.map (·.1)).map .str),.lst ((W.ts.map (·.1)).map .str),.lst (ns.map .str),.int (M : Int)] = some (sd s)/\Gd W ns M s/\hgt s<=r.length + 1:=by
 have lr : lenE (.lst (r.map .int)) = some (.int (r.length : Int)):=by simp [lenE,lenD]
 obtain ⟨a,ea,na,wa⟩:=Tc (r.length : Int) (W.ms.map (·.1)) (W.ts.map (·.1)) ns hne
 have hk : Kn W a:=by cases a <;> exact wa
 have q:=lF a
 obtain ⟨l',s',z6,z7,z8,e1,h1⟩:=U6 W ns hne M (.fz (.lst (r.map .int))) r 2 [] (.fa a) .un .un .un ⟨by simp,⟨hk,na,by simp [dpt]⟩,by simp [hgt]⟩ (by omega)
 have hs:=h1.hs
 have hp:=YL s'
 obtain ⟨s,z8',e2,g,hg⟩:=U7 W ns M (.fz (.lst (r.map .int))) (.fz (.lst ((W.ms.map (·.1)).map .str))) (.fz (.lst ((W.ts.map (·.1)).map .str))) (.fz (.lst (ns.map .str))) (.fz (.int (M : Int))) z6 z7 60 (2 + r.length) l' s' z8 h1 (by omega)
 refine ⟨s,?_,g,by omega⟩
 have i0 : ixE (.lst [sd s]) (.int 0) = some (sd s):=ix0 _ _
 simp only [List.map_nil,List.nil_append] at e1
 simp only [cK,F_,Jg,Ff,Dj,lr,ea,q,Gh,HH,e1,e2,i0]
end K17
namespace K17
open PySem L2 PV
theorem asg3 (f : FE) (a b c : D) (i j k : Nat) (ρ : Rho) (h : f ρ = some (.lst [a,b,c])) : asgF f (tupG 3 (Bo i (Bo j (Bo k nilG)))) ρ = some (.nx (((ρ.set i (.fz a)).set j (.fz b)).set k (.fz c))):=by
 unfold asgF
 rw [h]
 rfl
theorem jQ {α β : Type} (f : α->β) (l : List α) (lo hi : Option Int) : cutD (l.map f) lo hi = (cutD l lo hi).map f:=by
 unfold cutD; rw [List.length_map,List.map_take,List.map_drop]
theorem cell_in (ns : List Int) (k : Nat) : ∃ i,Ak [.lst (ns.map .int),.int k] = some (.int i)/\(i = 0 ∨ i ∈ ns):=by
 by_cases h : k < ns.length
 ·refine ⟨ns[k],?_,.inr (List.getElem_mem h)⟩
  have e : atI (ns.map D.int) (k : Int) = some (.int ns[k]):=by
   rw [Vg (by omega) (by simpa using h)]
   simp [h]
  simp [Ak,runF,Hw,seqF,ifS,blF,bF,vF,uF,Fb,lenD,Wh,h,retF,ixD,e]
 ·refine ⟨0,?_,.inl rfl⟩
  simp [Ak,runF,Hw,seqF,ifS,blF,bF,vF,uF,Fb,lenD,Wh,h,retF,nxF,kF]
theorem jR (ms : List (Str × List Nat)) : K7 (.dk (eM ms)) = some (.lst ((ms.map (·.1)).map .str)):=by
 show some (D.lst ((eM ms).map fun p => kDt p.1)) = _
 simp only [eM,List.map_map,Function.comp_def,RW]
theorem jT (ts : List (Str × List (Nat × Nat))) : K7 (.dk (eT ts)) = some (.lst ((ts.map (·.1)).map .str)):=by
 show some (D.lst ((eT ts).map fun p => kDt p.1)) = _
 simp only [eT,List.map_map,Function.comp_def,RW]
theorem isb (b : Bool) : isiD "bool" (.bl b) = some (.bl true):=by cases b <;> rfl
structure Ask (W : Wl) (ns : List Str) (g : List (Key × D)) (P : Str->Nat) (m : Nat) (s : Sy) : Prop where
 kn : KnS W s
 am : Am ns s
 hh : hgt s<=m
 dp : dpt s<=6
 fr : ∀ x ∈ fr s,Pl W.n g P x
theorem Ask.so {W : Wl} (hW : WOk W) {ns : List Str} (hn : ns.length<=6) {g : List (Key × D)} {P : Str->Nat} {m : Nat} {s : Sy} (h : Ask W ns g P m s) (hm : m<=60) : Jm [wob W,encS s,.dk g] = some (.bl (tru W P s)):=o7 W hW ns hn g P s h.kn h.am (Nat.le_trans h.hh hm) h.dp h.fr
def clo (f : Nat->Bool) : Nat->List Str->Sy->Sy
 | _,[],s => s
 | k,x :: r,s => clo f (k + 1) r (.qu (f k) x s)
theorem fB (W : Wl) (f : Nat->Bool) : ∀ (xs : List Str) (k : Nat) (s : Sy),KnS W s->KnS W (clo f k xs s)
 | [],_,_,h => h
 | x :: r,k,s,h => fB W f r (k + 1) (.qu (f k) x s) h
theorem fC (ns : List Str) (f : Nat->Bool) : ∀ (xs : List Str) (k : Nat) (s : Sy),Am ns s->Am ns (clo f k xs s)
 | [],_,_,h => h
 | x :: r,k,s,h => fC ns f r (k + 1) (.qu (f k) x s) h
theorem YM (f : Nat->Bool) : ∀ (xs : List Str) (k : Nat) (s : Sy),dpt (clo f k xs s) = dpt s + xs.length
 | [],_,_ => rfl
 | x :: r,k,s => by rw [clo,YM f r (k + 1),dpt,List.length_cons]; omega
theorem YQ (f : Nat->Bool) : ∀ (xs : List Str) (k : Nat) (s : Sy),hgt (clo f k xs s) = hgt s + xs.length
 | [],_,_ => rfl
 | x :: r,k,s => by rw [clo,YQ f r (k + 1),hgt,List.length_cons]; omega
theorem fD (f : Nat->Bool) : ∀ (xs : List Str) (k : Nat) (s : Sy) (y : Str),y ∈ fr (clo f k xs s)->y ∈ fr s/\y ∉ xs
 | [],_,_,y,h => ⟨h,by simp⟩
 | x :: r,k,s,y,h => by
  obtain ⟨h1,h2⟩:=fD f r (k + 1) (.qu (f k) x s) y h
  simp only [fr,List.mem_filter,decide_eq_true_eq] at h1
  exact ⟨h1.1,by simp [h1.2,h2]⟩
theorem ZR (xs : List Str) (h2 : 2<=xs.length) (h3 : xs.length<=3) (s : Sy) (i : Int) : ∃ f,Ek [encS s,.lst (xs.map .str),.int i] = some (encS (clo f 0 xs s)):=by
 have w (j : Int) : ixE (.lst [.str "some",.str "all"]) (.int (j % 2)) = some (.str (if decide (j % 2 = 0) = true then "some" else "all")):=by
  rw [Td]
  by_cases z : j % 2 = 0 <;> simp [z]
 have q (b : Bool) (x : Str) (s : Sy) : D.tup [.str (if b then "some" else "all"),.str x,encS s] = encS (.qu b x s):=by cases b <;> rfl
 refine ⟨fun k => match k with | 0 => decide (i / 1 % 2 = 0) | 1 => decide (i / 2 % 2 = 0) | _ => decide (i / 4 % 2 = 0),?_⟩
 match xs,h2,h3 with
 | [a,b],_,_ =>
  have rg:=Gb 2 (by decide)
  rw [show rngD (2 : Int).toNat = [.int 0,.int 1] from rfl] at rg
  have ln : lenE (.lst [.str a,.str b]) = some (.int 2):=rfl
  simp only [ciK,Ek,Gs,G9,ln,rg,S5,w,q,clo]
 | [a,b,c],_,_ =>
  have rg:=Gb 3 (by decide)
  rw [show rngD (3 : Int).toNat = [.int 0,.int 1,.int 2] from rfl] at rg
  have ln : lenE (.lst [.str a,.str b,.str c]) = some (.int 3):=rfl
  simp only [ciK,Ek,Gs,G9,ln,rg,S5,w,q,clo]
theorem Rj (k : Key) (v : D) : ∀ l : List (Key × D),getK k (putL k v l) = some v:=by
 have r : ∀ l : List (Key × D),(getK k l).isSome = true->getK k (repK k v l) = some v:=by
  intro l
  induction l with
  | nil => intro h; simp [getK] at h
  | cons p r ih =>
   intro h
   unfold repK
   by_cases z : p.1 = k
   ·simp [z,getK]
   ·simp only [getK,z,if_false] at h ⊢
    exact ih h
 have a : ∀ l : List (Key × D),(getK k l).isSome = false->getK k (l ++ [(k,v)]) = some v:=by
  intro l
  induction l with
  | nil => intro _; simp [getK]
  | cons p r ih =>
   intro h
   by_cases z : p.1 = k
   ·simp [getK,z] at h
   ·simp only [List.cons_append,getK,z,if_false] at h ⊢
    exact ih h
 intro l
 unfold putL
 cases e : (getK k l).isSome with
 | true => rw [if_pos rfl]; exact r l e
 | false => rw [if_neg (by decide)]; exact a l e
theorem jU (x : Nat) (l : List Nat) : inF false (.int (x : Int)) (lM l) = some (.bl (l.any fun t => decide (t = x))):=by
 have h : ∀ ys : List Nat,flVs (ys.map iN) = some (ys.map fun (t : Nat) => V.int t):=fun ys => by
  induction ys with
  | nil => rfl
  | cons y r ih => simp [flVs,flV,ih]
 show ((flV (.int (x : Int))).bind fun v => (flVs (l.map iN)).map fun vs => D.bl (inV v vs)) = _
 rw [h]
 show some (D.bl (inV (.int (x : Int)) (l.map fun (t : Nat) => V.int t))) = _
 have e : ∀ t : Nat,eqV (.int (t : Int)) (.int (x : Int)) = decide (t = x):=fun t => by
  by_cases z : t = x
  ·subst z; simp [eqV]
  ·have : ¬ ((t : Int) = (x : Int)):=by omega
   simp [eqV,z,this]
 simp only [inV,List.any_map,Function.comp_def,e]
theorem fG (x y : Nat) (l : List (Nat × Nat)) : inF false (.tup [.int (x : Int),.int (y : Int)]) (lT l) = some (.bl (l.any fun q => decide (q.1 = x) && decide (q.2 = y))):=by
 have k : ∀ q : Nat × Nat,eqK 62 (pN q) (.tup [.int (x : Int),.int (y : Int)]) = some (decide (q.1 = x) && decide (q.2 = y)):=fun q => by
  have e : ∀ a b : Nat,eqK 61 (.int (a : Int)) (.int (b : Int)) = some (decide (a = b)):=fun a b => by
   show some (eqV (.int (a : Int)) (.int (b : Int))) = _
   by_cases z : a = b
   ·subst z; simp [eqV]
   ·have : ¬ ((a : Int) = (b : Int)):=by omega
    simp [eqV,z,this]
  show (if 2 = 2 then allO (eqK 61) [.int (q.1 : Int),.int (q.2 : Int)] [.int (x : Int),.int (y : Int)] else none) = _
  rw [if_pos rfl]
  simp only [allO,e]
  cases decide (q.1 = x) <;> cases decide (q.2 = y) <;> rfl
 have h1 : (l.map pN).all (knows (.tup [.int (x : Int),.int (y : Int)])) = true:=by
  rw [List.all_eq_true]
  intro d hd
  obtain ⟨q,_,rfl⟩:=List.mem_map.mp hd
  unfold knows
  rw [k q]
  rfl
 have h2 : (l.map pN).any (eqTo (.tup [.int (x : Int),.int (y : Int)])) = l.any fun q => decide (q.1 = x) && decide (q.2 = y):=by
  rw [List.any_map]
  congr 1
  funext q
  show eqTo _ (pN q) = _
  unfold eqTo
  rw [k q]
 show (if (l.map pN).all (knows (.tup [.int (x : Int),.int (y : Int)])) = true then some (D.bl ((l.map pN).any (eqTo (.tup [.int (x : Int),.int (y : Int)])))) else none) = _
 rw [if_pos h1,h2]
theorem kEe : eqD false (.str "either") (.str "either") = some (.bl true):=of_eq_true (eq_self _)
theorem kSn : eqD false (.str "some") (.str "not") = some (.bl false):=of_eq_true (eq_self _)
theorem kSb : eqD false (.str "some") (.str "both") = some (.bl false):=of_eq_true (eq_self _)
theorem kSe : eqD false (.str "some") (.str "either") = some (.bl false):=of_eq_true (eq_self _)
theorem kSa : eqD false (.str "some") (.str "all") = some (.bl false):=of_eq_true (eq_self _)
theorem kAn : eqD false (.str "all") (.str "not") = some (.bl false):=of_eq_true (eq_self _)
theorem kAb : eqD false (.str "all") (.str "both") = some (.bl false):=of_eq_true (eq_self _)
theorem kAe : eqD false (.str "all") (.str "either") = some (.bl false):=of_eq_true (eq_self _)
theorem kAa : eqD false (.str "all") (.str "all") = some (.bl true):=of_eq_true (eq_self _)
theorem lH : intD (.bl true) = some (.int 1):=rfl
theorem lJ : intD (.bl false) = some (.int 0):=rfl
theorem YS {α : Type} (f : α->D) (l : List (Str × α)) (w : Str) (v : α) (hw : w ∉ l.map (·.1)) (hl : l.length<=1000) : CG (.dk (l.map fun p => ((.inr p.1 : Key),f p.2))) (.str w) (f v) = some (.dk ((l ++ [(w,v)]).map fun p => ((.inr p.1 : Key),f p.2))):=by
 rw [Ij _ _ _ (by simp; omega),putL_new (JS f hw)]
 simp
def Gp (n : Nat) (h : List (Key × D)) (x : Str) : Prop:=∃ p : Nat,getK (.inr x : Key) h = some (.int (p : Int))/\(0 < n->p < n)
theorem O2 (n : Nat) (s1 : Slot) : ∀ (r : List Str) (h : List (Key × D)) (i : Int) (z : Slot),h.length + r.length<=100->Ints h ->
  ∃ h' s0 z',forF (tgB (BW 4) Et) (r.map .str) [.fz (.int i),s1,.fz (.int (n : Int)),.ow (.dk h),z] = some (.nx [s0,s1,.fz (.int (n : Int)),.ow (.dk h'),z'])/\Ints h'/\h'.length<=h.length + r.length/\(∀ x ∈ r,Gp n h' x)/\∀ x,x ∉ r->getK (.inr x : Key) h' = getK (.inr x) h
 | [],h,i,z,_,hi => ⟨h,.fz (.int i),z,by simp [HX],hi,by simp,by simp,fun _ _ => rfl⟩
 | y :: r,h,i,z,hl,hi => by
  rw [List.length_cons] at hl
  have mx : maxD (.int (n : Int)) (.int 1) = some (.int (if (1 : Int) > n then 1 else n)):=rfl
  obtain ⟨M,hM,hM0,hMn⟩ : ∃ M : Int,(if (1 : Int) > n then 1 else (n : Int)) = M/\0 < M/\(0 < n->M = n):=⟨_,rfl,by split <;> omega,fun h => by rw [if_neg (by omega)]⟩
  rw [hM] at mx
  have md:=Dg i M hM0
  obtain ⟨p,ep,lp⟩ : ∃ p : Nat,i % M = (p : Int)/\(0 < n->p < n):=by
   have h0:=Int.emod_nonneg i (show M ≠ 0 by omega)
   have h1:=Int.emod_lt_of_pos i hM0
   exact ⟨(i % M).toNat,by omega,fun h => by have:=hMn h; omega⟩
  rw [ep] at md
  have pk : CG (.dk h) (.str y) (.int (p : Int)) = some (.dk (putL (.inr y) (.int (p : Int)) h)):=Ij _ _ _ (by omega)
  have ll:=Uz (.inr y : Key) (.int (p : Int)) h
  obtain ⟨h',s0,z',e,i',l',g',o'⟩:=O2 n s1 r (putL (.inr y) (.int (p : Int)) h) (i / 7) (.fz (.str y)) (by omega) (eE hi _ _)
  refine ⟨h',s0,z',?_,i',by rw [List.length_cons]; omega,fun x hx => ?_,fun x hx => ?_⟩
  ·have b : Et [.fz (.int i),s1,.fz (.int (n : Int)),.ow (.dk h),.fz (.str y)] = some (.nx [.fz (.int (i / 7)),s1,.fz (.int (n : Int)),.ow (.dk (putL (.inr y) (.int (p : Int)) h)),.fz (.str y)]):=by
    simp only [ciK,Et,mx,md,J5,Hg,Cm,pk]
   rw [List.map_cons,Bl,e_tg,Dl,Fg]
   simp only [List.set_cons_zero,List.set_cons_succ]
   rw [b,DP,e]
  ·by_cases m : x ∈ r
   ·exact g' x m
   ·have xy : x = y:=by
     rcases List.mem_cons.mp hx with z | z
     ·exact z
     ·exact absurd z m
    subst xy
    exact ⟨p,by rw [o' x m,Rj],lp⟩
  ·have xy : ¬ x = y:=fun z => hx (by simp [z])
   rw [o' x fun z => hx (by simp [z]),NZ fun e => xy (by injection e)]
theorem ZS (i : Int) (n : Nat) (xs : List Str) (hx : xs.length<=6) : ∃ (g : List (Key × D)) (P : Str->Nat),Gr [.int i,.lst (xs.map .str),.int (n : Int)] = some (.dk g)/\Ints g/\g.length<=6/\∀ x ∈ xs,getK (.inr x : Key) g = some (.int (P x : Int))/\(0 < n->P x < n):=by
 obtain ⟨g,s0,z',e,ig,lg,gp,_⟩:=O2 n (.fz (.lst (xs.map .str))) xs [] i .un (by simp; omega) (by simp [Ints])
 refine ⟨g,fun x => match getK (.inr x : Key) g with | some (.int j) => j.toNat | _ => 0,?_,ig,by simp at lg; omega,fun x hx => ?_⟩
 ·simp only [cK,Gr,Ip,Ff,Dj,Gh,HH,e,K9,Ii,K8]
 ·obtain ⟨p,hp,lp⟩:=gp x hx
  simp only [hp,Int.toNat_natCast]
  exact ⟨trivial,lp⟩
theorem Rk : ∀ (more kds : List (Key × D)),((kds ++ more).map (·.1)).Nodup->J6 kds more = kds ++ more
 | [],kds,_ => by simp [J6]
 | p :: r,kds,nd => by
  have nt : p.1 ∉ kds.map (·.1):=by
   intro q
   rw [List.map_append,List.nodup_append] at nd
   exact nd.2.2 p.1 q p.1 (by simp) rfl
  show J6 (putL p.1 p.2 kds) r = _
  rw [putL_new nt,Rk r (kds ++ [(p.1,p.2)]) (by simpa using nd)]
  simp
theorem Rm (W : Wl) (hW : WOk W) : Ej [.dk (eM W.ms),.dk (eT W.ts)] = some (.dk (eM W.ms ++ eT W.ts)):=by
 have dc : Om (.dk (eM W.ms)) = some (.dk (eM W.ms)):=rfl
 have nd : ((eM W.ms ++ eT W.ts).map (·.1)).Nodup:=by
  have h:=hW.nd
  rw [List.map_append,eM,eT,List.map_map,List.map_map]
  have e1 : W.ms.map ((fun x => x.1) ∘ fun p => ((.inr p.1 : Key),lM p.2)) = (W.ms.map (·.1)).map Sum.inr:=by rw [List.map_map]; rfl
  have e2 : W.ts.map ((fun x => x.1) ∘ fun p => ((.inr p.1 : Key),lT p.2)) = (W.ts.map (·.1)).map Sum.inr:=by rw [List.map_map]; rfl
  rw [e1,e2,<-List.map_append,List.Nodup,List.pairwise_map]
  exact List.Pairwise.imp (fun hab e => hab (by injection e)) h
 have up : updL (.dk (eM W.ms)) (.dk (eT W.ts)) = some (.dk (eM W.ms ++ eT W.ts)):=by
  have h1:=hW.m3
  have h2:=hW.t3
  show (if _ then _ else _) = _
  rw [if_pos (by simp [eM,eT]; omega),Rk _ _ nd]
 simp only [cK,Ej,Im,Ff,Dj,dc,Mg,JX,Cm,up,K9,Ii,K8]
def mk2 (W2 : Wl) (w : Str) : List Nat:=((W2.ms.find? (fun p => p.1 = w)).map (·.2)).getD []
def dg (n : Nat) : List (Nat × Nat):=(List.range n).map fun t => (t,t)
def tk2 (W2 : Wl) (w : Str) : List (Nat × Nat):=((W2.ts.find? (fun p => p.1 = w)).map (·.2)).getD (dg W2.n)
def snd2 (W W2 : Wl) : Wl:=⟨W2.n,W.ms.map fun q => (q.1,mk2 W2 q.1),W.ts.map fun q => (q.1,tk2 W2 q.1)⟩
theorem YT (W W2 : Wl) : (snd2 W W2).ms.map (·.1) = W.ms.map (·.1):=by unfold snd2; rw [List.map_map]; rfl
theorem YW (W W2 : Wl) : (snd2 W W2).ts.map (·.1) = W.ts.map (·.1):=by unfold snd2; rw [List.map_map]; rfl
theorem jV {W W2 : Wl} (hW : WOk W) (h2 : WOk W2) : WOk (snd2 W W2):=by
 refine ⟨h2.n5,by simpa [snd2] using hW.m3,by simpa [snd2] using hW.t3,fun q hq => ?_,fun q hq => ?_,?_,fun q hq => ?_,fun q hq => ?_⟩
 ·obtain ⟨u,hu,rfl⟩:=List.mem_map.mp hq
  exact hW.mw u hu
 ·obtain ⟨u,hu,rfl⟩:=List.mem_map.mp hq
  exact hW.tw u hu
 ·rw [YT,YW]; exact hW.nd
 ·obtain ⟨u,hu,rfl⟩:=List.mem_map.mp hq
  show (mk2 W2 u.1).Nodup/\(mk2 W2 u.1).length<=100/\∀ t ∈ mk2 W2 u.1,t < W2.n
  unfold mk2
  cases e : W2.ms.find? (fun p => p.1 = u.1) with
  | none => simp
  | some v => exact h2.ml v (List.mem_of_find?_eq_some e)
 ·obtain ⟨u,hu,rfl⟩:=List.mem_map.mp hq
  show (tk2 W2 u.1).Nodup/\(tk2 W2 u.1).length<=100/\∀ t ∈ tk2 W2 u.1,t.1 < W2.n/\t.2 < W2.n
  unfold tk2
  cases e : W2.ts.find? (fun p => p.1 = u.1) with
  | none =>
   have n5:=h2.n5
   refine ⟨?_,by simp [dg]; omega,fun t ht => ?_⟩
   ·show ((List.range W2.n).map fun t => (t,t)).Nodup
    rw [List.Nodup,List.pairwise_map]
    exact List.Pairwise.imp (fun hab e => hab (Prod.mk.inj e).1) List.nodup_range
   ·obtain ⟨k,hk,rfl⟩:=List.mem_map.mp ht
    have:=List.mem_range.mp hk
    exact ⟨this,this⟩
  | some v => exact h2.tl v (List.mem_of_find?_eq_some e)
theorem Rn (W W2 : Wl) (hW : WOk W) (s0 s1 s2 s3 s4 s6 s9 : Slot) : ∀ (r o : List (Str × List Nat)) (z : Slot),o ++ r = W.ms ->
  ∃ z',forF (tgB (BW 8) Ep) (r.map fun q => .str q.1) [s0,s1,s2,s3,s4,.fz (.dk (eM W2.ms)),s6,.ow (.dk (eM (o.map fun q => (q.1,mk2 W2 q.1)))),z,s9] = some (.nx [s0,s1,s2,s3,s4,.fz (.dk (eM W2.ms)),s6,.ow (.dk (eM (snd2 W W2).ms)),z',s9])
 | [],o,z,e => ⟨z,by rw [List.append_nil] at e; subst e; rfl⟩
 | q :: r,o,z,e => by
  have nd:=(List.nodup_append.mp hW.nd).1
  rw [<-e,List.map_append,List.nodup_append] at nd
  have nt : q.1 ∉ (o.map fun q => (q.1,mk2 W2 q.1)).map (·.1):=by
   intro m
   rw [List.map_map] at m
   obtain ⟨u,hu,eu⟩:=List.mem_map.mp m
   exact nd.2.2 u.1 (List.mem_map.mpr ⟨u,hu,rfl⟩) q.1 (by simp) eu
  have gv : (getK (.inr q.1 : Key) (eM W2.ms)).getD (.lst []) = lM (mk2 W2 q.1):=by
   show (getK _ (W2.ms.map fun p => _)).getD _ = _
   rw [Ju lM q.1 W2.ms,mk2]
   cases W2.ms.find? (fun p => p.1 = q.1) <;> rfl
  have pl : (o.map fun q => (q.1,mk2 W2 q.1)).length<=1000:=by
   have:=hW.m3
   rw [<-e,List.length_append] at this
   rw [List.length_map]; omega
  have pk : CG (.dk (eM (o.map fun q => (q.1,mk2 W2 q.1)))) (.str q.1) (lM (mk2 W2 q.1)) = some (.dk (eM ((o ++ [q]).map fun q => (q.1,mk2 W2 q.1)))):=by
   rw [List.map_append]
   exact YS lM _ q.1 (mk2 W2 q.1) nt pl
  have b : Ep [s0,s1,s2,s3,s4,.fz (.dk (eM W2.ms)),s6,.ow (.dk (eM (o.map fun q => (q.1,mk2 W2 q.1)))),.fz (.str q.1),s9] = some (.nx [s0,s1,s2,s3,s4,.fz (.dk (eM W2.ms)),s6,.ow (.dk (eM ((o ++ [q]).map fun q => (q.1,mk2 W2 q.1)))),.fz (.str q.1),s9]):=by
   simp only [cK,Ep,dI,X5,gv,J5,Hg,Cm,pk]
  obtain ⟨z',ih⟩:=Rn W W2 hW s0 s1 s2 s3 s4 s6 s9 r (o ++ [q]) (.fz (.str q.1)) (by rw [List.append_assoc]; exact e)
  refine ⟨z',?_⟩
  rw [List.map_cons,Bl,e_tg,Dl,Fg]
  simp only [List.set_cons_zero,List.set_cons_succ]
  rw [b,DP,ih]
theorem U8 (W W2 : Wl) (hW : WOk W) (h5 : W2.n<=5) (s0 s1 s2 s3 s5 s7 : Slot) : ∀ (r o : List (Str × List (Nat × Nat))) (z : Slot),o ++ r = W.ts ->
  ∃ z',forF (tgB (BW 8) Er) (r.map fun q => .str q.1) [s0,s1,s2,s3,.fz (.int (W2.n : Int)),s5,.fz (.dk (eT W2.ts)),s7,z,.ow (.dk (eT (o.map fun q => (q.1,tk2 W2 q.1))))] = some (.nx [s0,s1,s2,s3,.fz (.int (W2.n : Int)),s5,.fz (.dk (eT W2.ts)),s7,z',.ow (.dk (eT (snd2 W W2).ts))])
 | [],o,z,e => ⟨z,by rw [List.append_nil] at e; subst e; rfl⟩
 | q :: r,o,z,e => by
  have nd:=(List.nodup_append.mp hW.nd).2.1
  rw [<-e,List.map_append,List.nodup_append] at nd
  have nt : q.1 ∉ (o.map fun q => (q.1,tk2 W2 q.1)).map (·.1):=by
   intro m
   rw [List.map_map] at m
   obtain ⟨u,hu,eu⟩:=List.mem_map.mp m
   exact nd.2.2 u.1 (List.mem_map.mpr ⟨u,hu,rfl⟩) q.1 (by simp) eu
  have cm (z9 : Slot) : Av (rngI (vF 4)) allT G8 [s0,s1,s2,s3,.fz (.int (W2.n : Int)),s5,.fz (.dk (eT W2.ts)),s7,.fz (.str q.1),z9] = some (lT (dg W2.n)):=by
   show _ = some (D.lst (((List.range W2.n).map fun t => (t,t)).map pN))
   rw [List.map_map]
   exact JT _ _ (Ka W2.n h5 _ 4 rfl) (by omega) fun k hk => by simp only [cK,G8,Function.comp_apply]
  have gv : (getK (.inr q.1 : Key) (eT W2.ts)).getD (lT (dg W2.n)) = lT (tk2 W2 q.1):=by
   show (getK _ (W2.ts.map fun p => _)).getD _ = _
   rw [Ju lT q.1 W2.ts,tk2]
   cases W2.ts.find? (fun p => p.1 = q.1) <;> rfl
  have pl : (o.map fun q => (q.1,tk2 W2 q.1)).length<=1000:=by
   have:=hW.t3
   rw [<-e,List.length_append] at this
   rw [List.length_map]; omega
  have pk : CG (.dk (eT (o.map fun q => (q.1,tk2 W2 q.1)))) (.str q.1) (lT (tk2 W2 q.1)) = some (.dk (eT ((o ++ [q]).map fun q => (q.1,tk2 W2 q.1)))):=by
   rw [List.map_append]
   exact YS lT _ q.1 (tk2 W2 q.1) nt pl
  have b : Er [s0,s1,s2,s3,.fz (.int (W2.n : Int)),s5,.fz (.dk (eT W2.ts)),s7,.fz (.str q.1),.ow (.dk (eT (o.map fun q => (q.1,tk2 W2 q.1))))] = some (.nx [s0,s1,s2,s3,.fz (.int (W2.n : Int)),s5,.fz (.dk (eT W2.ts)),s7,.fz (.str q.1),.ow (.dk (eT ((o ++ [q]).map fun q => (q.1,tk2 W2 q.1))))]):=by
   simp only [cK,Er,cm,dI,X5,gv,J5,Hg,Cm,pk]
  obtain ⟨z',ih⟩:=U8 W W2 hW h5 s0 s1 s2 s3 s5 s7 r (o ++ [q]) (.fz (.str q.1)) (by rw [List.append_assoc]; exact e)
  refine ⟨z',?_⟩
  rw [List.map_cons,Bl,e_tg,Dl,Fg]
  simp only [List.set_cons_zero,List.set_cons_succ]
  rw [b,DP,ih]
theorem ZV (ns : List Int) (W : Wl) (hW : WOk W) (ws : List Str) (i5 i6 : Int) (c5 : Ak [.lst (ns.map .int),.int 5] = some (.int i5)) (c6 : Ak [.lst (ns.map .int),.int 6] = some (.int i6)) (W2 : Wl) (h2 : WOk W2) (e2 : Bx [.int i5,.int i6,.lst (ws.map .str)] = some (.lst [.int (W2.n : Int),.dk (eM W2.ms),.dk (eT W2.ts)])) :
  Ei [.lst (ns.map .int),.lst (ws.map .str),.dk (eM W.ms),.dk (eT W.ts)] = some (.lst [.int ((snd2 W W2).n : Int),.dk (eM (snd2 W W2).ms),.dk (eT (snd2 W W2).ts)]):=by
 have g1 : Ai (Bx) (Ab (Ai (Ak) (Ab (vF 0) (Ab (kF (.int 5)) (nilA)))) (Ab (Ai (Ak) (Ab (vF 0) (Ab (kF (.int 6)) (nilA)))) (Ab (vF 1) (nilA)))) [.fz (.lst (ns.map .int)),.fz (.lst (ws.map .str)),.fz (.dk (eM W.ms)),.fz (.dk (eT W.ts)),.un,.un,.un,.un,.un,.un] = some (.lst [.int (W2.n : Int),.dk (eM W2.ms),.dk (eT W2.ts)]):=by
  simp only [cK,c5,c6,e2]
 have q:=asg3 _ _ _ _ 4 5 6 _ g1
 simp only [List.set_cons_zero,List.set_cons_succ] at q
 obtain ⟨y,f1⟩:=Rn W W2 hW (.fz (.lst (ns.map .int))) (.fz (.lst (ws.map .str))) (.fz (.dk (eM W.ms))) (.fz (.dk (eT W.ts))) (.fz (.int (W2.n : Int))) (.fz (.dk (eT W2.ts))) .un W.ms [] .un rfl
 obtain ⟨z,f2⟩:=U8 W W2 hW h2.n5 (.fz (.lst (ns.map .int))) (.fz (.lst (ws.map .str))) (.fz (.dk (eM W.ms))) (.fz (.dk (eT W.ts))) (.fz (.dk (eM W2.ms))) (.ow (.dk (eM (snd2 W W2).ms))) W.ts [] y rfl
 have k1 : Mv (some (.dk (eM W.ms))) = some (W.ms.map fun q => D.str q.1):=by rw [Kr,eM,List.map_map]; rfl
 have k2 : Mv (some (.dk (eT W.ts))) = some (W.ts.map fun q => D.str q.1):=by rw [Kr,eT,List.map_map]; rfl
 have e1 : D.dk [] = .dk (eM (([] : List (Str × List Nat)).map fun q => (q.1,mk2 W2 q.1))):=rfl
 have e2' : D.dk [] = .dk (eT (([] : List (Str × List (Nat × Nat))).map fun q => (q.1,tk2 W2 q.1))):=rfl
 rw [<-e1] at f1
 rw [<-e2'] at f2
 have en : ((snd2 W W2).n : Int) = (W2.n : Int):=rfl
 rw [en]
 simp only [cK,Ei,Il,q,Ff,Dj,Gh,k1,f1,k2,f2,K9,Ii,K8]
theorem ZW {k : Key} {a b : List (Key × D)} {v : D} (h : getK k a = some v) : getK k (a ++ b) = some v:=by
 induction a with
 | nil => simp [getK] at h
 | cons p r ih =>
  rw [List.cons_append]
  unfold getK at h ⊢
  by_cases e : p.1 = k
  ·rw [if_pos e] at h ⊢; exact h
  ·rw [if_neg e] at h ⊢; exact ih h
theorem WM {k : Key} {a b : List (Key × D)} (h : k ∉ a.map (·.1)) : getK k (a ++ b) = getK k b:=by
 induction a with
 | nil => rfl
 | cons p r ih =>
  have e : getK k (p :: r ++ b) = if p.1 = k then some p.2 else getK k (r ++ b):=by simp only [List.cons_append,getK]
  rw [e,if_neg (fun e => h (by simp [e])),ih fun q => h (by simp [q])]
theorem jW (W : Wl) (w : Str) (hw : w ∈ W.ms.map (·.1)) : ∃ q,W.ms.find? (fun p => p.1 = w) = some q/\ixE (.dk (eM W.ms ++ eT W.ts)) (.str w) = some (lM q.2):=by
 obtain ⟨q,hq,e⟩:=KY hw
 refine ⟨q,e,?_⟩
 show getK _ _ = _
 refine ZW ?_
 show getK _ (W.ms.map fun p => _) = _
 rw [Ju lM w W.ms,e]
 rfl
theorem o8 (W : Wl) (hW : WOk W) (w : Str) (hw : w ∈ W.ts.map (·.1)) : ∃ q,W.ts.find? (fun p => p.1 = w) = some q/\ixE (.dk (eM W.ms ++ eT W.ts)) (.str w) = some (lT q.2):=by
 obtain ⟨q,hq,e⟩:=KY hw
 refine ⟨q,e,?_⟩
 show getK _ _ = _
 rw [WM]
 ·show getK _ (W.ts.map fun p => _) = _
  rw [Ju lT w W.ts,e]
  rfl
 ·intro m
  rw [eM,List.map_map] at m
  obtain ⟨u,hu,eu⟩:=List.mem_map.mp m
  have eu' : u.1 = w:=by injection eu
  exact (List.nodup_append.mp hW.nd).2.2 u.1 (List.mem_map.mpr ⟨u,hu,rfl⟩) w hw eu'
theorem qU (W : Wl) (P : Str->Nat) (x y : Str) (l2 : P y < W.n) : holds W P (.sa x y) = decide ((P x : Int) = (P y : Int)):=by
 have e0 : holds W P (.sa x y) = (List.range W.n).any fun t => decide (t = P x) && decide (t = P y):=by
  show (((List.range W.n).map fun t => (t,t)).any fun q => decide (q.1 = P x) && decide (q.2 = P y)) = _
  rw [List.any_map]
  rfl
 rw [e0]
 by_cases z : P x = P y
 ·rw [z]
  have : ((List.range W.n).any fun t => decide (t = P y) && decide (t = P y)) = true:=by
   rw [List.any_eq_true]
   exact ⟨P y,List.mem_range.mpr l2,by simp⟩
  rw [this]
  simp
 ·have h1 : ((List.range W.n).any fun t => decide (t = P x) && decide (t = P y)) = false:=by
   rw [List.any_eq_false]
   intro t _ h
   simp at h
   exact z (h.1 ▸ h.2)
  have h2 : ¬ ((P x : Int) = (P y : Int)):=by omega
  rw [h1]
  simp [h2]
theorem qMs : eqD false (.str "mark") (.str "same") = some (.bl false):=of_eq_true (eq_self _)
theorem qMm : eqD false (.str "mark") (.str "mark") = some (.bl true):=of_eq_true (eq_self _)
theorem qTs : eqD false (.str "tie") (.str "same") = some (.bl false):=of_eq_true (eq_self _)
theorem qTm : eqD false (.str "tie") (.str "mark") = some (.bl false):=of_eq_true (eq_self _)
theorem qTt : eqD false (.str "tie") (.str "tie") = some (.bl true):=of_eq_true (eq_self _)
theorem qSs : eqD false (.str "same") (.str "same") = some (.bl true):=of_eq_true (eq_self _)
theorem qNs : eqD false (.str "not") (.str "same") = some (.bl false):=of_eq_true (eq_self _)
theorem qBs : eqD false (.str "both") (.str "same") = some (.bl false):=of_eq_true (eq_self _)
theorem qEs : eqD false (.str "either") (.str "same") = some (.bl false):=of_eq_true (eq_self _)
theorem qss : eqD false (.str "some") (.str "same") = some (.bl false):=of_eq_true (eq_self _)
theorem qas : eqD false (.str "all") (.str "same") = some (.bl false):=of_eq_true (eq_self _)
theorem sl1 (a b c : D) : slD (.tup [a,b,c]) (some 1) none = some (.tup [b,c]):=of_eq_true (eq_self _)
theorem Te (a b : D) (t : Bool) : ixE (.lst [a,b]) (.int (if t then 1 else 0)) = some (if t then b else a):=by
 cases t
 ·exact ix0 _ _
 ·exact ix1 _ _ _
theorem any2 (a b : Bool) : anyD (.lst [.bl a,.bl b]) = some (.bl (a || b)):=by cases a <;> cases b <;> rfl
theorem all2 (a b : Bool) : allD (.lst [.bl a,.bl b]) = some (.bl (a && b)):=by cases a <;> cases b <;> rfl
theorem Nb (W : Wl) (hW : WOk W) : ∀ (s : Sy) (n : Nat) (g : List (Key × D)) (P : Str->Nat),hgt s<=n->KnS W s->(∀ x ∈ fr s,Pl W.n g P x)->g.length + dpt s<=100 ->
  Aw n [.int (W.n : Int),.dk (eM W.ms ++ eT W.ts),encS s,.dk g] = some (.bl (tru W P s))
 | .fa (.mk w x),n,g,P,h,hk,hp,hl => by
  obtain ⟨n,rfl⟩ : ∃ m,n = m + 1:=⟨n - 1,by simp [hgt] at h; omega⟩
  obtain ⟨q,e,ew⟩:=jW W w hk
  obtain ⟨p1,_⟩:=hp x (by simp [fr,nms])
  have ii:=jU (P x) q.2
  have eh : tru W P (.fa (.mk w x)) = q.2.any fun t => decide (t = P x):=by
   show ((prs W (.mk w x)).any fun q => decide (q.1 = P x) && decide (q.2 = P x)) = _
   rw [show prs W (.mk w x) = q.2.map (fun t => (t,t)) from by simp only [prs,e,Option.map_some,Option.getD_some],List.any_map]
   congr 1
   funext t
   show (decide (t = P x) && decide (t = P x)) = _
   cases decide (t = P x) <;> rfl
  rw [eh]
  simp only [cK,encS,enc,Aw,DG,Fq,HF,qMs,qMm,p1,ew,ii]
  first | done | (simp only [HF] at ew; simp only [cK,ew,ii])
 | .fa (.ti w x y),n,g,P,h,hk,hp,hl => by
  obtain ⟨n,rfl⟩ : ∃ m,n = m + 1:=⟨n - 1,by simp [hgt] at h; omega⟩
  obtain ⟨q,e,ew⟩:=o8 W hW w hk
  obtain ⟨p1,_⟩:=hp x (by simp [fr,nms])
  obtain ⟨p2,_⟩:=hp y (by simp [fr,nms])
  have ii:=fG (P x) (P y) q.2
  have eh : tru W P (.fa (.ti w x y)) = q.2.any fun r => decide (r.1 = P x) && decide (r.2 = P y):=by
   show ((prs W (.ti w x y)).any fun q => decide (q.1 = P x) && decide (q.2 = P y)) = _
   rw [show prs W (.ti w x y) = q.2 from by simp only [prs,e,Option.map_some,Option.getD_some]]
  rw [eh]
  simp only [HF] at ew
  simp only [cK,encS,enc,Aw,DG,Fq,HF,qTs,qTm,qTt,p1,p2,ew,ii]
 | .fa (.sa x y),n,g,P,h,hk,hp,hl => by
  obtain ⟨n,rfl⟩ : ∃ m,n = m + 1:=⟨n - 1,by simp [hgt] at h; omega⟩
  obtain ⟨p1,_⟩:=hp x (by simp [fr,nms])
  obtain ⟨p2,l2⟩:=hp y (by simp [fr,nms])
  show Aw (n + 1) [_,_,encS (.fa (.sa x y)),_] = some (.bl (holds W P (.sa x y)))
  rw [qU W P x y l2]
  simp only [cK,encS,enc,Aw,DG,Fq,HF,qSs,p1,p2,Tp]
 | .no s,n,g,P,h,hk,hp,hl => by
  obtain ⟨n,rfl⟩ : ∃ m,n = m + 1:=⟨n - 1,by simp [hgt] at h; omega⟩
  have i1:=Nb W hW s n g P (by simp [hgt] at h; omega) hk hp hl
  simp only [cK,encS,tru,Aw,DG,Fq,qNs,gmN,gtN,kNn,i1]
 | .bo b s t,n,g,P,h,hk,hp,hl => by
  obtain ⟨n,rfl⟩ : ∃ m,n = m + 1:=⟨n - 1,by simp [hgt] at h; omega⟩
  simp only [hgt,dpt] at h hl
  have i1:=Nb W hW s n g P (by omega) hk.1 (fun x q => hp x (List.mem_append_left _ q)) (by omega)
  have i2:=Nb W hW t n g P (by omega) hk.2 (fun x q => hp x (List.mem_append_right _ q)) (by omega)
  have cm (st : Str) (z4 z5 z6 z7 : Slot) : Av (seqA (slF (vF 2) (someO (kF (.int 1))) (noO))) allT (Ir (Aw n)) [.fz (.int (W.n : Int)),.fz (.dk (eM W.ms ++ eT W.ts)),.fz (.tup [.str st,encS s,encS t]),.fz (.dk g),z4,z5,z6,z7] = some (.lst [.bl (tru W P s),.bl (tru W P t)]):=by
   refine Fe (ds:=[encS s,encS t]) ?_ (by simp) ?_
   ·simp only [cK,Gh,sl1,S6]
   ·rw [CN,K5,CN,K5,Yr]
    simp only [cK,Ir,i1,i2]
    rfl
  have a2:=any2 (tru W P s) (tru W P t)
  have l2:=all2 (tru W P s) (tru W P t)
  have x0:=Te (.bl (tru W P s || tru W P t)) (.bl (tru W P s && tru W P t)) true
  have x1:=Te (.bl (tru W P s || tru W P t)) (.bl (tru W P s && tru W P t)) false
  simp only [if_true,Bool.false_eq_true,if_false] at x0 x1
  cases b <;> simp only [cK,encS,tru,if_true,Bool.false_eq_true,if_false,Aw,DG,Fq,qBs,gmB,gtB,kBn,kBb,qEs,gmE,gtE,kEn,kEb,kEe,Ff,Dj,cm,a2,l2,lH,lJ,x0,x1]
 | .qu b x s,n,g,P,h,hk,hp,hl => by
  obtain ⟨n,rfl⟩ : ∃ m,n = m + 1:=⟨n - 1,by simp [hgt] at h; omega⟩
  simp only [hgt,dpt] at h hl
  have h5:=hW.n5
  have so (k : Nat) (hkn : k < W.n) : Aw n [.int (W.n : Int),.dk (eM W.ms ++ eT W.ts),encS s,.dk (putL (.inr x) (.int (k : Int)) g)] = some (.bl (tru W (upd P x k) s)):=by
   refine Nb W hW s n _ (upd P x k) (by omega) hk (fun y hy => ?_) (by have:=Uz (.inr x : Key) (.int (k : Int)) g; omega)
   by_cases z : y = x
   ·subst z
    exact ⟨by rw [Rj]; simp [upd],by simp [upd,hkn]⟩
   ·obtain ⟨p1,p2⟩:=hp y (List.mem_filter.mpr ⟨hy,by simpa using z⟩)
    refine ⟨?_,?_⟩
    ·rw [NZ (fun e => z (by injection e)),p1]
     simp [upd,z]
    ·simpa [upd,z] using p2
  have lo (st : Str) : ∃ z6 z7,forF (tgB (BW 6) (Gv (Aw n))) (rngD W.n) [.fz (.int (W.n : Int)),.fz (.dk (eM W.ms ++ eT W.ts)),.fz (.tup [.str st,.str x,encS s]),.fz (.dk g),.fz (.str st),.ow (.lst []),.un,.un] = some (.nx [.fz (.int (W.n : Int)),.fz (.dk (eM W.ms ++ eT W.ts)),.fz (.tup [.str st,.str x,encS s]),.fz (.dk g),.fz (.str st),.ow (.lst ((List.range W.n).map fun k => .bl (tru W (upd P x k) s))),z6,z7]):=by
   obtain ⟨ρ',ef,z6,z7,rfl⟩:=JB (b:=tgB (BW 6) (Gv (Aw n))) (ds:=rngD W.n) (ρ:=[.fz (.int (W.n : Int)),.fz (.dk (eM W.ms ++ eT W.ts)),.fz (.tup [.str st,.str x,encS s]),.fz (.dk g),.fz (.str st),.ow (.lst []),.un,.un])
    (P:=fun i ρ => ∃ z6 z7,ρ = [.fz (.int (W.n : Int)),.fz (.dk (eM W.ms ++ eT W.ts)),.fz (.tup [.str st,.str x,encS s]),.fz (.dk g),.fz (.str st),.ow (.lst ((List.range i).map fun k => .bl (tru W (upd P x k) s))),z6,z7]) 0 ⟨_,_,rfl⟩ (by
     rintro i d ρ hd ⟨z6,z7,rfl⟩
     rw [Nat.zero_add]
     have hi : i < W.n:=by
      have:=(List.getElem?_eq_some_iff.mp hd).1
      rwa [Bs] at this
     have ed : d = .int (i : Int):=by
      unfold rngD at hd
      rw [List.getElem?_map,List.getElem?_range hi] at hd
      exact (Option.some.inj hd).symm
     subst ed
     have dc : Om (.dk g) = some (.dk g):=rfl
     have pk : CG (.dk g) (.str x) (.int (i : Int)) = some (.dk (putL (.inr x) (.int (i : Int)) g)):=Ij _ _ _ (by omega)
     have ap:=lG ((List.range i).map fun k => D.bl (tru W (upd P x k) s)) (.bl (tru W (upd P x i) s)) (by simp; omega)
     have ra : ((List.range i).map fun k => D.bl (tru W (upd P x k) s)) ++ [.bl (tru W (upd P x i) s)] = (List.range (i + 1)).map fun k => D.bl (tru W (upd P x k) s):=by rw [List.range_succ,List.map_append]; rfl
     rw [ra] at ap
     have sk:=so i hi
     refine ⟨_,?_,.fz (.int (i : Int)),.fz (.dk (putL (.inr x) (.int (i : Int)) g)),rfl⟩
     rw [e_tg,Dl,Fg]
     simp only [cK,Gv,Fq,Ff,Dj,dc,J5,Hg,Cm,pk,RD,K9,Ii,K8,sk,ap])
   rw [Bs,Nat.zero_add] at ef
   exact ⟨z6,z7,ef⟩
  have rg:=Ka W.n h5
  have an:=oO (fun k => tru W (upd P x k) s) (List.range W.n)
  have al:=oR (fun k => tru W (upd P x k) s) (List.range W.n)
  have x0:=Te (.bl ((List.range W.n).any fun k => tru W (upd P x k) s)) (.bl ((List.range W.n).all fun k => tru W (upd P x k) s)) true
  have x1:=Te (.bl ((List.range W.n).any fun k => tru W (upd P x k) s)) (.bl ((List.range W.n).all fun k => tru W (upd P x k) s)) false
  simp only [if_true,Bool.false_eq_true,if_false] at x0 x1
  have r0:=Gb (W.n : Int) (by omega)
  rw [Int.toNat_natCast] at r0
  obtain ⟨y6,y7,l1⟩:=lo "some"
  obtain ⟨w6,w7,l2⟩:=lo "all"
  cases b <;> simp only [cK,encS,tru,if_true,Bool.false_eq_true,if_false,Aw,DG,Fq,qss,gmS,gtS,kSn,kSb,kSe,kSa,qas,gmA,gtA,kAn,kAb,kAe,kAa,Ff,Dj,r0,l1,l2,an,al,lH,lJ,x0,x1]
theorem eqBB (b : Bool) : eqD false (.bl b) (.bl b) = some (.bl true):=by cases b <;> rfl
theorem U9 (W : Wl) (hW : WOk W) (ns : List Str) (hn : ns.length<=6) (g : List (Key × D)) (lg : g.length<=6) (P : Str->Nat) (s : Sy) (h : Ask W ns g P 60 s) : Ci [wob W,.int (W.n : Int),.dk (eM W.ms ++ eT W.ts),encS s,.dk g] = some (.bl true):=by
 have a1:=h.so hW hn (by decide)
 have a2:=Nb W hW s 60 g P h.hh h.kn h.fr (by have:=h.dp; omega)
 have e:=eqBB (tru W P s)
 have ib:=isb (tru W P s)
 simp only [cK,Ci,Jo,a1,ib,a2,e]
theorem Qm {W W2 : Wl} : ∀ (s : Sy),KnS W s->KnS (snd2 W W2) s
 | .fa a,h => by
  cases a with
  | mk w x => show w ∈ (snd2 W W2).ms.map (·.1); rw [YT]; exact h
  | ti w x y => show w ∈ (snd2 W W2).ts.map (·.1); rw [YW]; exact h
  | sa x y => trivial
 | .no s,h => Qm s h
 | .bo _ s t,h => ⟨Qm s h.1,Qm t h.2⟩
 | .qu _ _ s,h => Qm s h
theorem eqN0 (n : Nat) : eqF false (.int (n : Int)) (.int 0) = some (.bl (decide ((n : Int) = 0))):=of_eq_true (eq_self _)
theorem qW (l : List (Key × D)) (h : Ints l) : eqF false (.dk l) (.dk l) = some (.bl true):=by
 show (dkEq l l).map _ = _
 rw [ZJ h]
 rfl
theorem jX (a b : Nat) : minD (.int (a : Int)) (.int (b : Int)) = some (.int ((min a b : Nat) : Int)):=by
 show some (D.int (if (b : Int) < a then (b : Int) else a)) = _
 congr 2
 split <;> omega
theorem fH (ns : List Int) (hl : ns.length<=63) (hb : ∀ i ∈ ns,Builtin.Int.intBits i<=1048576) : QJ [.lst (ns.map .int)] = some (.bl true):=by
 obtain ⟨i0,c0,_⟩:=cell_in ns 0
 obtain ⟨i1,c1,_⟩:=cell_in ns 1
 obtain ⟨i2,c2,b2'⟩:=cell_in ns 2
 obtain ⟨i3,c3,_⟩:=cell_in ns 3
 obtain ⟨i4,c4,_⟩:=cell_in ns 4
 obtain ⟨i5,c5,_⟩:=cell_in ns 5
 obtain ⟨i6,c6,b6'⟩:=cell_in ns 6
 have bits (i : Int) (h : i = 0 ∨ i ∈ ns) : Builtin.Int.intBits i<=1048576:=by
  rcases h with z | z
  ·subst z; decide
  ·exact hb i z
 obtain ⟨ws,ew,lw,hws,ndw⟩:=dZ i0
 obtain ⟨xs,en,l2,l6⟩:=dh i3
 have hne : xs ≠ []:=by intro z; simp [z] at l2
 obtain ⟨W,eW,hW⟩:=Uy i1 i2 (bits i2 b2') ws lw hws ndw
 obtain ⟨W2,eW2,hW2⟩:=Uy i5 i6 (bits i6 b6') ws lw hws ndw
 have e2:=ZV ns W hW ws i5 i6 c5 c6 W2 hW2 eW2
 have hS:=jV hW hW2
 obtain ⟨S,hSd⟩ : ∃ S,S = snd2 W W2:=⟨_,rfl⟩
 rw [<-hSd] at e2 hS
 have kn : ∀ s,KnS W s->KnS S s:=fun s h => by rw [hSd]; exact Qm s h
 obtain ⟨g,P,eg,ig,lg,hg⟩:=ZS i4 (min W.n S.n) xs l6
 have es : slD (.lst (ns.map .int)) (some 7) (some 47) = some (.lst ((cutD ns (some 7) (some 47)).map .int)):=congrArg (fun z => some (D.lst z)) (jQ D.int ns (some 7) (some 47))
 have lc : (cutD ns (some 7) (some 47)).length<=40:=by
  unfold cutD HT.sIx
  simp
  omega
 generalize cutD ns (some 7) (some 47) = r at es lc
 obtain ⟨s,e1,g1,h1⟩:=e_ W xs hne 3 r (by omega)
 have x3 : slD (.lst (xs.map .str)) none (some 3) = some (.lst ((xs.take 3).map .str)):=congrArg (fun z => some (D.lst z)) (dU D.str xs 3)
 have t3 : 2<=(xs.take 3).length/\(xs.take 3).length<=3:=by rw [List.length_take]; omega
 have tne : xs.take 3 ≠ []:=by intro z; rw [z] at t3; simp at t3
 obtain ⟨a,ea,na,wa⟩:=Tc (i4 % 1000) (W.ms.map (·.1)) (W.ts.map (·.1)) (xs.take 3) tne
 have hka : Kn W a:=by cases a <;> exact wa
 replace ea : Bt [.int (i4 % 1000),.lst ((W.ms.map (·.1)).map .str),.lst ((W.ts.map (·.1)).map .str),.lst ((xs.take 3).map .str)] = some (encS (.fa a)):=ea
 obtain ⟨f,ec⟩:=ZR (xs.take 3) t3.1 t3.2 (.fa a) i4
 have lM':=jR W.ms
 have lT':=jT W.ts
 replace c0 : Ak [.lst (ns.map .int),.int 0] = some (.int i0):=c0
 replace c1 : Ak [.lst (ns.map .int),.int 1] = some (.int i1):=c1
 replace c2 : Ak [.lst (ns.map .int),.int 2] = some (.int i2):=c2
 replace c3 : Ak [.lst (ns.map .int),.int 3] = some (.int i3):=c3
 replace c4 : Ak [.lst (ns.map .int),.int 4] = some (.int i4):=c4
 replace e1 : F_ [.lst (r.map .int),.lst ((W.ms.map (·.1)).map .str),.lst ((W.ts.map (·.1)).map .str),.lst (xs.map .str),.int 3] = some (sd s):=e1
 have g1' : Ai (Bx) (Ab (Ai (Ak) (Ab (vF 0) (Ab (kF (.int 1)) (nilA)))) (Ab (Ai (Ak) (Ab (vF 0) (Ab (kF (.int 2)) (nilA)))) (Ab (vF 1) (nilA)))) [.fz (.lst (ns.map .int)),.fz (.lst (ws.map .str)),.un,.un,.un,.un,.un,.un,.un,.un,.un,.un,.un,.un,.un,.un] = some (.lst [.int (W.n : Int),.dk (eM W.ms),.dk (eT W.ts)]):=by
  simp only [cK,c1,c2,eW]
 have q:=asg3 _ _ _ _ 2 3 4 _ g1'
 simp only [List.set_cons_zero,List.set_cons_succ] at q
 have g2' : Ai (Ei) (Ab (vF 0) (Ab (vF 1) (Ab (vF 3) (Ab (vF 4) (nilA))))) [.fz (.lst (ns.map .int)),.fz (.lst (ws.map .str)),.fz (.int (W.n : Int)),.fz (.dk (eM W.ms)),.fz (.dk (eT W.ts)),.fz (.lst (xs.map .str)),.fz (.int i4),.fz (encS s),.un,.un,.un,.un,.un,.un,.un,.un] = some (.lst [.int (S.n : Int),.dk (eM S.ms),.dk (eT S.ts)]):=by
  simp only [cK,e2]
 have q2:=asg3 _ _ _ _ 8 9 10 _ g2'
 simp only [List.set_cons_zero,List.set_cons_succ] at q2
 have tr1:=Rm W hW
 have tr2:=Rm S hS
 have mn:=jX W.n S.n
 have n1:=eqN0 W.n
 have n2:=eqN0 S.n
 have dc : Om (.dk g) = some (.dk g):=rfl
 have E:=qW g ig
 have mk1 (s7 s11 : Slot):=lC W hW (Ab (vF 2) (Ab (vF 3) (Ab (vF 4) (nilA)))) [.fz (.lst (ns.map .int)),.fz (.lst (ws.map .str)),.fz (.int (W.n : Int)),.fz (.dk (eM W.ms)),.fz (.dk (eT W.ts)),.fz (.lst (xs.map .str)),.fz (.int i4),s7,.fz (.int (S.n : Int)),.fz (.dk (eM S.ms)),.fz (.dk (eT S.ts)),s11,.un,.un,.un,.un] (by rfl)
 have mk2' (s7 s11 s12 : Slot):=lC S hS (Ab (vF 8) (Ab (vF 9) (Ab (vF 10) (nilA)))) [.fz (.lst (ns.map .int)),.fz (.lst (ws.map .str)),.fz (.int (W.n : Int)),.fz (.dk (eM W.ms)),.fz (.dk (eT W.ts)),.fz (.lst (xs.map .str)),.fz (.int i4),s7,.fz (.int (S.n : Int)),.fz (.dk (eM S.ms)),.fz (.dk (eT S.ts)),s11,s12,.un,.un,.un] (by rfl)
 have fin (u : Sy) (hu : ∀ V : Wl,(∀ s,KnS W s->KnS V s)->(V.n = W.n ∨ V.n = S.n)->∃ ys : List Str,ys.length<=6/\Ask V ys g P 60 u) : Ci [wob W,.int (W.n : Int),.dk (eM W.ms ++ eT W.ts),encS u,.dk g] = some (.bl true)/\Ci [wob S,.int (S.n : Int),.dk (eM S.ms ++ eT S.ts),encS u,.dk g] = some (.bl true):=by
  obtain ⟨y1,z1,k1⟩:=hu W (fun _ h => h) (.inl rfl)
  obtain ⟨y2,z2,k2⟩:=hu S kn (.inr rfl)
  exact ⟨U9 W hW y1 z1 g lg P u k1,U9 S hS y2 z2 g lg P u k2⟩
 by_cases hz : W.n = 0 ∨ S.n = 0
 ·obtain ⟨A1,A2⟩:=fin (clo f 0 (xs.take 3) (.fa a)) fun V hV _ => ⟨xs.take 3,by omega,hV _ (fB W f _ 0 _ hka),fC _ f _ 0 _ na,by rw [YQ]; simp only [hgt]; omega,by rw [YM]; simp only [dpt]; omega,fun y hy => by
   obtain ⟨z1,z2⟩:=fD f _ 0 _ y hy
   exact absurd (na y z1) z2⟩
  by_cases h0 : W.n = 0
  ·rw [decide_eq_true (show (W.n : Int) = 0 by omega)] at n1
   simp only [ciK,QJ,Ul,c0,ew,q,c3,en,c4,es,lM',lT',e1,sd0,q2,n1,x3,ea,ec,tr1,mk1,mk2',mn,eg,dc,A1,tr2,A2,E]
  ·rw [decide_eq_false (show ¬ (W.n : Int) = 0 by omega)] at n1
   rw [decide_eq_true (show (S.n : Int) = 0 by omega)] at n2
   simp only [ciK,QJ,Ul,c0,ew,q,c3,en,c4,es,lM',lT',e1,sd0,q2,n1,n2,x3,ea,ec,tr1,mk1,mk2',mn,eg,dc,A1,tr2,A2,E]
 ·rw [decide_eq_false (show ¬ (W.n : Int) = 0 by omega)] at n1
  rw [decide_eq_false (show ¬ (S.n : Int) = 0 by omega)] at n2
  obtain ⟨A1,A2⟩:=fin s fun V hV hVn => ⟨xs,l6,hV s g1.kn,g1.am,by omega,by have:=g1.dp; omega,fun v hv => ⟨(hg v (Ly s g1.am v hv)).1,by have:=(hg v (Ly s g1.am v hv)).2 (by omega); omega⟩⟩
  simp only [cK,QJ,Ul,c0,ew,q,c3,en,c4,es,lM',lT',e1,sd0,q2,n1,n2,tr1,mk1,mk2',mn,eg,dc,A1,tr2,A2,E]
end K17
end
open PySem PySem.W PyProof.Rows
theorem L2.both_map {α β γ : Type} {o : Option α} {f : α->β} {g : α->γ} {a : β} {b : γ} (h1 : o.map f = some a) (h2 : o.map g = some b) : o.map (fun s => (f s,g s)) = some (a,b):=by
 cases o with
 | none => cases h1
 | some x => cases h1; cases h2; rfl
theorem L2.head_at {r : OpenRow} {q : Program} {loose : List Str} {d : DefRec} {kwd : List (Str × Expr)} {N : Nat} (H : Hook)
  (l1 : ∀ w : World,(openEnds treeTable r.prog w N).map (fun s => openSeen q loose (importedModules r.prog.main.body) (fun s => xlAt q [] s && recOk r.records s) true s) = some (openGood q loose))
  (l2 : ∀ w : World,(openEnds treeTable r.prog w N).map H.obs = some (H.val w))
  (e1 : defOf q r.name = some (d,kwd)) (e2 : r.prog.theDef r.name = some (d.params,d.body,d.scope)) (e3 : kwWritten? d.params.kwonlyargs d.params.kw_defaults = some kwd)
  (e4 : (!r.writes || r.records.isEmpty) = true) (e5 : r.wellSaid = true) (e6 : (chainsOk q && opensWell r.prog && (frees r.toRowW && r.within.isEmpty)) = true) (e7 : r.prog.bare) (e8 : r.toRowW.promised)
  (e9 : WalkO q loose (XL q []) H.says r.toRowW d kwd fun f vs => PySem.call f vs) : r.Holds:=
 holds_open (XP:=XL q []) (fun w => L2.both_map (l1 w) (l2 w)) H.of H.keeps (fun s e => xl_of s (Bool.and_eq_true_iff.mp e).1) XL.keeps e1 e2 e3 (fun _ e => recFacts_of (Bool.and_eq_true_iff.mp e).2) e4 e5 e6 e7 e8 e9
set_option maxRecDepth 100000 in
set_option maxHeartbeats 0 in
theorem PySem.Challenge.cw_twinrounds_k17_whole_is_so_holds : PySem.Challenge.rw_twinrounds_k17_whole_is_so.Holds := by
 w_on; o_law; refine L2.head_at (q:=K17.vw) (loose:=[Str.ofString "is_so"]) (N:=6400) K17.hook K17.look1 K17.look2 (by rfl) (by rfl) (by rfl) (by rfl) (by assumption) (by decide +kernel) ⟨rfl,rfl,rfl,rfl,rfl,by decide +kernel⟩ ?_ ?_
 ·w_witness2
 unfold K17.hook
 k_fill
 refine PV.cu (l:=PySem.Challenge.rw_twinrounds_k17_whole_is_so) (n:=63) (k:=125) (x := "_law_script") (CX:=fun _ => L2.CX0) (sp:=fun w => K17.lB _) rfl (by decide) rfl ⟨rfl,by decide,by decide⟩ (fun w h Y => PySem.W.kIn_of Y) ?F (fun _ _ a ns hl hbt _ hS => ⟨a,ns,rfl,hS,hl,hbt,fun _ => rfl⟩) fun _ _ _ _ _ z => z
 case F =>
  intro w mg fa h KX G hmg
  have TT : ∃ C_World : Addr,∃ T : K17.Tx (K17.gx (L2.KOf KX) C_World) mg,∀ (s : Shared) (u : Value),BindsTo s T.x_law.fd ⟨[u],[]⟩ [("_law_script",u)]:=by
   dsimp only [L2.KOf]
   refine' ⟨_,{ C_World:=_,gc_World:=PV.oN,cl_World:=(PV.cls KX ?pg_World ?hd_World ?po_World ?sa_World :),mC_World:=PySem.W.mg_of KX G ?aC_World,x__law_words:=(PV.dx KX G ?a0 ?l0 ?c0 ?k0 ?b0 :),x__law_world:=(PV.dx KX G ?a1 ?l1 ?c1 ?k1 ?b1 :),x__law_names:=(PV.dx KX G ?a2 ?l2 ?c2 ?k2 ?b2 :),x__law_cell:=(PV.dx KX G ?a3 ?l3 ?c3 ?k3 ?b3 :),x__law_second:=(PV.dx KX G ?a4 ?l4 ?c4 ?k4 ?b4 :),x__law_truths:=(PV.dx KX G ?a5 ?l5 ?c5 ?k5 ?b5 :),x_refuse_above:=(PV.dx KX G ?a6 ?l6 ?c6 ?k6 ?b6 :),x_refuse_no_thing:=(PV.dx KX G ?a7 ?l7 ?c7 ?k7 ?b7 :),x_kept_things:=(PV.dx KX G ?a8 ?l8 ?c8 ?k8 ?b8 :),x_kept_pairs:=(PV.dx KX G ?a9 ?l9 ?c9 ?k9 ?b9 :),x_is_word:=(PV.dx KX G ?a10 ?l10 ?c10 ?k10 ?b10 :),x_World___init__:=(PV.ix KX ?mk_World ?kc_World ?a11 ?i11 ?l11 ?c11 ?k11 ?b11 :),x__law_places:=(PV.dx KX G ?a12 ?l12 ?c12 ?k12 ?b12 :),x__law_atom:=(PV.dx KX G ?a13 ?l13 ?c13 ?k13 ?b13 :),x__law_built:=(PV.dx KX G ?a14 ?l14 ?c14 ?k14 ?b14 :),x__law_closed:=(PV.dx KX G ?a15 ?l15 ?c15 ?k15 ?b15 :),x_sayings_in:=(PV.dx KX G ?a16 ?l16 ?c16 ?k16 ?b16 :),x_names_in:=(PV.dx KX G ?a17 ?l17 ?c17 ?k17 ?b17 :),x_free_names:=(PV.dx KX G ?a18 ?l18 ?c18 ?k18 ?b18 :),x_refuse_unplaced:=(PV.dx KX G ?a19 ?l19 ?c19 ?k19 ?b19 :),x_refuse_strange_words:=(PV.dx KX G ?a20 ?l20 ?c20 ?k20 ?b20 :),x_pairs_of:=(PV.dx KX G ?a21 ?l21 ?c21 ?k21 ?b21 :),x_fact_cases:=(PV.dx KX G ?a22 ?l22 ?c22 ?k22 ?b22 :),x_repeated:=(PV.dx KX G ?a23 ?l23 ?c23 ?k23 ?b23 :),x_every_case:=(PV.dx KX G ?a24 ?l24 ?c24 ?k24 ?b24 :),x_widened:=(PV.dx KX G ?a25 ?l25 ?c25 ?k25 ?b25 :),x_bound_cases:=(PV.dx KX G ?a26 ?l26 ?c26 ?k26 ?b26 :),x_cases_so:=(PV.dx KX G ?a27 ?l27 ?c27 ?k27 ?b27 :),x_is_so:=(PV.dxD KX G ?a28 ?l28 ?c28 ?k28 ?b28 :),x__law_true:=(PV.dx KX G ?a29 ?l29 ?c29 ?k29 ?b29 :),x__law_asked:=(PV.dx KX G ?a30 ?l30 ?c30 ?k30 ?b30 :),x_law:=(PV.dx KX G ?a31 ?l31 ?c31 ?k31 ?b31 :),fl_size:=(PV.V4 KX (PV.cls KX ?pg_World ?hd_World ?po_World ?sa_World) ?n_World_size :),fl_marked:=(PV.V4 KX (PV.cls KX ?pg_World ?hd_World ?po_World ?sa_World) ?n_World_marked :),fl_tied:=(PV.V4 KX (PV.cls KX ?pg_World ?hd_World ?po_World ?sa_World) ?n_World_tied :),z_all:=PySem.W.mg_none_of KX G ?z_all,z_any:=PySem.W.mg_none_of KX G ?z_any,z_bool:=PySem.W.mg_none_of KX G ?z_bool,z_dict:=PySem.W.mg_none_of KX G ?z_dict,z_int:=PySem.W.mg_none_of KX G ?z_int,z_isinstance:=PySem.W.mg_none_of KX G ?z_isinstance,z_len:=PySem.W.mg_none_of KX G ?z_len,z_list:=PySem.W.mg_none_of KX G ?z_list,z_max:=PySem.W.mg_none_of KX G ?z_max,z_min:=PySem.W.mg_none_of KX G ?z_min,z_range:=PySem.W.mg_none_of KX G ?z_range,z_set:=PySem.W.mg_none_of KX G ?z_set,z_sorted:=PySem.W.mg_none_of KX G ?z_sorted,s_MOST_LETTERS:=(PV.sx (f:=(.int 8)) KX G ?a_MOST_LETTERS :),s_LETTERS:=(PV.sx (f:=(.str "abcdefghijklmnopqrstuvwxyz")) KX G ?a_LETTERS :),s_MOST_THINGS:=(PV.sx (f:=(.int 5)) KX G ?a_MOST_THINGS :),s_MOST_WORDS:=(PV.sx (f:=(.int 3)) KX G ?a_MOST_WORDS :),c_KEPT_TEXTS:=(PV.kx (xs:=["not", "and", "or", "some", "all"]) KX G ?a_KEPT_TEXTS ?l_KEPT_TEXTS ?h_KEPT_TEXTS ?v_KEPT_TEXTS :),c_FACTS:=(PV.kx (xs:=["mark", "tie", "same"]) KX G ?a_FACTS ?l_FACTS ?h_FACTS ?v_FACTS :),c_BINDERS:=(PV.kx (xs:=["some", "all"]) KX G ?a_BINDERS ?l_BINDERS ?h_BINDERS ?v_BINDERS :) },?bt⟩
   case aC_World | pg_World | hd_World | po_World | sa_World | mk_World | kc_World | n_World_size | n_World_marked | n_World_tied | a0 | l0 | c0 | k0 | a1 | l1 | c1 | k1 | a2 | l2 | c2 | k2 | a3 | l3 | c3 | k3 | a4 | l4 | c4 | k4 | a5 | l5 | c5 | k5 | a6 | l6 | c6 | k6 | a7 | l7 | c7 | k7 | a8 | l8 | c8 | k8 | a9 | l9 | c9 | k9 | a10 | l10 | c10 | k10 | a11 | i11 | l11 | c11 | k11 | a12 | l12 | c12 | k12 | a13 | l13 | c13 | k13 | a14 | l14 | c14 | k14 | a15 | l15 | c15 | k15 | a16 | l16 | c16 | k16 | a17 | l17 | c17 | k17 | a18 | l18 | c18 | k18 | a19 | l19 | c19 | k19 | a20 | l20 | c20 | k20 | a21 | l21 | c21 | k21 | a22 | l22 | c22 | k22 | a23 | l23 | c23 | k23 | a24 | l24 | c24 | k24 | a25 | l25 | c25 | k25 | a26 | l26 | c26 | k26 | a27 | l27 | c27 | k27 | a28 | l28 | c28 | k28 | a29 | l29 | c29 | k29 | a30 | l30 | c30 | k30 | a31 | l31 | c31 | k31 | z_all | z_any | z_bool | z_dict | z_int | z_isinstance | z_len | z_list | z_max | z_min | z_range | z_set | z_sorted | a_MOST_LETTERS | a_LETTERS | a_MOST_THINGS | a_MOST_WORDS | a_KEPT_TEXTS | l_KEPT_TEXTS | a_FACTS | l_FACTS | a_BINDERS | l_BINDERS => k_is
   case b0 | b2 | b10 | b16 | b17 | b18 | b24 | b31 => exact fun _ _ _ _ _ _ us hl => match us,hl with | [_],_ => rfl
   case b3 | b5 | b6 | b7 | b8 | b9 | b20 | b21 => exact fun _ _ _ _ _ _ us hl => match us,hl with | [_,_],_ => rfl
   case b1 | b12 | b15 | b19 | b22 | b23 => exact fun _ _ _ _ _ _ us hl => match us,hl with | [_,_,_],_ => rfl
   case b4 | b11 | b13 | b25 | b26 | b27 | b29 => exact fun _ _ _ _ _ _ us hl => match us,hl with | [_,_,_,_],_ => rfl
   case b14 | b30 => exact fun _ _ _ _ _ _ us hl => match us,hl with | [_,_,_,_,_],_ => rfl
   case b28 => exact fun s us hK hl => match us,hl with | [_,_,_],_ => BindsTo.of_defaults rfl (hK _ _ (show List.lookup _ _ = some ⟨.type "tuple",_,.seq #[.none] _,_⟩ by k_is)) rfl rfl rfl
   case h_KEPT_TEXTS => decide
   case v_KEPT_TEXTS => exact .cons ⟨_,rfl⟩ (.cons ⟨_,rfl⟩ (.cons ⟨_,rfl⟩ (.cons ⟨_,rfl⟩ (.cons ⟨_,rfl⟩ (.nil)))))
   case h_FACTS => decide
   case v_FACTS => exact .cons ⟨_,rfl⟩ (.cons ⟨_,rfl⟩ (.cons ⟨_,rfl⟩ (.nil)))
   case h_BINDERS => decide
   case v_BINDERS => exact .cons ⟨_,rfl⟩ (.cons ⟨_,rfl⟩ (.nil))
   case bt => exact fun s u => .of_eq rfl
  obtain ⟨C_World,T,e1⟩:=TT
  have e0 : fa = T.x_law.f:=by
   have q:=hmg.symm.trans T.x_law.m
   cases q
   rfl
  subst e0
  exact ⟨T.x_law.fd,e1,fun base kb nb => (K17.oU (w:=w) (base:=base) T).imp (K17.oV K17.fH)⟩
