import PyProof.Rows.All
import Wide.All
import OpenK.AllK
import Wide.FinOn
import Lean
import PyProof.EqAt
import PyProof.EqKinds
import PyProof.TupleCall
import PyProof.StationsW
import PyProof.DictWalks
import PyProof.DictItemsLoops
import KE.KPairComp
import KE.KDictList
import PyProof.StrWalks
import PyProof.ConsumeWalk
import PyProof.DictUpdate
import PyProof.ExcClass2
import PyProof.ExcClass3
import PyProof.ExcArgsOwn
import PyProof.ExcAttrAll.ValueError
import PyProof.InstStoreFacts
import PyProof.StrLawsRepr
import PyProof.ReprStr
import PyProof.NsDelKeeps
import PyProof.RulesAs
import KE.KIsAll
import PySem.Challenge.RW_twinrounds_k02_words
set_option Elab.async false
set_option linter.all false
set_option maxRecDepth 100000
set_option maxHeartbeats 4000000
section
open PySem PySem.W PyProof.Rows
def L2.viewAt (p : Program) (ks : List Nat) : Program := { p with main := { p.main with body := ks.filterMap fun i => p.main.body[i]? } }
def K02.vw : Program := L2.viewAt PySem.Challenge.pw_twinrounds_k02_words [1, 2, 3, 4, 5, 6, 7, 8, 10, 11, 12, 13, 14, 15, 16, 17, 18, 19, 20, 22, 23, 24, 25, 26, 27]
namespace L2T
def runG (st : SharedT → Thread → Option (SharedT × Thread)) (ok : Thread → Bool) : Nat → SharedT → Thread → Option SharedT
 | 0, _, _ => none
 | n + 1, s, t => match through t with
  | true => some s
  | false => match ok t with
   | false => none
   | true => match st s t with
    | some (s', t') => runG st ok n s' t'
    | none => none
theorem Q0 {tb : String → Option Builtin} {p : Program} {w : World} {n₀ : Nat} {ann : Option Value} : ∀ {n : Nat} {s s' : SharedT} {t : Thread}, runG (stepT (denote tb) p w) (stepOk n₀ ann) n s t = some s' → topRun tb p w n₀ ann n s.abs t = some s'.abs
 | 0, _, _, _, h => by cases h
 | n + 1, s, s', t, h => by
  unfold runG at h
  unfold topRun
  cases he : through t with
  | true => rw [he] at h; cases h; rfl
  | false =>
   rw [he] at h
   cases hk : stepOk n₀ ann t with
   | false => rw [hk] at h; cases h
   | true =>
    rw [hk] at h
    cases hs : stepT (denote tb) p w s t with
    | none => rw [hs] at h; cases h
    | some r => obtain ⟨s₂, t₂⟩ := r; rw [hs] at h; rw [stepT_spec hs]; exact Q0 h
def treeOf (l : List Obj) : BT := (l.foldl (fun (a : BT × Nat) o => (a.1.ins a.2 o, a.2 + 1)) (BT.nil, 0)).1
noncomputable abbrev boot (w : World) (os : OsState) : SharedT := ⟨treeOf (boot_heap w.params).objs.toList, 11, (boot_heap w.params).life, Array.mk [], boot_drawn, boot_toks, os⟩
set_option maxRecDepth 100000 in
set_option maxHeartbeats 0 in
theorem boot_abs (w : World) (os : OsState) : (boot w os).abs = ⟨boot_heap w.params, Array.mk [], boot_drawn, boot_toks, os⟩ := by kernel_rfl
set_option maxRecDepth 100000 in
set_option maxHeartbeats 0 in
theorem TX (w : World) : ((boot_heap w.params).isNs mainGlobals, (boot_heap w.params).objs.size) = (true, 11) := by kernel_rfl
noncomputable abbrev ann (w : World) : Option Value := (boot_heap w.params).nsMap mainGlobals "__annotations__"
noncomputable def fits (p : Program) (w : World) (s : Shared) : Bool := staticsOk (importedModules p.main.body) (boot_heap w.params) s.heap && namesBound p s.heap && gensDone s && laidKept (boot_heap w.params) s.heap
theorem left {p : Program} {N : Nat} {α : Type} {f : Shared → α} {good : World → α} (hb : opening p = plainProg p.main.scope.names) (hf : ∀ s, fenceModules? p s = some s) (hN : Nat.ble 600 N = true)
  (h : ∀ (w : World) (os : OsState), (runG (Fast.tw10156331382660048174 (Fast.tw11892475500146522536 Fast.tw14364793385576792824) p w) (Fast.tw6613529449190102663 11 (ann w)) N (boot w os) (topStub p)).map (fun s => (fits p w s.abs, f s.abs)) = some (true, good w)) (w : World) : (openEnds treeTable p w N).map f = some (good w) := by
 obtain ⟨⟨h0, gs, d, k, os⟩, e, e'⟩ := Option.map_eq_some_iff.mp (boot_open hb hN hf w)
 obtain ⟨rfl, rfl, rfl, rfl⟩ : h0 = boot_heap w.params ∧ gs = Array.mk [] ∧ d = boot_drawn ∧ k = boot_toks := by simpa using e'
 have h := h w os
 rw [← Fast.te10156331382660048174, ← Fast.te11892475500146522536, ← Fast.te14364793385576792824, ← Fast.te6613529449190102663] at h
 obtain ⟨s1, r, q⟩ := Option.map_eq_some_iff.mp h
 obtain ⟨q1, q2⟩ := Prod.mk.inj q
 have t := Q0 r
 rw [boot_abs] at t
 obtain ⟨b1, b2⟩ := Prod.mk.inj (TX w)
 have g : topFrom treeTable p w N ⟨boot_heap w.params, Array.mk [], boot_drawn, boot_toks, os⟩ = some s1.abs := by
  unfold topFrom
  dsimp only
  rw [b1, b2]
  show (topRun treeTable p w 11 (ann w) N _ (topStub p)).bind _ = _
  rw [t]
  show (match fits p w s1.abs with | true => some s1.abs | false => none) = _
  rw [q1]
 unfold openEnds
 rw [e]
 show (topFrom treeTable p w N _).map f = _
 rw [g]
 exact congrArg some q2
end L2T
section
local macro_rules | `(tactic| o_head $H) => `(tactic| exact ‹∀ P : Prop, P› _)
set_option maxRecDepth 100000 in
set_option maxHeartbeats 0 in
theorem K02.side (hole : ∀ P : Prop, P) : (PySem.Challenge.rw_twinrounds_k02_words.row).Holds := by
 k_head
end
def K02.as : List Addr := [2, 3, 15, 22, 23, 24, 25, 28, 35, 37, 38, 40, 41, 42, 43, 44, 47, 54, 56, 57, 59, 60, 61, 62, 63, 66, 73, 75, 76, 78, 79, 80, 81, 82, 85, 92, 94, 95, 97, 98, 99, 100, 101, 104, 111, 113, 114, 116, 117, 118, 119, 120, 123, 130, 131, 132, 135, 142, 143, 144, 147, 148, 151, 152, 153, 155, 156, 158, 159, 160, 162, 163, 165, 166, 167, 169, 170, 172, 173, 174, 176, 177, 179, 180, 188, 190, 191, 193, 194, 195, 197, 198, 200, 201, 202, 204, 205, 207, 208, 209, 211, 212, 214, 215, 216, 218, 219, 221, 222, 223, 224, 225, 226, 227, 230, 232, 233, 235, 236, 237, 239, 240, 242, 243, 244, 246, 247, 249, 250, 251, 253, 254, 256, 257, 258, 260, 261, 263, 264, 265, 267, 268, 270, 271]
set_option maxRecDepth 100000 in
set_option maxHeartbeats 0 in
theorem K02.as_ok : ∀ P, K02.as = (K02.side.heap_1 P).map (·.1) := fun _ => by kernel_rfl
noncomputable def K02.hook : Hook := kHook K02.side.heap_1 K02.as K02.as_ok
set_option maxRecDepth 100000 in
set_option maxHeartbeats 0 in
theorem K02.look : LeftO (PySem.Challenge.rw_twinrounds_k02_words.row).prog K02.vw [] (fun s => xlAt K02.vw [] s && recOk (PySem.Challenge.rw_twinrounds_k02_words.row).records s) K02.hook.obs K02.hook.val 6000 := by
 rw [show LeftO (PySem.Challenge.rw_twinrounds_k02_words.row).prog K02.vw [] (fun s => xlAt K02.vw [] s && recOk (PySem.Challenge.rw_twinrounds_k02_words.row).records s) K02.hook.obs K02.hook.val 6000 = ∀ w, (openEnds treeTable (PySem.Challenge.rw_twinrounds_k02_words.row).prog w 6000).map (fun s => (openSeen K02.vw [] (importedModules (PySem.Challenge.rw_twinrounds_k02_words.row).prog.main.body) (fun s => xlAt K02.vw [] s && recOk (PySem.Challenge.rw_twinrounds_k02_words.row).records s) true s, K02.hook.obs s)) = some (openGood K02.vw [], K02.hook.val w) from rfl, Fast.te4187177175401517315]
 exact L2T.left (by kernel_rfl) (fun _ => by kernel_rfl) rfl (fun w os => by kernel_rfl)
end
namespace L2
open PySem PySem.Spec PyProof.Rows
abbrev Key := Sum Int Str
def Kw : Key → Value → Bool
 | .inl k, v => Value.isInt k v
 | .inr x, v => Value.isStrOf x v
def keyH (w : World) : Key → Int
 | .inl k => hashInt k
 | .inr x => hashStr w x
theorem Bc : ∀ {k : Key} {v : Value}, Kw k v = true → (∃ i t, k = Sum.inl i ∧ v = Value.int i t) ∨ (∃ x t, k = Sum.inr x ∧ v = Value.str x t)
 | .inl i, v, h => by
  obtain ⟨t, e⟩ := Value.isInt_shape (k := i) (v := v) h
  exact .inl ⟨i, t, rfl, e⟩
 | .inr x, v, h => by
  obtain ⟨t, e⟩ := Value.isStrOf_shape (x := x) (v := v) h
  exact .inr ⟨x, t, rfl, e⟩
theorem TY (i : Int) (t : Tok) : Kw (.inl i) (.int i t) = true := by simp [Kw, Value.isInt]
theorem Tc (x : Str) (t : Tok) : Kw (.inr x) (.str x t) = true := by simp [Kw, Value.isStrOf]
theorem ZZ (a b : Int) : decide ((Sum.inl a : Key) = Sum.inl b) = (a == b) := by
 by_cases e : a = b
 ·subst e; simp
 ·have h : ¬ (Sum.inl a : Key) = Sum.inl b := fun q => e (Sum.inl.inj q)
  rw [decide_eq_false h]
  exact (beq_eq_false_iff_ne.mpr e).symm
theorem Za (a b : Str) : decide ((Sum.inr a : Key) = Sum.inr b) = decide (a = b) := by
 by_cases e : a = b
 ·subst e; simp
 ·have h : ¬ (Sum.inr a : Key) = Sum.inr b := fun q => e (Sum.inr.inj q)
  rw [decide_eq_false h, decide_eq_false e]
theorem Zb (a : Int) (b : Str) : decide ((Sum.inl a : Key) = Sum.inr b) = false := decide_eq_false (fun q => nomatch q)
theorem Zc (a : Str) (b : Int) : decide ((Sum.inr a : Key) = Sum.inl b) = false := decide_eq_false (fun q => nomatch q)
def A_ (prog : Program) (w : World) : PySem.KeyKind prog w Key where
 is := Kw
 hash := keyH w
 inj := fun v a b ha hb => by
  rcases Bc ha with ⟨i, t, rfl, rfl⟩ | ⟨x, t, rfl, rfl⟩
  ·rcases Bc hb with ⟨j, u, rfl, e⟩ | ⟨y, u, rfl, e⟩
   ·injection e with e1 _; rw [e1]
   ·exact nomatch e
  ·rcases Bc hb with ⟨j, u, rfl, e⟩ | ⟨y, u, rfl, e⟩
   ·exact nomatch e
   ·injection e with e1 _; rw [e1]
 byValue := fun k v h => by
  rcases Bc h with ⟨i, t, rfl, rfl⟩ | ⟨x, t, rfl, rfl⟩ <;> rfl
 pyHash := fun hv h => by
  rcases Bc hv with ⟨i, t, rfl, rfl⟩ | ⟨x, t, rfl, rfl⟩
  ·exact wpAny_pyHash_int h
  ·exact wpAny_pyHash_str h
 eqBool := fun hu hv h => by
  rcases Bc hu with ⟨i, t, rfl, rfl⟩ | ⟨x, t, rfl, rfl⟩
  ·rcases Bc hv with ⟨j, u, rfl, rfl⟩ | ⟨y, u, rfl, rfl⟩
   ·rw [ZZ] at h; exact wpAny_eqBool_int h
   ·rw [Zb] at h; exact SeqAt.EqAt.int_str i t y u _ _ _ _ h
  ·rcases Bc hv with ⟨j, u, rfl, rfl⟩ | ⟨y, u, rfl, rfl⟩
   ·rw [Zc] at h; exact SeqAt.EqAt.str_int x t j u _ _ _ _ h
   ·rw [Za] at h; exact wpAny_eqBool_str h
 «strs» := fun k x t v h => by
  rcases Bc h with ⟨i, u, rfl, e⟩ | ⟨y, u, rfl, e⟩
  ·exact nomatch e
  ·injection e with e1 _
   subst e1
   cases v <;> rfl
theorem Oq (prog : Program) (w : World) (i : Int) (t : Tok) : (A_ prog w).is (.inl i) (.int i t) = true := TY i t
theorem Ot (prog : Program) (w : World) (x : Str) (t : Tok) : (A_ prog w).is (.inr x) (.str x t) = true := Tc x t
end L2
namespace L2
open PySem PySem.Spec PyProof.Rows
inductive V where
 | non | bl (b : Bool) | int (i : Int) | str (x : Str) | byt (b : Array UInt8) | flt (b : UInt64) | ref (a : Addr) | ty (n : String)
 deriving DecidableEq
def RelV : V → Value → Prop
 | .non, u => u = Value.none
 | .bl b, u => u = Value.bool b
 | .int i, u => ∃ t, u = Value.int i t
 | .str x, u => ∃ t, u = Value.str x t
 | .byt b, u => ∃ t, u = Value.bytes b t
 | .flt b, u => ∃ t, u = Value.float b t
 | .ref a, u => u = Value.ref a
 | .ty n, u => u = Value.type n
abbrev Vals : List V → List Value → Prop := Paired RelV
theorem Vals.length {xs : List V} {us : List Value} (r : Vals xs us) : xs.length = us.length := Paired.length r
theorem Vals.get : ∀ {xs : List V} {us : List Value} {i : Nat} {x : V}, Vals xs us → xs[i]? = some x → ∃ u, us[i]? = some u ∧ RelV x u
 | _, _, _, _, .nil, e => by simp at e
 | _, _, 0, _, .cons r _, e => by simp at e; subst e; exact ⟨_, rfl, r⟩
 | _, _, i + 1, x, .cons _ t, e => by
  obtain ⟨u, h1, h2⟩ := Vals.get (i := i) (x := x) t (by simpa using e)
  exact ⟨u, by simpa using h1, h2⟩
theorem Vals.set {x : V} {u : Value} (r : RelV x u) : ∀ {xs : List V} {us : List Value} (i : Nat), Vals xs us → Vals (xs.set i x) (us.set i u)
 | _, _, _, .nil => .nil
 | _, _, 0, .cons _ t => .cons r t
 | _, _, i + 1, .cons q t => .cons q (Vals.set r i t)
theorem Vals.append : ∀ {xs ys : List V} {us ws : List Value}, Vals xs us → Vals ys ws → Vals (xs ++ ys) (us ++ ws)
 | _, _, _, _, .nil, s => s
 | _, _, _, _, .cons r t, s => .cons r (Vals.append t s)
theorem Vals.take : ∀ {xs : List V} {us : List Value} (n : Nat), Vals xs us → Vals (xs.take n) (us.take n)
 | _, _, 0, _ => .nil
 | _, _, _ + 1, .nil => .nil
 | _, _, n + 1, .cons r t => .cons r (Vals.take n t)
theorem Vals.drop : ∀ {xs : List V} {us : List Value} (n : Nat), Vals xs us → Vals (xs.drop n) (us.drop n)
 | _, _, 0, r => r
 | _, _, _ + 1, .nil => .nil
 | _, _, n + 1, .cons _ t => Vals.drop n t
theorem Vals.none_of : ∀ {xs : List V} {us : List Value} {i : Nat}, Vals xs us → xs[i]? = none → us[i]? = none := fun {xs us i} r e => by
 have h1 := r.length
 have h2 : xs.length ≤ i := List.getElem?_eq_none_iff.mp e
 exact List.getElem?_eq_none_iff.mpr (by omega)
def RelO : Option V → Option Value → Prop
 | some v, some u => RelV v u
 | none, none => True
 | _, _ => False
def KV {κ : Type} : List (κ × V) → List (κ × Value) → Prop := Paired fun (p : κ × V) (q : κ × Value) => p.1 = q.1 ∧ RelV p.2 q.2
def kV : Key → V
 | .inl i => .int i
 | .inr x => .str x
inductive HO where
 | lst (xs : List V)
 | tup (xs : List V)
 | dK (kvs : List (Key × V)) | dT (kvs : List (List Key × V))
 | set (S : Int → Bool) (n : Nat)
 | ins (C dx : Addr) (fs : List (Str × V))
 | own (x : Addr)
 | xd (fs : List (Str × V))
 | met (f x : Addr)
 | rng (lo hi : Int)
 | frz (o : Obj) (u : HO)
 | tbl (ps : Array Value)
 | ext (φ : Heap → Prop)
abbrev Hp := Addr → Option HO
def upd (H : Hp) (a : Addr) (o : HO) : Hp := fun b => if b = a then some o else H b
theorem Ae {H : Hp} {a : Addr} {o : HO} : upd H a o a = some o := by unfold upd; rw [if_pos rfl]
theorem Ad {H : Hp} {a b : Addr} {o : HO} (h : b ≠ a) : upd H a o b = H b := by unfold upd; rw [if_neg h]
theorem Yr {H : Hp} {a b : Addr} {o u : HO} (h : H a = some o) (h' : H b = some u) (d : o ≠ u) : a ≠ b := by
 intro e; subst e; rw [h] at h'; exact d (Option.some.inj h')
theorem An {H : Hp} {a b : Addr} {o : HO} (h : H a = some o) (h' : H b = none) : a ≠ b := by
 intro e; subst e; rw [h] at h'; cases h'
section
variable (P : Program) (w : World)
def Be (H : Hp) (h : Heap) (a : Addr) : HO → Prop
  | .lst xs => xs.length ≤ sizeLine ∧ ∃ (its : List Value) (n : Nat), Vals xs its ∧ h.get? a = some { cls := .type "list", data := .seq its.toArray n }
  | .tup xs => xs.length ≤ sizeLine ∧ ∃ its : List Value, Vals xs its ∧ IsTup h a its.toArray
  | .dK kvs => kvs.length ≤ sizeLine ∧ (a == sysModules) = false ∧ ∃ vs, KV kvs vs ∧ h.DictOf (A_ P w) a vs
  | .dT kvs => kvs.length ≤ sizeLine ∧ (a == sysModules) = false ∧ ∃ xs : List (List Key × Addr × Value),
      Paired (fun (p : List Key × V) (q : List Key × Addr × Value) => p.1 = q.1 ∧ H q.2.1 = some (.tup (p.1.map kV)) ∧ RelV p.2 q.2.2) kvs xs ∧
      ∃ o es ep, h.get? a = some o ∧ o.ExactDict ∧ o.data = .dict es ep ∧ es.toList = xs.map (entryOfKey (tupleKind (A_ P w))) ∧ (xs.map (·.1)).Nodup
  | .set S n => h.SetOf (intKind P w) a S n
  | .ins C dx fs => H dx = some (.own a) ∧ fs.length ≤ 1000 ∧ dx ≠ a ∧ h.get? a = some (PySem.W.instObj C dx) ∧
      ∃ mA, h.Ns1 dx mA ∧ (∀ f, RelO (fs.lookup f) (mA f)) ∧ PySem.Within mA (fs.map (·.1))
  | .own _ => ∃ o, h.get? a = some o
  | .xd fs => ∃ mA, h.Ns1 a mA ∧ ∀ f, RelO (fs.lookup f) (mA f)
  | .rng lo hi => ∃ t u v, h.get? a = some { cls := .type "range", data := .fields #[.int lo t, .int hi u, .int 1 v] }
  | .frz o u => h.get? a = some o ∧ Be H h a u
  | .tbl ps => h.get? a = some { cls := .none, data := .fields ps }
  | .met f x => h.get? a = some (PySem.W.methodObj (.ref f) (.ref x))
  | .ext φ => φ h ∧ (∃ o, h.get? a = some o) ∧ ∀ h1 h2 : Heap, φ h1 → (∀ o, h1.get? a = some o → h2.get? a = some o) → φ h2
def HOk (H : Hp) (h : Heap) : Prop := ∀ a o, H a = some o → Be P w H h a o
end
section
variable {P : Program} {w : World} {H H' : Hp} {h h' : Heap} {a : Addr} {o : HO}
theorem Be.lt (x : Be P w H h a o) : a < h.objs.size := by
 cases o with
 | lst xs => obtain ⟨_, _, _, _, e⟩ := x; exact Heap.lt_size e
 | tup xs => obtain ⟨_, _, _, p⟩ := x; exact p.lt
 | dK kvs => obtain ⟨_, _, _, _, o, _, _, e, _⟩ := x; exact Heap.lt_size e
 | dT kvs => obtain ⟨_, _, _, _, o, _, _, e, _⟩ := x; exact Heap.lt_size e
 | set S n => obtain ⟨o, _, _, _, e, _⟩ := x; exact Heap.lt_size e
 | ins C dx fs => obtain ⟨_, _, _, e, _⟩ := x; exact Heap.lt_size e
 | own y => obtain ⟨_, e⟩ := x; exact Heap.lt_size e
 | xd fs => obtain ⟨_, ⟨_, _, _, e, _⟩, _⟩ := x; exact Heap.lt_size e
 | rng lo hi => obtain ⟨_, _, _, e⟩ := x; exact Heap.lt_size e
 | frz ob u => obtain ⟨e, _⟩ := x; exact Heap.lt_size e
 | tbl ps => exact Heap.lt_size (show h.get? a = some _ from x)
 | met f y => exact Heap.lt_size (show h.get? a = some _ from x)
 | ext φ => obtain ⟨_, ⟨_, e⟩, _⟩ := x; exact Heap.lt_size e
theorem Paired.mapP {α β : Type} {F G : α → β → Prop} : ∀ {l₁ : List α} {l₂ : List β}, Paired F l₁ l₂ → (∀ a b, F a b → G a b) → Paired G l₁ l₂
 | _, _, .nil, _ => .nil
 | _, _, .cons r t, f => .cons (f _ _ r) (Paired.mapP t f)
theorem Be.stay (x : Be P w H h a o) (k : ∀ b u, (b = a ∨ H b = some (.own a)) → h.get? b = some u → h'.get? b = some u)
  (ho : ∀ b, H b = some (.own a) → H' b = some (.own a)) (ht : ∀ b xs, H b = some (.tup xs) → H' b = some (.tup xs)) : Be P w H' h' a o := by
 induction o with
 | lst xs => obtain ⟨z, its, n, r, e⟩ := x; exact ⟨z, its, n, r, k _ _ (.inl rfl) e⟩
 | tup xs => obtain ⟨z, its, r, ob, e, c⟩ := x; exact ⟨z, its, r, ob, k _ _ (.inl rfl) e, c⟩
 | dK kvs => obtain ⟨z, y, vs, r, ob, es, ep, e, c⟩ := x; exact ⟨z, y, vs, r, ob, es, ep, k _ _ (.inl rfl) e, c⟩
 | dT kvs =>
  obtain ⟨z, y, xs, r, ob, es, ep, e, c⟩ := x
  exact ⟨z, y, xs, Paired.mapP r fun p q z => ⟨z.1, ht _ _ z.2.1, z.2.2⟩, ob, es, ep, k _ _ (.inl rfl) e, c⟩
 | set S n => obtain ⟨ob, es, ep, t, e, c⟩ := x; exact ⟨ob, es, ep, t, k _ _ (.inl rfl) e, c⟩
 | ins C dx fs =>
  obtain ⟨d, z, ne, e, mA, ⟨od, es, ep, e2, c⟩, r⟩ := x
  exact ⟨ho _ d, z, ne, k _ _ (.inl rfl) e, mA, ⟨od, es, ep, k _ _ (.inr d) e2, c⟩, r⟩
 | own y => obtain ⟨ob, e⟩ := x; exact ⟨ob, k _ _ (.inl rfl) e⟩
 | xd fs => obtain ⟨mA, ⟨od, es, ep, e, c⟩, r⟩ := x; exact ⟨mA, ⟨od, es, ep, k _ _ (.inl rfl) e, c⟩, r⟩
 | rng lo hi => obtain ⟨t, u, v, e⟩ := x; exact ⟨t, u, v, k _ _ (.inl rfl) e⟩
 | frz ob u ih => obtain ⟨e, q⟩ := x; exact ⟨k _ _ (.inl rfl) e, ih q⟩
 | tbl ps =>
  have e : h.get? a = some { cls := .none, data := .fields ps } := x
  show h'.get? a = some { cls := .none, data := .fields ps }
  exact k a _ (.inl rfl) e
 | met f y =>
  have e : h.get? a = some (PySem.W.methodObj (.ref f) (.ref y)) := x
  show h'.get? a = some (PySem.W.methodObj (.ref f) (.ref y))
  exact k a _ (.inl rfl) e
 | ext φ => obtain ⟨p, ⟨o, e⟩, st⟩ := x; exact ⟨st _ _ p fun o q => k _ _ (.inl rfl) q, ⟨o, k _ _ (.inl rfl) e⟩, st⟩
theorem HOk.lt (x : HOk P w H h) (e : H a = some o) : a < h.objs.size := (x a o e).lt
theorem HOk.fresh (x : HOk P w H h) (e : h.objs.size ≤ a) : H a = none := by
 cases q : H a with
 | none => rfl
 | some u => exact absurd (Nat.lt_of_lt_of_le (x.lt q) e) (Nat.lt_irrefl _)
theorem HOk.kept (x : HOk P w H h) (k : ∀ b u, h.get? b = some u → h'.get? b = some u) : HOk P w H h' := fun a o e =>
 (x a o e).stay (fun b u _ q => k b u q) (fun _ q => q) fun _ _ q => q
theorem HOk.laid (x : HOk P w H h) (k : ∀ b u, h.get? b = some u → h'.get? b = some u) (hp : h.objs.size ≤ a) (new : Be P w (upd H a o) h' a o) : HOk P w (upd H a o) h' := fun b u e => by
 have hn := x.fresh hp
 by_cases hb : b = a
 ·subst hb; rw [Ae] at e; cases e; exact new
 ·rw [Ad hb] at e
  exact (x b u e).stay (fun c v _ q => k c v q) (fun c q => by rw [Ad (An q hn)]; exact q) fun c xs q => by rw [Ad (An q hn)]; exact q
end
def Rd (H : Hp) (a : Addr) (u : HO) : Prop := H a = some u ∨ ∃ o, H a = some (.frz o u)
theorem Rd.of {H : Hp} {a : Addr} {u : HO} (h : H a = some u) : Rd H a u := .inl h
theorem Rd.ok {P : Program} {w : World} {H : Hp} {h : Heap} {a : Addr} {u : HO} (r : Rd H a u) (x : HOk P w H h) : Be P w H h a u := by
 rcases r with r | ⟨o, r⟩
 ·exact x a u r
 ·obtain ⟨_, q⟩ := x a _ r
  exact q
def Mut : Option HO → Prop
 | some (.lst _) => True
 | some (.dK _) => True
 | some (.dT _) => True
 | some (.set _ _) => True
 | some (.ins _ _ _) => True
 | some (.ext _) => True
 | _ => False
section
variable {P : Program} {w : World} {H : Hp} {h h' : Heap} {x e : Addr} {o' : HO}
theorem HOk.write (ok : HOk P w H h) (mu : Mut (H x)) (he : e = x ∨ H e = some (.own x)) (k : ∀ b u, b ≠ e → h.get? b = some u → h'.get? b = some u) (heo : ∃ u, h'.get? e = some u)
  (new : Be P w (upd H x o') h' x o') : HOk P w (upd H x o') h' := fun b u q => by
 have nown : ∀ c y, H c = some (.own y) → c ≠ x := fun c y r z => by subst z; rw [r] at mu; exact mu
 have ntup : ∀ c xs, H c = some (.tup xs) → c ≠ x := fun c xs r z => by subst z; rw [r] at mu; exact mu
 by_cases hb : b = x
 ·subst hb; rw [Ae] at q; cases q; exact new
 ·rw [Ad hb] at q
  by_cases hbe : b = e
  ·have q' : H b = some (.own x) := by
    rcases he with z | z
    ·exact absurd (hbe.trans z) hb
    ·rw [hbe]; exact z
   rw [q] at q'; cases q'
   obtain ⟨v, hv⟩ := heo
   exact ⟨v, by rw [hbe]; exact hv⟩
  ·refine (ok b u q).stay (fun c v hc r => k c v ?_ r) (fun c r => by rw [Ad (nown c b r)]; exact r) fun c xs r => by rw [Ad (ntup c xs r)]; exact r
   rcases hc with rfl | hc
   ·exact hbe
   ·rintro rfl
    rcases he with z | z
    ·exact nown c b hc z
    ·rw [hc] at z; cases z; exact hb rfl
end
structure Un (fs ex : List Addr) (H H' : Hp) (h h' : Heap) : Prop where
 keep : ∀ b o, h.get? b = some o → H b = none → b ∉ fs → b ∉ ex → h'.get? b = some o
 slot : ∀ b o, h.get? b = some o → H b = none → b ∈ fs → b ∉ ex → ∃ sl, h'.get? b = some { o with slots := sl }
 free : ∀ b o, h.get? b = some o → H b = none → b ∉ ex → H' b = none
 there : ∀ b o, h.get? b = some o → b ∉ ex → ∃ o', h'.get? b = some o'
 tups : ∀ b xs, H b = some (.tup xs) → H' b = some (.tup xs)
 frzs : ∀ b o u, H b = some (.frz o u) → H' b = some (.frz o u)
 tbls : ∀ b ps, H b = some (.tbl ps) → ∃ more, H' b = some (.tbl (ps ++ more))
section
variable {fs fs' ex ex' : List Addr} {H H1 H2 : Hp} {h h1 h2 h' : Heap} {a x e : Addr} {o : HO}
theorem Un.any (u : Un fs ex H H1 h h1) {b : Addr} {ob : Obj} (q : h.get? b = some ob) (n : H b = none) (hx : b ∉ ex) : ∃ sl, h1.get? b = some { ob with slots := sl } := by
 by_cases hb : b ∈ fs
 ·exact u.slot b ob q n hb hx
 ·exact ⟨ob.slots, u.keep b ob q n hb hx⟩
theorem Un.trans (a : Un fs ex H H1 h h1) (b : Un fs ex H1 H2 h1 h2) : Un fs ex H H2 h h2 where
 keep := fun c ob q n hc hx => b.keep c ob (a.keep c ob q n hc hx) (a.free c ob q n hx) hc hx
 slot := fun c ob q n hc hx => by
  obtain ⟨sl, e1⟩ := a.slot c ob q n hc hx
  obtain ⟨sl', e2⟩ := b.slot c _ e1 (a.free c ob q n hx) hc hx
  exact ⟨sl', e2⟩
 free := fun c ob q n hx => by
  obtain ⟨o', e1⟩ := a.there c ob q hx
  exact b.free c o' e1 (a.free c ob q n hx) hx
 there := fun c ob q hx => by
  obtain ⟨o', e1⟩ := a.there c ob q hx
  exact b.there c o' e1 hx
 tups := fun c xs q => b.tups c xs (a.tups c xs q)
 frzs := fun c ob xs q => b.frzs c ob xs (a.frzs c ob xs q)
 tbls := fun c ps q => by
  obtain ⟨m1, e1⟩ := a.tbls c ps q
  obtain ⟨m2, e2⟩ := b.tbls c _ e1
  exact ⟨m1 ++ m2, by rw [e2, Array.append_assoc]⟩
theorem Un.kept (k : ∀ b u, h.get? b = some u → h'.get? b = some u) : Un fs ex H H h h' :=
 ⟨fun b ob q _ _ _ => k b ob q, fun b ob q _ _ _ => ⟨ob.slots, k b ob q⟩, fun _ _ _ n _ => n, fun b ob q _ => ⟨ob, k b ob q⟩, fun _ _ q => q, fun _ _ _ q => q, fun _ ps q => ⟨#[], by rw [q]; simp⟩⟩
theorem Un.refl : Un fs ex H H h h := Un.kept fun _ _ q => q
theorem Un.laid (k : ∀ b u, h.get? b = some u → h'.get? b = some u) (hp : h.objs.size ≤ a) (hn : H a = none) : Un fs ex H (upd H a o) h h' where
 keep := fun b u q _ _ _ => k b u q
 slot := fun b u q _ _ _ => ⟨u.slots, k b u q⟩
 free := fun b u q n _ => by rw [Ad (Nat.ne_of_lt (Nat.lt_of_lt_of_le (Heap.lt_size q) hp))]; exact n
 there := fun b u q _ => ⟨u, k b u q⟩
 tups := fun b xs q => by rw [Ad (An q hn)]; exact q
 frzs := fun b u xs q => by rw [Ad (An q hn)]; exact q
 tbls := fun b ps q => ⟨#[], by rw [Ad (An q hn), q]; simp⟩
theorem Un.write (mu : Mut (H x)) (he : e = x ∨ H e = some (.own x)) (k : ∀ b u, b ≠ e → h.get? b = some u → h'.get? b = some u) (heo : ∃ u, h'.get? e = some u) : Un fs ex H (upd H x o) h h' := by
 have hx : ∀ b, H b = none → b ≠ x := fun b n z => by subst z; rw [n] at mu; exact mu
 have hb : ∀ b, H b = none → b ≠ e := fun b n z => by
  subst z
  rcases he with r | r
  ·exact hx b n r
  ·rw [n] at r; cases r
 have hm : ∀ b u, H b = some u → ¬ Mut (some u) → b ≠ x := fun b u q nm z => by subst z; rw [q] at mu; exact nm mu
 refine ⟨fun b u q n _ _ => k b u (hb b n) q, fun b u q n _ _ => ⟨u.slots, k b u (hb b n) q⟩, fun b u q n _ => by rw [Ad (hx b n)]; exact n, fun b u q _ => ?_,
  fun b xs q => by rw [Ad (hm b _ q fun z => z)]; exact q, fun b u xs q => by rw [Ad (hm b _ q fun z => z)]; exact q, fun b ps q => ⟨#[], by rw [Ad (hm b _ q fun z => z), q]; simp⟩⟩
 by_cases hbe : b = e
 ·subst hbe; exact heo
 ·exact ⟨u, k b u hbe q⟩
theorem Un.mono (u : Un fs ex H H1 h h1) (hs : ∀ b ∈ fs, b ∈ fs') (hx : ∀ b ∈ ex, b ∈ ex') : Un fs' ex' H H1 h h1 :=
 ⟨fun b ob q n hb he => u.keep b ob q n (fun z => hb (hs b z)) fun z => he (hx b z), fun _ _ q n _ he => u.any q n fun z => he (hx _ z), fun b ob q n he => u.free b ob q n fun z => he (hx b z), fun b ob q he => u.there b ob q fun z => he (hx b z), u.tups, u.frzs, u.tbls⟩
end
def trk (h : Heap) (H : Hp) : List Addr := (List.range h.objs.size).filter fun a => (H a).isSome
def hidT (h : Heap) (H : Hp) : Heap := PySem.W.hideAll h (trk h H)
theorem Td (h : Heap) (H : Hp) : (hidT h H).objs.size = h.objs.size := PySem.W.hideAll_size _ _
theorem Uc {h : Heap} {H : Hp} {b : Addr} {o : Obj} (e : h.get? b = some o) (n : H b = none) : (hidT h H).get? b = some o :=
 PySem.W.hideAll_get _ e fun hm => by
  have q : (H b).isSome = true := (List.mem_filter.mp hm).2
  rw [n] at q; simp at q
theorem W4 {h : Heap} {H : Hp} {b : Addr} {o : Obj} (e : (hidT h H).get? b = some o) : h.get? b = some o ∧ H b = none := by
 have e' : h.get? b = some o := PySem.W.of_hideAll (trk h H) e
 refine ⟨e', ?_⟩
 cases q : H b with
 | none => rfl
 | some x =>
  have hm : b ∈ trk h H := List.mem_filter.mpr ⟨List.mem_range.mpr (Heap.lt_size e'), by simp [q]⟩
  have z : (hidT h H).get? b = none := PySem.W.hideAll_none (trk h H) hm
  rw [z] at e; cases e
def W5 (g h : Heap) (L : Addr) : List (Addr × Obj) := (List.range h.objs.size).filterMap fun a => if a = L ∨ (g.get? a).isSome = true then none else (h.get? a).map fun o => (a, o)
def rest (g h : Heap) (L d : Addr) : List (Addr × Obj) := (W5 g h L).filter fun p => decide (p.1 ≠ d)
end L2
namespace L2
open PySem PySem.Spec PyProof.Rows
structure Mod (K : PySem.W.Frag) (mg : Str → Option Value) (base : Heap) : Prop where
 kin : K.In base
 glob : base.Ns mainGlobals mg
 blt : ∃ mb, base.Ns builtinsNs mb ∧ ∀ x : Str, x ≠ "__name__" → mb x = bootBuiltins x
 nolimit : base.NoLimit
structure Cx where
 prog : Program
 w : World
 K : PySem.W.Frag
 mg : Str → Option Value
 base : Heap
 A : Around
 N : List Str
 s₀ : Shared
 H₀ : Hp
 env : Env
 outer : List Env
 stack : List Env
 ex : List Addr
 fn : Str → Bool
 calm : Bool
 pn : List (Addr × Obj)
 xe : Value → Shared → Prop
def frs (l : List Env) : List Addr := l.filterMap (·.frame)
abbrev Cx.fs (X : Cx) : List Addr := frs X.outer
def Vis (sc : Scope) (x : Str) : Prop := sc.names.lookup x = some .local ∨ sc.names.lookup x = some .cell ∨ sc.names.lookup x = some .free
def Loc (sc : Scope) (x : Str) : Prop := sc.names.lookup x = some .local ∨ sc.names.lookup x = some .cell
def Look (env : Env) (h : Heap) (m : Str → Option Value) (x : Str) (u : Value) : Prop :=
 (env.kindOf x = some .local ∧ m x = some u) ∨ ((env.kindOf x = some .cell ∨ env.kindOf x = some .free) ∧ ∃ c, env.cells.lookup x = some c ∧ h.IsCell c (some u))
structure Cx.Ok (X : Cx) : Prop where
 mod : Mod X.K X.mg X.base
 kind : X.env.scope.kind = .function
 glob : X.env.globals = mainGlobals
 blt : X.env.builtins = builtinsNs
 above : X.s₀.heap.objs.size ≤ X.env.locals
 inj : ∀ x y c, X.env.cells.lookup x = some c → X.env.cells.lookup y = some c → x = y
 has : ∀ x, (X.env.kindOf x = some .cell ∨ X.env.kindOf x = some .free) → ∃ c, X.env.cells.lookup x = some c
 cab : ∀ x c, X.fn x = true → X.env.cells.lookup x = some c → X.s₀.heap.objs.size ≤ c
 hd : X.calm = true → X.A.handled = none
 frames : X.A.frames = some X.stack
 stk : X.stack = X.outer ∨ (X.stack = X.env :: X.outer ∧ X.env.frame = some X.env.locals)
 exf : ∀ b ∈ X.ex, b ≠ X.env.locals ∧ ∀ x c, X.env.cells.lookup x = some c → c ≠ b
 bs : ∀ b o, X.base.get? b = some o → X.s₀.heap.get? b = some o ∧ X.H₀ b = none
 bsz : X.base.objs.size ≤ X.s₀.heap.objs.size
 noex : ∀ b o, X.base.get? b = some o → b ∉ X.ex
 exfs : ∀ b ∈ X.ex, b ∉ X.fs
 funs : X.s₀.heap.FunFrames X.base X.outer
 frf : ∀ b ∈ X.fs, X.H₀ b = none
structure Inv (X : Cx) (pins : List (Addr × Obj)) (σ : List (Option V)) (H : Hp) (s : Shared) : Prop where
 ok : X.Ok
 os : s.os = X.s₀.os
 bare : AllBare s.gens
 base : Un X.fs X.ex X.H₀ H X.s₀.heap s.heap
 loc : ∃ m, s.heap.Ns X.env.locals m ∧ ∀ (i : Nat) (x : Str) (v : V), X.N[i]? = some x → σ[i]? = some (some v) → Vis X.env.scope x → ∃ u, RelV v u ∧ Look X.env s.heap m x u
 cell : ∀ x c, X.env.cells.lookup x = some c → ∃ v, s.heap.IsCell c v
 free : H X.env.locals = none
 freeC : ∀ x c, X.env.cells.lookup x = some c → H c = none
 pin : ∀ p ∈ X.pn ++ pins, s.heap.get? p.1 = some p.2 ∧ H p.1 = none ∧ p.1 ≠ X.env.locals ∧ p.1 ∉ X.fs ∧ ∀ v, p.2.data ≠ .cell v
 hok : HOk X.prog X.w H s.heap
 len : σ.length = X.N.length
section
variable {X : Cx} {pins : List (Addr × Obj)} {σ : List (Option V)} {H H' : Hp} {s : Shared} {h' : Heap}
theorem Cx.Ok.nofr (ok : X.Ok) {b : Addr} {o : Obj} (e : X.base.get? b = some o) : b ∉ X.fs := fun hb => by
 have := (ok.funs.mem hb).1
 rw [e] at this; cases this
theorem Inv.bs (I : Inv X pins σ H s) : ∀ b o, X.base.get? b = some o → s.heap.get? b = some o ∧ H b = none := fun b o e =>
 ⟨I.base.keep b o (I.ok.bs b o e).1 (I.ok.bs b o e).2 (I.ok.nofr e) (I.ok.noex b o e), I.base.free b o (I.ok.bs b o e).1 (I.ok.bs b o e).2 (I.ok.noex b o e)⟩
theorem Inv.bk (I : Inv X pins σ H s) : ∀ b o, X.base.get? b = some o → s.heap.get? b = some o := fun b o e => (I.bs b o e).1
theorem Inv.mod (I : Inv X pins σ H s) : Mod X.K X.mg X.base := I.ok.mod
theorem Inv.kIn (I : Inv X pins σ H s) : X.K.In s.heap := I.ok.mod.kin.keeps I.bk
theorem Inv.nolimit (I : Inv X pins σ H s) : s.heap.NoLimit := I.ok.mod.nolimit.keeps I.bk
theorem Inv.fr (I : Inv X pins σ H s) : ∃ m, Fr X.base X.env.locals s.heap m :=
 let ⟨m, hn, _⟩ := I.loc
 ⟨m, hn, I.bk, Nat.le_trans I.ok.bsz I.ok.above⟩
theorem Inv.lt (I : Inv X pins σ H s) : X.env.locals < s.heap.objs.size := let ⟨_, hn, _⟩ := I.loc; hn.lt
theorem Inv.sz (I : Inv X pins σ H s) : X.s₀.heap.objs.size ≤ s.heap.objs.size := Nat.le_trans I.ok.above (Nat.le_of_lt I.lt)
theorem Inv.nofs (I : Inv X pins σ H s) {a : Addr} (h : s.heap.objs.size ≤ a) : a ∉ X.fs := fun hb => by
 obtain ⟨_, o, ho, _⟩ := I.ok.funs.mem hb
 exact absurd (Nat.lt_of_lt_of_le (Heap.lt_size ho) (Nat.le_trans I.sz h)) (Nat.lt_irrefl _)
theorem Inv.cne (I : Inv X pins σ H s) : ∀ x c, X.env.cells.lookup x = some c → c ≠ X.env.locals := fun x c e z => by
 obtain ⟨v, o, ho, hd⟩ := I.cell x c e
 obtain ⟨m, ⟨o', es, ep, ho', hd', _⟩, _⟩ := I.loc
 rw [z, ho'] at ho; cases ho; rw [hd'] at hd; cases hd
theorem Inv.funs (I : Inv X pins σ H s) : s.heap.FunFrames X.base X.outer := by
 have all : ∀ (l : List Env), (∀ b ∈ frs l, b ∈ X.fs) → X.s₀.heap.FunFrames X.base l → s.heap.FunFrames X.base l := by
  intro l
  induction l with
  | nil => intro _ _; trivial
  | cons env r ih =>
   intro hs hl
   obtain ⟨hk, ⟨L, o, hf, hn, ho, hd⟩, hr⟩ := hl
   have hL : L ∈ X.fs := hs L (by unfold frs; rw [List.filterMap_cons, hf]; exact List.mem_cons_self)
   obtain ⟨sl, e⟩ := I.base.slot L o ho (I.ok.frf L hL) hL fun z => I.ok.exfs L z hL
   exact ⟨hk, ⟨L, _, hf, hn, e, hd⟩, ih (fun b hb => hs b (by unfold frs; rw [List.filterMap_cons, hf]; exact List.mem_cons_of_mem _ hb)) hr⟩
 exact all X.outer (fun _ hb => hb) I.ok.funs
theorem Inv.stack (I : Inv X pins σ H s) : s.heap.FunFrames X.base X.stack := by
 rcases I.ok.stk with e | ⟨e, hf⟩
 ·rw [e]; exact I.funs
 ·rw [e]
  obtain ⟨m, hn, _⟩ := I.loc
  refine .cons (by rw [I.ok.kind]; decide) hf hn ?_ I.funs
  exact Heap.get?_none_of_le (Nat.le_trans I.ok.bsz I.ok.above)
theorem Inv.stkSub (I : Inv X pins σ H s) : ∀ b ∈ frs X.stack, b ∈ X.env.locals :: X.fs := fun b hb => by
 rcases I.ok.stk with e | ⟨e, hf⟩
 ·rw [e] at hb; exact List.mem_cons_of_mem _ hb
 ·rw [e] at hb
  unfold frs at hb
  rw [List.filterMap_cons, hf] at hb
  exact hb
theorem Inv.stkFree (I : Inv X pins σ H s) : ∀ b ∈ frs X.stack, H b = none := fun b hb => by
 rcases List.mem_cons.mp (I.stkSub b hb) with e | hb
 ·rw [e]; exact I.free
 ·obtain ⟨_, o, ho, _⟩ := I.ok.funs.mem hb
  exact I.base.free b o ho (I.ok.frf b hb) fun z => I.ok.exfs b z hb
theorem Inv.step {g' : Array GenState} {t' : Nat} {d' : Drawn} {ch : List Addr} (I : Inv X pins σ H s)
  (hch : ∀ b ∈ ch, (b ∈ X.ex ∨ X.s₀.heap.objs.size ≤ b) ∧ b ≠ X.env.locals ∧ (∀ x c, X.env.cells.lookup x = some c → c ≠ b) ∧ ∀ p ∈ X.pn ++ pins, p.1 ≠ b)
  (keep : ∀ b o, b ≠ X.env.locals → b ∉ X.fs → b ∉ ch → s.heap.get? b = some o → H b = none → h'.get? b = some o)
  (slot : ∀ b o, b ≠ X.env.locals → b ∈ X.fs → b ∉ ch → s.heap.get? b = some o → H b = none → ∃ sl, h'.get? b = some { o with slots := sl }) (free : ∀ b o, b ∉ ch → s.heap.get? b = some o → H b = none → H' b = none)
  (there : ∀ b o, b ∉ ch → s.heap.get? b = some o → ∃ o', h'.get? b = some o')
  (tups : ∀ b xs, H b = some (.tup xs) → H' b = some (.tup xs)) (frzs : ∀ b o u, H b = some (.frz o u) → H' b = some (.frz o u)) (tbls : ∀ b ps, H b = some (.tbl ps) → ∃ more, H' b = some (.tbl (ps ++ more)))
  (ns : ∀ m, s.heap.Ns X.env.locals m → h'.Ns X.env.locals m) (hok : HOk X.prog X.w H' h') (hg : AllBare g') :
  Inv X pins σ H' { s with heap := h', gens := g', drawn := d', toks := t' } := by
 have neL : ∀ b o, X.s₀.heap.get? b = some o → b ≠ X.env.locals := fun b o e => Nat.ne_of_lt (Nat.lt_of_lt_of_le (Heap.lt_size e) I.ok.above)
 have neC : ∀ b o, X.s₀.heap.get? b = some o → b ∉ X.ex → b ∉ ch := fun b o e hx hb => by
  rcases (hch b hb).1 with z | z
  ·exact hx z
  ·exact absurd (Nat.lt_of_lt_of_le (Heap.lt_size e) z) (Nat.lt_irrefl _)
 have cellK : ∀ x c, X.env.cells.lookup x = some c → ∀ v, s.heap.IsCell c v → h'.IsCell c v := fun x c e v ⟨o, ho, hd⟩ => by
  have nch : c ∉ ch := fun z => (hch c z).2.2.1 x c e rfl
  by_cases hc : c ∈ X.fs
  ·obtain ⟨sl, q⟩ := slot c o (I.cne x c e) hc nch ho (I.freeC x c e)
   exact ⟨_, q, hd⟩
  ·exact ⟨o, keep c o (I.cne x c e) hc nch ho (I.freeC x c e), hd⟩
 refine ⟨I.ok, I.os, hg, ⟨fun b o e n hb hx => ?_, fun b o e n hb hx => ?_, fun b o e n hx => ?_, fun b o e hx => ?_, fun b xs e => tups b xs (I.base.tups b xs e), fun b o xs e => frzs b o xs (I.base.frzs b o xs e), fun b ps e => ?_⟩, ?_, fun x c e => ?_, ?_, fun x c e => ?_, fun p hp => ?_, hok, I.len⟩
 ·exact keep b o (neL b o e) hb (neC b o e hx) (I.base.keep b o e n hb hx) (I.base.free b o e n hx)
 ·obtain ⟨sl, e1⟩ := I.base.slot b o e n hb hx
  obtain ⟨sl', e2⟩ := slot b _ (neL b o e) hb (neC b o e hx) e1 (I.base.free b o e n hx)
  exact ⟨sl', e2⟩
 ·obtain ⟨o', e1⟩ := I.base.there b o e hx
  exact free b o' (neC b o e hx) e1 (I.base.free b o e n hx)
 ·obtain ⟨o', e1⟩ := I.base.there b o e hx
  exact there b o' (neC b o e hx) e1
 ·obtain ⟨m1, e1⟩ := I.base.tbls b ps e
  obtain ⟨m2, e2⟩ := tbls b _ e1
  exact ⟨m1 ++ m2, by rw [e2, Array.append_assoc]⟩
 ·obtain ⟨m, hn, hl⟩ := I.loc
  refine ⟨m, ns m hn, fun i x v e1 e2 e3 => ?_⟩
  obtain ⟨u, r, l⟩ := hl i x v e1 e2 e3
  refine ⟨u, r, ?_⟩
  rcases l with l | ⟨k, c, e, z⟩
  ·exact .inl l
  ·exact .inr ⟨k, c, e, cellK x c e _ z⟩
 ·obtain ⟨v, z⟩ := I.cell x c e
  exact ⟨v, cellK x c e v z⟩
 ·obtain ⟨m, ⟨o, _, _, ho, _⟩, _⟩ := I.loc
  exact free _ o (fun z => (hch _ z).2.1 rfl) ho I.free
 ·obtain ⟨v, o, ho, hd⟩ := I.cell x c e
  exact free c o (fun z => (hch c z).2.2.1 x c e rfl) ho (I.freeC x c e)
 ·obtain ⟨e, n, ne, nf, d⟩ := I.pin p hp
  have nch : p.1 ∉ ch := fun z => (hch p.1 z).2.2.2 p hp rfl
  exact ⟨keep p.1 p.2 ne nf nch e n, free p.1 p.2 nch e n, ne, nf, d⟩
theorem Inv.un {t' : Nat} (I : Inv X pins σ H s) (u : Un X.fs [] H H' s.heap h') (hok : HOk X.prog X.w H' h') : Inv X pins σ H' { s with heap := h', toks := t' } := by
 obtain ⟨m, ⟨o, es, ep, ho, r⟩, _⟩ := id I.loc
 obtain ⟨sl, hL⟩ := u.any ho I.free (by simp)
 exact I.step (g' := s.gens) (d' := s.drawn) (ch := []) (fun _ z => nomatch z) (fun b o _ hb _ e n => u.keep b o e n hb (by simp)) (fun b o _ hb _ e n => u.slot b o e n hb (by simp)) (fun b o _ e n => u.free b o e n (by simp)) (fun b o _ e => u.there b o e (by simp)) u.tups u.frzs u.tbls (fun m' hm => by
  obtain ⟨o', es', ep', ho', r'⟩ := hm
  rw [ho] at ho'; cases ho'
  exact ⟨_, es', ep', hL, r'⟩) hok I.bare
theorem Inv.call {g' : Array GenState} {t' : Nat} {d' : Drawn} {ch : List Addr} (I : Inv X pins σ H s) (u : Un (frs X.stack) ch H H' s.heap h') (hok : HOk X.prog X.w H' h') (hg : AllBare g')
  (hch : ∀ b ∈ ch, (b ∈ X.ex ∨ X.s₀.heap.objs.size ≤ b) ∧ b ≠ X.env.locals ∧ (∀ x c, X.env.cells.lookup x = some c → c ≠ b) ∧ ∀ p ∈ X.pn ++ pins, p.1 ≠ b) :
  Inv X pins σ H' { s with heap := h', gens := g', drawn := d', toks := t' } := by
 obtain ⟨m, ⟨o, es, ep, ho, r⟩, _⟩ := id I.loc
 obtain ⟨sl, hL⟩ := u.any ho I.free fun z => (hch _ z).2.1 rfl
 exact I.step (ch := ch) hch (fun b o hL hb hc e n => u.keep b o e n (fun z => (List.mem_cons.mp (I.stkSub b z)).elim hL hb) hc) (fun b o _ _ hc e n => u.any e n hc) (fun b o hc e n => u.free b o e n hc) (fun b o hc e => u.there b o e hc) u.tups u.frzs u.tbls (fun m' hm => by
  obtain ⟨o', es', ep', ho', r'⟩ := hm
  rw [ho] at ho'; cases ho'
  exact ⟨_, es', ep', hL, r'⟩) hok hg
theorem Inv.turned {t' : Nat} {it : Addr} (I : Inv X pins σ H s) (k : ∀ b o, b ≠ it → s.heap.get? b = some o → h'.get? b = some o) (hn : H it = none) (hL : it ≠ X.env.locals)
  (h1 : it ∈ X.ex ∨ X.s₀.heap.objs.size ≤ it) (h2 : ∀ x c, X.env.cells.lookup x = some c → c ≠ it) (h3 : ∀ p ∈ X.pn ++ pins, p.1 ≠ it) : Inv X pins σ H { s with heap := h', toks := t' } := by
 have nit : ∀ b u, H b = some u → b ≠ it := fun b u e z => by rw [z, hn] at e; cases e
 refine I.step (g' := s.gens) (d' := s.drawn) (ch := [it]) (fun b hb => ?_) (fun b o _ _ hc e _ => k b o (fun z => hc (by simp [z])) e) (fun b o _ _ hc e _ => ⟨o.slots, k b o (fun z => hc (by simp [z])) e⟩) (fun _ _ _ _ n => n)
  (fun b o hc e => ⟨o, k b o (fun z => hc (by simp [z])) e⟩) (fun _ _ e => e) (fun _ _ _ e => e) (fun b ps e => ⟨#[], by rw [e]; simp⟩) (fun m hm => ?_) (fun b u e => ?_) I.bare
 ·have e : b = it := by simpa using hb
  subst e
  exact ⟨h1, hL, h2, h3⟩
 ·obtain ⟨o, es, ep, ho, r⟩ := hm
  exact ⟨o, es, ep, k _ o (Ne.symm hL) ho, r⟩
 ·refine (I.hok b u e).stay (fun c v hc q => k c v ?_ q) (fun _ q => q) fun _ _ q => q
  rcases hc with z | z
  ·rw [z]; exact nit b u e
  ·exact nit c _ z
theorem Inv.tok (I : Inv X pins σ H s) (t : Nat) : Inv X pins σ H { s with toks := t } := I.un (h' := s.heap) (t' := t) Un.refl I.hok
theorem Inv.kept {t' : Nat} (I : Inv X pins σ H s) (k : ∀ b u, s.heap.get? b = some u → h'.get? b = some u) : Inv X pins σ H { s with heap := h', toks := t' } := I.un (Un.kept k) (I.hok.kept k)
theorem Inv.laid {a : Addr} {o : HO} {t' : Nat} (I : Inv X pins σ H s) (k : ∀ b u, s.heap.get? b = some u → h'.get? b = some u) (hp : s.heap.objs.size ≤ a) (new : Be X.prog X.w (upd H a o) h' a o) :
  Inv X pins σ (upd H a o) { s with heap := h', toks := t' } := I.un (Un.laid k hp (I.hok.fresh hp)) (I.hok.laid k hp new)
theorem Inv.write {x e : Addr} {o : HO} {t' : Nat} (I : Inv X pins σ H s) (mu : Mut (H x)) (he : e = x ∨ H e = some (.own x)) (k : ∀ b u, b ≠ e → s.heap.get? b = some u → h'.get? b = some u) (heo : ∃ u, h'.get? e = some u)
  (new : Be X.prog X.w (upd H x o) h' x o) : Inv X pins σ (upd H x o) { s with heap := h', toks := t' } := I.un (Un.write mu he k heo) (I.hok.write mu he k heo new)
theorem Inv.pins_of {pins' : List (Addr × Obj)} (I : Inv X pins σ H s) (h : ∀ p ∈ pins', s.heap.get? p.1 = some p.2 ∧ H p.1 = none ∧ p.1 ≠ X.env.locals ∧ p.1 ∉ X.fs ∧ ∀ v, p.2.data ≠ .cell v) : Inv X pins' σ H s :=
 ⟨I.ok, I.os, I.bare, I.base, I.loc, I.cell, I.free, I.freeC, fun p hp => (List.mem_append.mp hp).elim (fun z => I.pin p (List.mem_append_left _ z)) (h p), I.hok, I.len⟩
theorem Jw {N : List Str} (hN : N.Nodup) {i j : Nat} {x : Str} (a : N[i]? = some x) (b : N[j]? = some x) : i = j := by
 obtain ⟨h1, e1⟩ := List.getElem?_eq_some_iff.mp a
 obtain ⟨h2, e2⟩ := List.getElem?_eq_some_iff.mp b
 exact (List.getElem_inj hN).mp (e1.trans e2.symm)
theorem Te {M : Model} {A : Around} {E : Value → Shared → Prop} {i : Nat} {x : Str} {v : V} {u : Value} {Q : Unit → Shared → Prop} (I : Inv X pins σ H s) (hN : X.N.Nodup) (hi : X.N[i]? = some x) (hx : Loc X.env.scope x) (r : RelV v u)
  (h : ∀ s', Inv X pins (σ.set i (some v)) H s' → (∃ a, Heap.SameBut a s.heap s'.heap ∧ (a = X.env.locals ∨ X.env.cells.lookup x = some a)) → Q () s') (hf : X.fn x = true ∨ X.env.scope.names.lookup x = some .local := by first | exact .inl rfl | exact .inr rfl | assumption) : wpAny M A (storeName X.env x u) Q E s := by
 obtain ⟨m, hn, hl⟩ := id I.loc
 have hcls : (X.env.scope.kind == .class || (X.env.scope.kind == .module && X.env.locals != X.env.globals)) = false := by rw [I.ok.kind]; rfl
 have hiσ : i < σ.length := by rw [I.len]; exact (List.getElem?_eq_some_iff.mp hi).1
 have cne := I.cne
 have tracked : ∀ {a : Addr} {h' : Heap}, (∃ o, s.heap.get? a = some o ∧ H a = none) → Heap.SameBut a s.heap h' → HOk X.prog X.w H h' := fun {a h'} ha hs b ob e => by
  obtain ⟨_, _, hfree⟩ := ha
  refine (I.hok b ob e).stay (fun c w' hc q => (hs.2 c ?_).trans q) (fun _ q => q) fun _ _ q => q
  rintro rfl
  rcases hc with rfl | hc
  ·rw [hfree] at e; cases e
  ·rw [hfree] at hc; cases hc
 rcases hx with hk | hk
 ·refine wpAny_storeName_local hk hn (fun h' hn' hs => ?_) hcls
  obtain ⟨oL, _, _, hoL, _⟩ := id hn
  refine h _ ⟨I.ok, I.os, I.bare, ⟨fun b o e n hb hx => ?_, fun b o e n hb hx => ?_, I.base.free, fun b o e hx => ?_, I.base.tups, I.base.frzs, I.base.tbls⟩, ⟨_, hn', fun j y v' e1 e2 e3 => ?_⟩, fun y c e => ?_, I.free, I.freeC, fun p hp => ?_, tracked ⟨oL, hoL, I.free⟩ hs, by simpa using I.len⟩ ⟨_, hs, .inl rfl⟩
  ·exact (hs.2 b (Nat.ne_of_lt (Nat.lt_of_lt_of_le (Heap.lt_size e) I.ok.above))).trans (I.base.keep b o e n hb hx)
  ·obtain ⟨sl, e1⟩ := I.base.slot b o e n hb hx
   exact ⟨sl, (hs.2 b (Nat.ne_of_lt (Nat.lt_of_lt_of_le (Heap.lt_size e) I.ok.above))).trans e1⟩
  ·obtain ⟨o', e1⟩ := I.base.there b o e hx
   exact ⟨o', (hs.2 b (Nat.ne_of_lt (Nat.lt_of_lt_of_le (Heap.lt_size e) I.ok.above))).trans e1⟩
  ·by_cases hj : j = i
   ·subst hj
    rw [hi] at e1; cases e1
    rw [List.getElem?_set_self hiσ] at e2
    cases e2
    exact ⟨u, r, .inl ⟨hk, by simp⟩⟩
   ·rw [List.getElem?_set_ne (Ne.symm hj)] at e2
    obtain ⟨u', r', q⟩ := hl j y v' e1 e2 e3
    refine ⟨u', r', ?_⟩
    rcases q with ⟨k, e⟩ | ⟨k, c, e, z⟩
    ·refine .inl ⟨k, ?_⟩
     have : y ≠ x := fun e => hj (Jw hN e1 (e ▸ hi))
     simp [this, e]
    ·exact .inr ⟨k, c, e, z.sameBut hs (cne y c e)⟩
  ·obtain ⟨w', z⟩ := I.cell y c e
   exact ⟨w', z.sameBut hs (cne y c e)⟩
  ·obtain ⟨e, n, ne, nf, d⟩ := I.pin p hp
   exact ⟨(hs.2 p.1 ne).trans e, n, ne, nf, d⟩
 ·have hfn : X.fn x = true := by
   rcases hf with z | z
   ·exact z
   ·rw [z] at hk; cases hk
  obtain ⟨c, hc⟩ := I.ok.has x (.inl hk)
  obtain ⟨w', z⟩ := I.cell x c hc
  refine wpAny_storeName_cell I.ok.kind hk hc z (fun h' hc' hs => ?_)
  obtain ⟨oc, hoc, hocd⟩ := id z
  refine h { s with heap := h' } ⟨I.ok, I.os, I.bare, ⟨fun b o e n hb hx => ?_, fun b o e n hb hx => ?_, I.base.free, fun b o e hx => ?_, I.base.tups, I.base.frzs, I.base.tbls⟩, ⟨m, hn.sameBut hs (Ne.symm (cne x c hc)), fun j y v' e1 e2 e3 => ?_⟩, fun y c' e => ?_, I.free, I.freeC, fun p hp => ?_, tracked ⟨oc, hoc, I.freeC x c hc⟩ hs, by simpa using I.len⟩ ⟨c, hs, .inr hc⟩
  ·exact (hs.2 b (Nat.ne_of_lt (Nat.lt_of_lt_of_le (Heap.lt_size e) (I.ok.cab x c hfn hc)))).trans (I.base.keep b o e n hb hx)
  ·obtain ⟨sl, e1⟩ := I.base.slot b o e n hb hx
   exact ⟨sl, (hs.2 b (Nat.ne_of_lt (Nat.lt_of_lt_of_le (Heap.lt_size e) (I.ok.cab x c hfn hc)))).trans e1⟩
  ·obtain ⟨o', e1⟩ := I.base.there b o e hx
   exact ⟨o', (hs.2 b (Nat.ne_of_lt (Nat.lt_of_lt_of_le (Heap.lt_size e) (I.ok.cab x c hfn hc)))).trans e1⟩
  ·by_cases hj : j = i
   ·subst hj
    rw [hi] at e1; cases e1
    rw [List.getElem?_set_self hiσ] at e2
    cases e2
    exact ⟨u, r, .inr ⟨.inl hk, c, hc, hc'⟩⟩
   ·rw [List.getElem?_set_ne (Ne.symm hj)] at e2
    obtain ⟨u', r', q⟩ := hl j y v' e1 e2 e3
    refine ⟨u', r', ?_⟩
    rcases q with q | ⟨k, c', e, z'⟩
    ·exact .inl q
    ·refine .inr ⟨k, c', e, z'.sameBut hs ?_⟩
     rintro rfl
     exact hj (Jw hN e1 (I.ok.inj _ _ _ e hc ▸ hi))
  ·by_cases hcc : c' = c
   ·subst hcc; exact ⟨_, hc'⟩
   ·obtain ⟨w2, z2⟩ := I.cell y c' e
    exact ⟨w2, z2.sameBut hs hcc⟩
  ·obtain ⟨e, n, ne, nf, d⟩ := I.pin p hp
   refine ⟨(hs.2 p.1 ?_).trans e, n, ne, nf, d⟩
   intro q
   rw [q, hoc] at e
   have q' : oc = p.2 := Option.some.inj e
   exact d w' (by rw [← q']; exact hocd)
theorem HR {M : Model} {A : Around} {E : Value → Shared → Prop} {i : Nat} {x : Str} {v : V} {u : Value} {Q : Unit → Shared → Prop} (I : Inv X pins σ H s) (hN : X.N.Nodup) (hi : X.N[i]? = some x) (hx : Loc X.env.scope x) (r : RelV v u)
  (h : ∀ s', Inv X pins (σ.set i (some v)) H s' → Q () s') (hf : X.fn x = true ∨ X.env.scope.names.lookup x = some .local := by first | exact .inl rfl | exact .inr rfl | assumption) : wpAny M A (storeName X.env x u) Q E s :=
 Te I hN hi hx r (fun s' I' _ => h s' I') hf
theorem Inv.call' {s' : Shared} {ch : List Addr} (I : Inv X pins σ H s) (ho : s'.os = s.os) (u : Un (frs X.stack) ch H H' s.heap s'.heap) (hok : HOk X.prog X.w H' s'.heap) (hg : AllBare s'.gens)
  (hch : ∀ b ∈ ch, (b ∈ X.ex ∨ X.s₀.heap.objs.size ≤ b) ∧ b ≠ X.env.locals ∧ (∀ x c, X.env.cells.lookup x = some c → c ≠ b) ∧ ∀ p ∈ X.pn ++ pins, p.1 ≠ b) : Inv X pins σ H' s' := by
 obtain ⟨h', g', d', t', o'⟩ := s'
 have e : o' = s.os := ho
 subst e
 exact I.call (g' := g') (t' := t') (d' := d') u hok hg hch
end
abbrev XK := Value → Option Addr → Hp → Prop
abbrev St := List (Option V)
abbrev VK := V → Hp → Prop
abbrev TE := St → Hp → VK → Prop
abbrev TT := St → Hp → (Bool → Hp → Prop) → Prop
abbrev TA := St → Hp → (List V → Hp → Prop) → Prop
structure Ends where
 nx : St → Hp → Prop
 rt : VK
 bk : St → Hp → Prop := fun _ _ => False
 ct : St → Hp → Prop := fun _ _ => False
abbrev TS := Ends → St → Hp → Prop
def EP (X : Cx) (pins : List (Addr × Obj)) (σ : St) (Q : VK) (u : Value) (s' : Shared) : Prop := ∃ v H', Inv X pins σ H' s' ∧ RelV v u ∧ Q v H'
def TP (X : Cx) (pins : List (Addr × Obj)) (σ : St) (Q : Bool → Hp → Prop) (b : Bool) (s' : Shared) : Prop := ∃ H', Inv X pins σ H' s' ∧ Q b H'
def AP (X : Cx) (pins : List (Addr × Obj)) (σ : St) (Q : List V → Hp → Prop) (us : List Value) (s' : Shared) : Prop := ∃ vs H', Inv X pins σ H' s' ∧ Vals vs us ∧ Q vs H'
def SP (X : Cx) (pins : List (Addr × Obj)) (D : Ends) (f : Flow) (s' : Shared) : Prop :=
 match f with
 | .next => ∃ σ' H', Inv X pins σ' H' s' ∧ D.nx σ' H'
 | .brk => ∃ σ' H', Inv X pins σ' H' s' ∧ D.bk σ' H'
 | .cont => ∃ σ' H', Inv X pins σ' H' s' ∧ D.ct σ' H'
 | .ret u => ∃ v σ' H', Inv X pins σ' H' s' ∧ RelV v u ∧ D.rt v H'
def PE (X : Cx) (e : Expr) (t : TE) : Prop :=
 ∀ (pins : List (Addr × Obj)) (s : Shared) (σ : St) (H : Hp) (Q : VK), Inv X pins σ H s → t σ H Q → wpAny (model X.prog X.w) X.A (eval e X.env) (EP X pins σ Q) X.xe s
def PT (X : Cx) (e : Expr) (t : TT) : Prop :=
 ∀ (pins : List (Addr × Obj)) (s : Shared) (σ : St) (H : Hp) (Q : Bool → Hp → Prop), Inv X pins σ H s → t σ H Q → wpAny (model X.prog X.w) X.A (isTrue e X.env (eval e X.env)) (TP X pins σ Q) X.xe s
def PW (X : Cx) (e : Expr) (t : TT) : Prop :=
 ∀ (whole : Sem Value) (pins : List (Addr × Obj)) (s : Shared) (σ : St) (H : Hp) (Q : Bool → Hp → Prop), Inv X pins σ H s → t σ H Q → wpAny (model X.prog X.w) X.A (isTrue e X.env whole) (TP X pins σ Q) X.xe s
theorem PW.pt {X : Cx} {e : Expr} {t : TT} (h : PW X e t) : PT X e t := h _
def PA (X : Cx) (es : List Expr) (t : TA) : Prop :=
 ∀ (pos : Pos) (pins : List (Addr × Obj)) (s : Shared) (σ : St) (H : Hp) (Q : List V → Hp → Prop), Inv X pins σ H s → t σ H Q → wpAny (model X.prog X.w) X.A (spliced (backTo pos (starEach es X.env))) (AP X pins σ Q) X.xe s
def PS (X : Cx) (st : Stmt) (t : TS) : Prop :=
 ∀ (pins : List (Addr × Obj)) (s : Shared) (σ : St) (H : Hp) (D : Ends), Inv X pins σ H s → t D σ H → wpAny (model X.prog X.w) X.A (exec st X.env) (SP X pins D) X.xe s
def PSs (X : Cx) (st : List Stmt) (t : TS) : Prop :=
 ∀ (pins : List (Addr × Obj)) (s : Shared) (σ : St) (H : Hp) (D : Ends), Inv X pins σ H s → t D σ H → wpAny (model X.prog X.w) X.A (execs st X.env) (SP X pins D) X.xe s
theorem thn {α : Type} {t : Sem α} {Q Q' : α → Shared → Prop} {M : Model} {A : Around} {E : Value → Shared → Prop} {s : Shared} (h : wpAny M A t Q E s) (hQ : ∀ a s, Q a s → Q' a s) : wpAny M A t Q' E s := wpAny_mono h hQ fun _ _ x => x
end L2
namespace L2
open PySem PySem.Spec PyProof.Rows
section
variable {X : Cx}
def tVar (i : Nat) : TE := fun σ H Q => ∃ v, σ[i]? = some (some v) ∧ Q v H
def tC (v : V) : TE := fun _ H Q => Q v H
theorem Zd {i : Nat} {x : Str} {pos : Pos} (hN : X.N[i]? = some x) (hv : Vis X.env.scope x) (hd : (x == ("__debug__" : Str)) = false := by decide) (hcd : (x == ("__classdict__" : Str)) = false := by decide) : PE X (.Name x pos) (tVar i) := by
 intro pins s σ H Q I h
 obtain ⟨v, e, h⟩ := h
 obtain ⟨m, hn, hl⟩ := I.loc
 obtain ⟨u, r, l⟩ := hl i x v hN e hv
 have fin : EP X pins σ Q u s := ⟨v, H, I, r, h⟩
 rcases l with ⟨hk, hm⟩ | ⟨hk, c, hc, hcell⟩
 ·exact wpAny_Name (wpAny_loadName_local I.ok.kind hk hn hm fin) hd
 ·rcases hk with hk | hk
  ·exact wpAny_Name (wpAny_loadName_cell I.ok.kind hk hc hcell fin) hd
  ·exact wpAny_Name (wpAny_loadName_free I.ok.kind hk hc hcell fin hcd) hd
theorem Ze {i j pos} : PE X (.Constant (.int i) j pos) (tC (.int i)) := fun _ _ _ H _ I h => wpAny_Constant_int ⟨.int i, H, I.tok _, ⟨_, rfl⟩, h⟩
theorem bW {b j pos} : PE X (.Constant (.bool b) j pos) (tC (.bl b)) := fun _ _ _ H _ I h => Constant_bool ⟨.bl b, H, I, rfl, h⟩
theorem Zf {j pos} : PE X (.Constant .none j pos) (tC .non) := fun _ _ _ H _ I h => Constant_none ⟨.non, H, I, rfl, h⟩
theorem Zg {x j pos} : PE X (.Constant (.str x) j pos) (tC (.str x)) := fun _ _ _ H _ I h => Calls.Constant_str ⟨.str x, H, I.tok _, ⟨_, rfl⟩, h⟩
def Gl (X : Cx) (x : Str) : Prop := X.env.kindOf x = some .globalImplicit
theorem Gj {E : Value → Shared → Prop} {pins : List (Addr × Obj)} {s : Shared} {σ : St} {H : Hp} {x : Str} {u : Value} {pos : Pos} {Q : Value → Shared → Prop} (I : Inv X pins σ H s) (hg : Gl X x) (hm : X.mg x = some u) (h : Q u s)
  (hd : (x == ("__debug__" : Str)) = false := by decide) : wpAny (model X.prog X.w) X.A (eval (.Name x pos) X.env) Q E s :=
 Calls.Name_function_global I.ok.kind hg (Calls.loadGlobal_global (by rw [I.ok.glob]; exact I.mod.glob.keeps I.bk) hm h) hd
theorem QG {E : Value → Shared → Prop} {pins : List (Addr × Obj)} {s : Shared} {σ : St} {H : Hp} {x : Str} {u : Value} {pos : Pos} {Q : Value → Shared → Prop} (I : Inv X pins σ H s) (hg : Gl X x) (hm : X.mg x = none) (hv : bootBuiltins x = some u) (h : Q u s)
  (hn : x ≠ "__name__" := by decide) (hd : (x == ("__debug__" : Str)) = false := by decide) : wpAny (model X.prog X.w) X.A (eval (.Name x pos) X.env) Q E s := by
 obtain ⟨mb, h1, h2⟩ := I.mod.blt
 exact Calls.Name_function_global I.ok.kind hg (Calls.loadGlobal_builtin (by rw [I.ok.glob]; exact I.mod.glob.keeps I.bk) hm (by rw [I.ok.blt]; exact h1.keeps I.bk) ((h2 x hn).trans hv) h) hd
theorem Dz {x : Str} {v : V} {u : Value} {pos : Pos} (hg : Gl X x) (hm : X.mg x = some u) (r : RelV v u) (hd : (x == ("__debug__" : Str)) = false := by decide) : PE X (.Name x pos) (tC v) :=
 fun _ _ _ H _ I h => Gj I hg hm ⟨v, H, I, r, h⟩ hd
theorem W6 {x : Str} {v : V} {u : Value} {pos : Pos} (hg : Gl X x) (hm : X.mg x = none) (hv : bootBuiltins x = some u) (r : RelV v u) (hn : x ≠ "__name__" := by decide) (hd : (x == ("__debug__" : Str)) = false := by decide) : PE X (.Name x pos) (tC v) :=
 fun _ _ _ H _ I h => QG I hg hm hv ⟨v, H, I, r, h⟩ hn hd
def t2I (ta tb : TE) (k : Int → Int → Hp → Prop) : St → Hp → Prop := fun σ H => ta σ H fun x H1 => tb σ H1 fun y H2 => ∃ i j, x = .int i ∧ y = .int j ∧ k i j H2
variable {a b : Expr} {ta tb : TE} {pos : Pos}
def PC (X : Cx) (op : CmpOp) (a b : Expr) (t : TE) : Prop :=
 ∀ (pins : List (Addr × Obj)) (s : Shared) (σ : St) (H : Hp) (Q : VK), Inv X pins σ H s → t σ H Q →
  wpAny (model X.prog X.w) X.A (eval a X.env) (fun v s₁ => wpAny (model X.prog X.w) X.A (eval b X.env) (fun u s₂ => wpAny (model X.prog X.w) X.A (compareOp op v u) (EP X pins σ Q) X.xe s₂) X.xe s₁) X.xe s
theorem Ud (b : Expr) {op : CmpOp} (h : op ≠ .In) (h2 : op ≠ .NotIn) : behindInMarks op b = false := by
 have e1 : (op == CmpOp.In) = false := by cases op <;> first | rfl | exact absurd rfl h
 have e2 : (op == CmpOp.NotIn) = false := by cases op <;> first | rfl | exact absurd rfl h2
 cases b <;> simp [behindInMarks, e1, e2]
def tCmp (p : Int → Int → Bool) (ta tb : TE) : TE := fun σ H Q => t2I ta tb (fun i j H2 => Q (.bl (p i j)) H2) σ H
abbrev tLt : TE → TE → TE := tCmp fun i j => decide (i < j)
abbrev tGt : TE → TE → TE := tCmp fun i j => decide (j < i)
abbrev tGe : TE → TE → TE := tCmp fun i j => decide (j ≤ i)
theorem Zh {op : CmpOp} {t : TE} (h : PC X op a b t) (h1 : behindInMarks op b = false := by first | exact Ud _ (by decide) (by decide) | rfl) : PE X (.Compare a [op] [b] pos) t := fun pins s σ H Q I hw => wpAny_Compare1 (h pins s σ H Q I hw) h1
variable {tA tB' : TT} {rest : List Expr}
def tAnd (t u : TT) : TT := fun σ H Q => t σ H fun c H1 => if c = true then u σ H1 Q else Q false H1
def tOr (t u : TT) : TT := fun σ H Q => t σ H fun c H1 => if c = true then Q true H1 else u σ H1 Q
def tNot (t : TT) : TT := fun σ H Q => t σ H fun c H1 => Q (!c) H1
theorem W7 (ha : PT X a tA) : PW X (.BoolOp .And [a] pos) tA := by
 intro wh pins s σ H Q I h
 refine isTrue_and (thn (ha pins s σ H Q I h) fun c s1 e => ?_)
 cases c with
 | true => exact isTrue_and_nil e
 | false => exact e
theorem Ue (ha : PT X a tA) : PW X (.BoolOp .Or [a] pos) tA := by
 intro wh pins s σ H Q I h
 refine isTrue_or (thn (ha pins s σ H Q I h) fun c s1 e => ?_)
 cases c with
 | false => exact isTrue_or_nil e
 | true => exact e
theorem Zi (ha : PT X a tA) (hb : PW X (.BoolOp .And (b :: rest) pos) tB') : PW X (.BoolOp .And (a :: b :: rest) pos) (tAnd tA tB') := by
 intro wh pins s σ H Q I h
 refine isTrue_and (thn (ha pins s σ H _ I h) fun c s1 ⟨H1, I1, q1⟩ => ?_)
 cases c with
 | true => exact hb wh pins s1 σ H1 Q I1 q1
 | false => exact ⟨H1, I1, q1⟩
theorem Ys (ha : PT X a tA) (hb : PW X (.BoolOp .Or (b :: rest) pos) tB') : PW X (.BoolOp .Or (a :: b :: rest) pos) (tOr tA tB') := by
 intro wh pins s σ H Q I h
 refine isTrue_or (thn (ha pins s σ H _ I h) fun c s1 ⟨H1, I1, q1⟩ => ?_)
 cases c with
 | true => exact ⟨H1, I1, q1⟩
 | false => exact hb wh pins s1 σ H1 Q I1 q1
theorem Zj (ha : PT X a tA) : PT X (.UnaryOp .Not a pos) (tNot tA) := by
 intro pins s σ H Q I h
 exact isTrue_not (ha pins s σ H (fun c H1 => Q (!c) H1) I h)
def bY (ta tb : TE) : TE := fun σ H Q => ta σ H fun x H1 => ∃ c, x = .bl c ∧ if c = true then tb σ H1 Q else Q (.bl false) H1
theorem Zk {op} {t : TE} (h : PE X a t) : PE X (.BoolOp op [a] pos) t := fun pins s σ H Q I hw => BoolOp_one (h pins s σ H Q I hw)
theorem Zm (ha : PE X a ta) (hb : PE X (.BoolOp .And (b :: rest) pos) tb) : PE X (.BoolOp .And (a :: b :: rest) pos) (bY ta tb) := by
 intro pins s σ H Q I h
 refine BoolOp_and (thn (ha pins s σ H _ I h) fun v s1 ⟨x, H1, I1, r1, q1⟩ => ?_)
 obtain ⟨c, rfl, q1⟩ := q1
 cases r1
 refine wpAny_truthy_bool ?_
 cases c with
 | true => exact hb pins s1 σ H1 Q I1 q1
 | false => exact ⟨.bl false, H1, I1, rfl, q1⟩
end
end L2
namespace L2
open PySem PySem.Spec PyProof.Rows
def SqL (K : PySem.W.Frag) (H : Hp) (a : Addr) (xs : List V) : Prop :=
 Rd H a (.lst xs) ∨
  ∃ (o : Obj) (its : Array Value) (n : Nat), K.lookup a = some o ∧ o.cls = .type "list" ∧ o.dict = none ∧ o.data = .seq its n ∧ its.size ≤ sizeLine ∧ Vals xs its.toList
def SqT (K : PySem.W.Frag) (H : Hp) (a : Addr) (xs : List V) : Prop :=
 Rd H a (.tup xs) ∨
  ∃ (o : Obj) (its : Array Value) (n : Nat), K.lookup a = some o ∧ o.cls = .type "tuple" ∧ o.data = .seq its n ∧ its.size ≤ sizeLine ∧ Vals xs its.toList
def absV : Value → Option V
 | .none => some .non
 | .bool b => some (.bl b)
 | .int i _ => some (.int i)
 | .str x _ => some (.str x)
 | .bytes b _ => some (.byt b)
 | .float b _ => some (.flt b)
 | .ref a => some (.ref a)
 | .type n => some (.ty n)
 | _ => none
theorem RelV.abs {x : V} {u : Value} (r : RelV x u) : absV u = some x := by
 cases x with
 | non => cases r; rfl
 | bl _ => cases r; rfl
 | int _ => obtain ⟨t, rfl⟩ := r; rfl
 | str _ => obtain ⟨t, rfl⟩ := r; rfl
 | byt _ => obtain ⟨t, rfl⟩ := r; rfl
 | flt _ => obtain ⟨t, rfl⟩ := r; rfl
 | ref _ => cases r; rfl
 | ty _ => cases r; rfl
theorem RelV.inj {x y : V} {u : Value} (r : RelV x u) (q : RelV y u) : x = y := Option.some.inj (r.abs.symm.trans q.abs)
theorem Vals.inj : ∀ {xs ys : List V} {us : List Value}, Vals xs us → Vals ys us → xs = ys
 | _, _, _, .nil, .nil => rfl
 | _, _, _, .cons r t, .cons r' t' => by rw [r.inj r', Vals.inj t t']
section
variable {X : Cx} {pins : List (Addr × Obj)} {σ : St} {H : Hp} {s : Shared} {a : Addr} {xs ys : List V}
theorem SqL.of {K : PySem.W.Frag} (h : H a = some (.lst xs)) : SqL K H a xs := .inl (.inl h)
theorem SqT.of {K : PySem.W.Frag} (h : H a = some (.tup xs)) : SqT K H a xs := .inl (.inl h)
theorem Inv.list (I : Inv X pins σ H s) (h : SqL X.K H a xs) : ∃ its : List Value, Vals xs its ∧ PlainL s.heap a its.toArray ∧ xs.length ≤ sizeLine := by
 rcases h with h | ⟨o, its, n, hk, hc, hd, hs, hz, r⟩
 ·obtain ⟨z, its, n, r, e⟩ := h.ok I.hok
  exact ⟨its, r, ⟨_, n, e, rfl, rfl, rfl⟩, z⟩
 ·refine ⟨its.toList, r, ⟨o, n, I.kIn a o hk, hc, hd, by simpa using hs⟩, ?_⟩
  have e := r.length
  simp only [Array.length_toList] at e
  omega
theorem Inv.tuple (I : Inv X pins σ H s) (h : SqT X.K H a xs) : ∃ its : List Value, Vals xs its ∧ IsTup s.heap a its.toArray ∧ xs.length ≤ sizeLine := by
 rcases h with h | ⟨o, its, n, hk, hc, hs, hz, r⟩
 ·obtain ⟨z, its, r, p⟩ := h.ok I.hok
  exact ⟨its, r, p, z⟩
 ·refine ⟨its.toList, r, ⟨o, I.kIn a o hk, hc, n, by simpa using hs⟩, ?_⟩
  have e := r.length
  simp only [Array.length_toList] at e
  omega
theorem Inv.list_inj (I : Inv X pins σ H s) (h : SqL X.K H a xs) (h' : SqL X.K H a ys) : xs = ys := by
 obtain ⟨its, r, ⟨o, n, e, _, _, d⟩, _⟩ := I.list h
 obtain ⟨its', r', ⟨o', n', e', _, _, d'⟩, _⟩ := I.list h'
 rw [e] at e'; cases e'
 rw [d] at d'
 injection d' with d1 _
 have : its = its' := by simpa using congrArg Array.toList d1
 subst this
 exact r.inj r'
theorem Inv.tuple_inj (I : Inv X pins σ H s) (h : SqT X.K H a xs) (h' : SqT X.K H a ys) : xs = ys := by
 obtain ⟨its, r, ⟨o, e, _, n, d⟩, _⟩ := I.tuple h
 obtain ⟨its', r', ⟨o', e', _, n', d'⟩, _⟩ := I.tuple h'
 rw [e] at e'; cases e'
 rw [d] at d'
 injection d' with d1 _
 have : its = its' := by simpa using congrArg Array.toList d1
 subst this
 exact r.inj r'
end
abbrev Cx.wish (X : Cx) (E : Value → Shared → Prop) : Cx := { X with xe := E }
abbrev Cx.nox (X : Cx) : Cx := X.wish fun _ _ => False
theorem Cx.Ok.wish {X : Cx} (ok : X.Ok) (E : Value → Shared → Prop) : (X.wish E).Ok :=
 ⟨ok.mod, ok.kind, ok.glob, ok.blt, ok.above, ok.inj, ok.has, ok.cab, ok.hd, ok.frames, ok.stk, ok.exf, ok.bs, ok.bsz, ok.noex, ok.exfs, ok.funs, ok.frf⟩
theorem Cx.Ok.unwish {X : Cx} {E : Value → Shared → Prop} (ok : (X.wish E).Ok) : X.Ok :=
 ⟨ok.mod, ok.kind, ok.glob, ok.blt, ok.above, ok.inj, ok.has, ok.cab, ok.hd, ok.frames, ok.stk, ok.exf, ok.bs, ok.bsz, ok.noex, ok.exfs, ok.funs, ok.frf⟩
section
variable {X : Cx} {pins : List (Addr × Obj)} {σ : St} {H : Hp} {s : Shared} {E : Value → Shared → Prop}
theorem Inv.wish (I : Inv X pins σ H s) (E : Value → Shared → Prop) : Inv (X.wish E) pins σ H s := ⟨I.ok.wish E, I.os, I.bare, I.base, I.loc, I.cell, I.free, I.freeC, I.pin, I.hok, I.len⟩
theorem Inv.unwish (I : Inv (X.wish E) pins σ H s) : Inv X pins σ H s := ⟨I.ok.unwish, I.os, I.bare, I.base, I.loc, I.cell, I.free, I.freeC, I.pin, I.hok, I.len⟩
theorem SP.unwish {D : Ends} {f : Flow} {s' : Shared} (h : SP (X.wish E) pins D f s') : SP X pins D f s' := by
 cases f with
 | next => obtain ⟨σ', H', I, q⟩ := h; exact ⟨σ', H', I.unwish, q⟩
 | brk => obtain ⟨σ', H', I, q⟩ := h; exact ⟨σ', H', I.unwish, q⟩
 | cont => obtain ⟨σ', H', I, q⟩ := h; exact ⟨σ', H', I.unwish, q⟩
 | ret u => obtain ⟨v, σ', H', I, r, q⟩ := h; exact ⟨v, σ', H', I.unwish, r, q⟩
theorem PE.nox {e : Expr} {t : TE} (h : PE X.nox e t) : PE X e t := fun pins s σ H Q I hw =>
 wpAny_mono (h pins s σ H Q (I.wish _) hw) (fun _ _ ⟨v, H', I', r, q⟩ => ⟨v, H', I'.unwish, r, q⟩) fun _ _ z => False.elim z
theorem PT.nox {e : Expr} {t : TT} (h : PT X.nox e t) : PT X e t := fun pins s σ H Q I hw =>
 wpAny_mono (h pins s σ H Q (I.wish _) hw) (fun _ _ ⟨H', I', q⟩ => ⟨H', I'.unwish, q⟩) fun _ _ z => False.elim z
theorem PSs.nox {st : List Stmt} {t : TS} (h : PSs X.nox st t) : PSs X st t := fun pins s σ H D I hw =>
 wpAny_mono (h pins s σ H D (I.wish _) hw) (fun _ _ q => q.unwish) fun _ _ z => False.elim z
end
section
variable {X : Cx} {st : Stmt} {rest : List Stmt} {t u : TS} {e : Expr} {te : TE} {pos : Pos}
def bZ : TS := fun D σ H => D.nx σ H
def tSeq (t u : TS) : TS := fun D σ H => t { D with nx := u D } σ H
theorem Lr : PSs X [] bZ := fun _ _ σ H _ I h => wpAny_execs_nil ⟨σ, H, I, h⟩
theorem Fq (h1 : PS X st t) (h2 : PSs X rest u) : PSs X (st :: rest) (tSeq t u) := by
 intro pins s σ H D I h
 refine wpAny_execs_cons (thn (h1 pins s σ H { D with nx := u D } I h) fun f s1 q => ?_)
 cases f with
 | next =>
  obtain ⟨σ', H', I', q⟩ := q
  exact h2 pins s1 σ' H' D I' q
 | ret v => exact q
 | brk => exact q
 | cont => exact q
theorem Ja (h1 : PS X st t) : PSs X [st] t := by
 intro pins s σ H D I h
 refine wpAny_execs_cons (thn (h1 pins s σ H D I h) fun f s1 q => ?_)
 cases f with
 | next => exact wpAny_execs_nil q
 | ret v => exact q
 | brk => exact q
 | cont => exact q
theorem Inv.quiet {pins : List (Addr × Obj)} {σ : St} {H : Hp} {s : Shared} (I : Inv X pins σ H s) : interactive X.env = false := by simp [interactive, I.ok.kind]
def Yt (te : TE) : TS := fun D σ H => te σ H fun _ H1 => D.nx σ H1
theorem Q3 (he : PE X e te) (hs : swapsWith e none pos.line X.env = pure false := by rfl) : PS X (.Expr e pos) (Yt te) := by
 intro pins s σ H D I h
 exact wpAny_Expr_any (thn (he pins s σ H _ I h) fun v s1 ⟨x, H1, I1, r1, q1⟩ => ⟨σ, H1, I1, q1⟩) I.quiet hs
def tRet (te : TE) : TS := fun D σ H => te σ H D.rt
theorem Zn (he : PE X e te) : PS X (.Return (some e) pos) (tRet te) := by
 intro pins s σ H D I h
 exact wpAny_Return_some (thn (he pins s σ H _ I h) fun v s1 ⟨x, H1, I1, r1, q1⟩ => ⟨x, σ, H1, I1, r1, q1⟩)
def tIfS (c : TT) (t u : TS) : TS := fun D σ H => c σ H fun b H1 => if b = true then t D σ H1 else u D σ H1
theorem Ug {c : Expr} {a b : List Stmt} {tc : TT} (hc : PT X c tc) (ha : PSs X a t) (hb : PSs X b u) : PS X (.If c a b pos) (tIfS tc t u) := by
 intro pins s σ H D I h
 refine wpAny_If (thn (hc pins s σ H _ I h) fun d s1 ⟨H1, I1, q1⟩ => ?_)
 cases d with
 | true => exact ha pins s1 σ H1 D I1 q1
 | false => exact hb pins s1 σ H1 D I1 q1
end
abbrev TG := V → St → Hp → (St → Hp → Prop) → Prop
abbrev TGs := List V → St → Hp → (St → Hp → Prop) → Prop
def PG (X : Cx) (target : Expr) (t : TG) : Prop :=
 ∀ (pins : List (Addr × Obj)) (s : Shared) (σ : St) (H : Hp) (v : V) (u : Value) (Q : St → Hp → Prop), Inv X pins σ H s → RelV v u → t v σ H Q →
  wpAny (model X.prog X.w) X.A (assign target X.env u) (fun _ s' => ∃ σ' H', Inv X pins σ' H' s' ∧ Q σ' H') X.xe s
def PGs (X : Cx) (ts : List Expr) (t : TGs) : Prop :=
 ∀ (pins : List (Addr × Obj)) (s : Shared) (σ : St) (H : Hp) (vs : List V) (us : List Value) (Q : St → Hp → Prop), Inv X pins σ H s → Vals vs us → t vs σ H Q →
  wpAny (model X.prog X.w) X.A (assignInOrder ((assignEach ts X.env).map (·.2)) us) (fun _ s' => ∃ σ' H', Inv X pins σ' H' s' ∧ Q σ' H') X.xe s
section
variable {X : Cx} {pos : Pos}
def Gu (i : Nat) : TG := fun v σ H Q => Q (σ.set i (some v)) H
theorem W8 {i : Nat} {x : Str} (hN : X.N.Nodup) (hi : X.N[i]? = some x) (hx : Loc X.env.scope x) (hf : X.fn x = true ∨ X.env.scope.names.lookup x = some .local := by first | exact .inl rfl | exact .inr rfl | assumption) : PG X (.Name x pos) (Gu i) := by
 intro pins s σ H v u Q I r h
 exact wpAny_assign_Name (HR I hN hi hx r (fun s' I' => ⟨_, H, I', h⟩) hf)
def gNil : TGs := fun vs σ H Q => vs = [] ∧ Q σ H
def bc (t : TG) (u : TGs) : TGs := fun vs σ H Q => ∃ v r, vs = v :: r ∧ t v σ H fun σ' H' => u r σ' H' Q
theorem W9 : PGs X [] gNil := by
 intro pins s σ H vs us Q I r h
 obtain ⟨e, h⟩ := h
 subst e
 cases r
 exact assignInOrder_nil ⟨σ, H, I, h⟩
theorem Uh {e : Expr} {es : List Expr} {t : TG} {u : TGs} (h1 : PG X e t) (h2 : PGs X es u)
  (hs : (assignEach (e :: es) X.env).map (·.2) = assign e X.env :: (assignEach es X.env).map (·.2) := by rfl) : PGs X (e :: es) (bc t u) := by
 intro pins s σ H vs us Q I r h
 obtain ⟨v, vr, e1, h⟩ := h
 subst e1
 cases r with
 | cons r rr =>
  rw [hs]
  refine assignInOrder_cons (thn (h1 pins s σ H _ _ _ I r h) fun _ s1 ⟨σ1, H1, I1, q1⟩ => ?_)
  exact h2 pins s1 σ1 H1 _ _ Q I1 rr q1
def gTup (K : PySem.W.Frag) (n : Nat) (t : TGs) : TG := fun v σ H Q => ∃ a xs, v = .ref a ∧ SqT K H a xs ∧ xs.length = n ∧ t xs σ H Q
theorem Zo {es : List Expr} {k : Nat} {t : TGs} {n : Nat} (hc : X.calm = true) (h : PGs X es t)
  (hn : (assignEach es X.env).length = n := by rfl) (hst : (assignEach es X.env).findIdx? (·.1) = none := by rfl) : PG X (.Tuple es k pos) (gTup X.K n t) := by
 intro pins s σ H v u Q I r hw
 obtain ⟨a, xs, e1, hq, hl, hw⟩ := hw
 subst e1
 cases r
 obtain ⟨its, rv, ht, hz⟩ := I.tuple hq
 refine assign_Tuple_tuple (I.ok.hd hc) ht (by simp [hn, ← hl, rv.length]) hst fun h' hx => ?_
 have I1 : Inv X pins σ H { s with heap := h' } := I.kept (t' := s.toks) fun b o e => hx b o (Nat.ne_of_lt (Heap.lt_size e)) e
 exact h pins _ σ H xs _ Q I1 (by simpa using rv) hw
def tAsg (te : TE) (g : TG) : TS := fun D σ H => te σ H fun x H1 => g x σ H1 D.nx
theorem QH {i : Nat} {x : Str} {e : Expr} {te : TE} {pos' : Pos} (hN : X.N.Nodup) (hi : X.N[i]? = some x) (hx : Loc X.env.scope x) (he : PE X e te) (hs : swapsWith e (some (.Name x pos')) pos.line X.env = pure false := by rfl) (hf : X.fn x = true ∨ X.env.scope.names.lookup x = some .local := by first | exact .inl rfl | exact .inr rfl | assumption) :
  PS X (.Assign [.Name x pos'] e pos) (tAsg te (Gu i)) := by
 intro pins s σ H D I h
 refine wpAny_Assign_Name (thn (he pins s σ H _ I h) fun v s1 ⟨y, H1, I1, r1, q1⟩ => ?_) hs
 exact HR I1 hN hi hx r1 (fun s2 I2 => ⟨_, H1, I2, q1⟩) hf
end
section
variable {X : Cx} {pos : Pos}
end
structure It where
 go : Nat → Hp → Prop
 yld : Nat → Hp → V → Hp → Prop
 stop : Nat → Hp → Prop
def FpOk (X : Cx) (pins : List (Addr × Obj)) (H : Hp) (b : Addr) : Prop :=
 H b = none ∧ b ≠ X.env.locals ∧ b ∉ X.fs ∧ (b ∈ X.ex ∨ X.s₀.heap.objs.size ≤ b) ∧ (∀ x c, X.env.cells.lookup x = some c → c ≠ b) ∧ ∀ p ∈ X.pn ++ pins, p.1 ≠ b
theorem Inv.fpOk {X : Cx} {pins : List (Addr × Obj)} {σ : St} {H H' : Hp} {s : Shared} {b : Addr} (I : Inv X pins σ H s) (hb : s.heap.objs.size ≤ b) (hn : H' b = none) : FpOk X pins H' b := by
 refine ⟨hn, Nat.ne_of_gt (Nat.lt_of_lt_of_le I.lt hb), I.nofs hb, .inr (Nat.le_trans I.sz hb), fun x c e z => ?_, fun p hp z => ?_⟩
 ·obtain ⟨v, q⟩ := I.cell x c e
  exact absurd (Nat.lt_of_lt_of_le q.lt (by rw [z]; exact hb)) (Nat.lt_irrefl _)
 ·exact absurd (Nat.lt_of_lt_of_le (Heap.lt_size (I.pin p hp).1) (by rw [z]; exact hb)) (Nat.lt_irrefl _)
structure Turn (P : Program) (w : World) (K : PySem.W.Frag) (tg : Expr) (J : It) (fp : List Addr) (it : Addr) (tn : Nat → Heap → Prop) : Prop where
 mem : it ∈ fp
 obj : ∀ i h, tn i h → ∀ b ∈ fp, ∃ o, h.get? b = some o ∧ ∀ v, o.data ≠ .cell v
 keep : ∀ i h h', tn i h → (∀ b ∈ fp, ∀ o, h.get? b = some o → h'.get? b = some o) → tn i h'
 item : ∀ (X : Cx), X.prog = P → X.w = w → X.K = K → X.calm = true → ∀ (i : Nat) (pins : List (Addr × Obj)) (s : Shared) (σ : St) (H : Hp) (E : Value → Shared → Prop), Inv X pins σ H s → (∀ b ∈ fp, FpOk X pins H b) → tn i s.heap → J.go i H →
  wpAny (model P w) X.A (pyNext (.ref it)) (fun r s1 => ∃ u, r = some u ∧
   wpAny (model P w) X.A (letOwnedTupleGo tg (.ref it) u) (fun _ s2 => ∃ x H', Inv X pins σ H' s2 ∧ RelV x u ∧ J.yld i H x H' ∧ tn (i + 1) s2.heap ∧ ∀ b ∈ fp, H' b = none) E s1) E s
 done : ∀ (X : Cx), X.prog = P → X.w = w → X.K = K → X.calm = true → ∀ (i : Nat) (pins : List (Addr × Obj)) (s : Shared) (σ : St) (H : Hp) (E : Value → Shared → Prop), Inv X pins σ H s → (∀ b ∈ fp, FpOk X pins H b) → tn i s.heap → J.stop i H →
  wpAny (model P w) X.A (pyNext (.ref it)) (fun r s1 => r = none ∧ Inv X pins σ H s1) E s
 self : ∀ (A : Around) (i : Nat) (s : Shared) (Q : Value → Shared → Prop) (E : Value → Shared → Prop), tn i s.heap → Q (.ref it) s → wpAny (model P w) A (pyIter (.ref it)) Q E s
abbrev TI := St → Hp → (It → Hp → Prop) → Prop
def PIE (X : Cx) (pins : List (Addr × Obj)) (σ : St) (tg : Expr) (R : It → Hp → Prop) (itv : Value) (s2 : Shared) : Prop :=
 ∃ (it : Addr) (fp : List Addr) (tn : Nat → Heap → Prop) (J : It) (H' : Hp), itv = .ref it ∧ Inv X pins σ H' s2 ∧ Turn X.prog X.w X.K tg J fp it tn ∧ tn 0 s2.heap ∧ (∀ b ∈ fp, FpOk X pins H' b) ∧ R J H'
def PI (X : Cx) (tg iter : Expr) (wi : TI) : Prop :=
 ∀ (pins : List (Addr × Obj)) (s : Shared) (σ : St) (H : Hp) (R : It → Hp → Prop), Inv X pins σ H s → wi σ H R →
  wpAny (model X.prog X.w) X.A (eval iter X.env) (fun v s1 => wpAny (model X.prog X.w) X.A (pyIter v) (PIE X pins σ tg R) X.xe s1) X.xe s
theorem Ou {M : Model} {A : Around} {E : Value → Shared → Prop} {s : Shared} {tg : Expr} {it : Addr} {u : Value} {o : Obj} {n : String} {vs : Array Value} {Q : Unit → Shared → Prop} (ho : s.heap.get? it = some o) (hc : o.cls = .type n) (hd : o.data = .fields vs)
    (hn : ["enumerate", "zip", "dict_itemiterator", "dict_reverseitemiterator", "odict_iterator", "itertools.zip_longest", "itertools.pairwise"].contains n = false) (hQ : Q () s) : wpAny M A (letOwnedTupleGo tg (.ref it) u) Q E s := by
  unfold letOwnedTupleGo
  cases tg <;> first
    | exact wpAny_pure hQ
    | (cases u <;> first
        | exact wpAny_pure hQ
        | (refine wpAny_bind (wpAny_load ho ?_)
           rw [hc, hd]
           show wpAny M A (if (["enumerate", "zip", "dict_itemiterator", "dict_reverseitemiterator", "odict_iterator", "itertools.zip_longest", "itertools.pairwise"].contains n && vs[0]? == some (rawInt _)) = true then _ else _) Q E s
           rw [if_neg (by intro h; rw [hn, Bool.false_and] at h; cases h)]
           exact wpAny_pure hQ))
def Itl (K : PySem.W.Frag) (a : Addr) : It :=
 ⟨fun i H => ∃ xs x, SqL K H a xs ∧ xs[i]? = some x, fun i H x H' => H' = H ∧ ∀ xs, SqL K H a xs → xs[i]? = some x, fun i H => ∃ xs, SqL K H a xs ∧ xs.length ≤ i⟩
def Itt (K : PySem.W.Frag) (a : Addr) : It :=
 ⟨fun i H => ∃ xs x, SqT K H a xs ∧ xs[i]? = some x, fun i H x H' => H' = H ∧ ∀ xs, SqT K H a xs → xs[i]? = some x, fun i H => ∃ xs, SqT K H a xs ∧ xs.length ≤ i⟩
def Itr (lo : Int) (n : Nat) : It := ⟨fun i _ => i < n, fun i H x H' => H' = H ∧ x = .int (lo + i), fun i _ => n ≤ i⟩
theorem Tf {P : Program} {w : World} {K : PySem.W.Frag} {tg : Expr} (a it : Addr) : Turn P w K tg (Itl K a) [it] it (fun i h => h.IsListIter it a i) where
 mem := by simp
 obj := fun i h st b hb => by
  have e : b = it := by simpa using hb
  subst e
  obtain ⟨o, e, c, d⟩ := st
  exact ⟨o, e, fun v z => by rw [d] at z; cases z⟩
 keep := fun i h h' st k => st.at fun o e => k it (by simp) o e
 item := by
  intro X hP hw hK hc i pins s σ H E I hf st hg
  subst hP hw hK
  obtain ⟨xs, x, hq, hx⟩ := hg
  obtain ⟨its, rv, p, hz⟩ := I.list hq
  obtain ⟨u, hu, ru⟩ := rv.get hx
  obtain ⟨f0, f1, f2, f3, f4, f5⟩ := hf it (by simp)
  refine wpAny_pyNext_list_item st p.isList (x := u) (by simpa using hu) fun h' st' sb => ?_
  have I1 : Inv X pins σ H { s with heap := h' } := I.turned (t' := s.toks) (fun b o hb e => (sb.2 b hb).trans e) f0 f1 f3 f4 f5
  obtain ⟨o, e, c, d⟩ := id st'
  exact ⟨u, rfl, Ou (s := { s with heap := h' }) e c d (by decide) ⟨x, H, I1, ru, ⟨rfl, fun ys hy => by rw [I.list_inj hy hq]; exact hx⟩, st', fun b hb => (hf b hb).1⟩⟩
 done := by
  intro X hP hw hK hc i pins s σ H E I hf st hg
  subst hP hw hK
  obtain ⟨xs, hq, hx⟩ := hg
  obtain ⟨its, rv, p, hz⟩ := I.list hq
  obtain ⟨f0, f1, f2, f3, f4, f5⟩ := hf it (by simp)
  have hl := rv.length
  exact wpAny_pyNext_list_end (I.ok.hd hc) st p.isList (by simp; omega) fun h' eb => ⟨rfl, I.turned (t' := s.toks) (fun b o hb e => eb b o hb e) f0 f1 f3 f4 f5⟩
 self := fun _ _ _ _ _ st h => wpAny_pyIter_listiter st h
theorem QJ {P : Program} {w : World} {K : PySem.W.Frag} {tg : Expr} (a it : Addr) : Turn P w K tg (Itt K a) [it] it (fun i h => h.IsTupleIter it a i) where
 mem := by simp
 obj := fun i h st b hb => by
  have e : b = it := by simpa using hb
  subst e
  obtain ⟨o, e, c, d⟩ := st
  exact ⟨o, e, fun v z => by rw [d] at z; cases z⟩
 keep := fun i h h' st k => st.at fun o e => k it (by simp) o e
 item := by
  intro X hP hw hK hc i pins s σ H E I hf st hg
  subst hP hw hK
  obtain ⟨xs, x, hq, hx⟩ := hg
  obtain ⟨its, rv, p, hz⟩ := I.tuple hq
  obtain ⟨u, hu, ru⟩ := rv.get hx
  obtain ⟨f0, f1, f2, f3, f4, f5⟩ := hf it (by simp)
  refine wpAny_pyNext_tuple_item st (show s.heap.IsTuple a its.toArray from p) (x := u) (by simpa using hu) fun h' st' sb => ?_
  have I1 : Inv X pins σ H { s with heap := h' } := I.turned (t' := s.toks) (fun b o hb e => (sb.2 b hb).trans e) f0 f1 f3 f4 f5
  obtain ⟨o, e, c, d⟩ := id st'
  exact ⟨u, rfl, Ou (s := { s with heap := h' }) e c d (by decide) ⟨x, H, I1, ru, ⟨rfl, fun ys hy => by rw [I.tuple_inj hy hq]; exact hx⟩, st', fun b hb => (hf b hb).1⟩⟩
 done := by
  intro X hP hw hK hc i pins s σ H E I hf st hg
  subst hP hw hK
  obtain ⟨xs, hq, hx⟩ := hg
  obtain ⟨its, rv, p, hz⟩ := I.tuple hq
  obtain ⟨f0, f1, f2, f3, f4, f5⟩ := hf it (by simp)
  have hl := rv.length
  exact wpAny_pyNext_tuple_end (I.ok.hd hc) st (show s.heap.IsTuple a its.toArray from p) (by simp; omega) fun h' eb => ⟨rfl, I.turned (t' := s.toks) (fun b o hb e => eb b o hb e) f0 f1 f3 f4 f5⟩
 self := fun _ _ _ _ _ st h => wpAny_pyIter_tupleiter st h
theorem QK {P : Program} {w : World} {K : PySem.W.Frag} {tg : Expr} (it : Addr) (lo : Int) (n : Nat) : Turn P w K tg (Itr lo n) [it] it (fun i h => IsRangeIter h it (lo + (i : Nat) * 1) ((n : Int) - (i : Nat)) 1) where
 mem := by simp
 obj := fun i h st b hb => by
  have e : b = it := by simpa using hb
  subst e
  exact ⟨_, st, fun v z => by
   have z' : Data.fields _ = Data.cell v := z
   cases z'⟩
 keep := fun i h h' st k => k it (by simp) _ st
 item := by
  intro X hP hw hK hc i pins s σ H E I hf st hg
  subst hP hw hK
  obtain ⟨f0, f1, f2, f3, f4, f5⟩ := hf it (by simp)
  have W := Walks.range (prog := X.prog) (w := X.w) (I.ok.hd hc) it lo 1 n
  refine W.item i s _ _ hg st fun v h' tk hv st' kk => ?_
  obtain ⟨t, rfl⟩ := hv
  have I1 : Inv X pins σ H { s with heap := h', toks := tk } := I.turned (fun b o hb e => kk b o (by simpa using hb) e) f0 f1 f3 f4 f5
  refine ⟨_, rfl, Ou (s := { s with heap := h', toks := tk }) (n := "range_iterator") st' rfl rfl (by decide) ⟨.int (lo + i), H, I1, ⟨t, ?_⟩, ⟨rfl, rfl⟩, st', fun b hb => (hf b hb).1⟩⟩
  rw [Int.mul_one]
 done := by
  intro X hP hw hK hc i pins s σ H E I hf st hg
  subst hP hw hK
  obtain ⟨f0, f1, f2, f3, f4, f5⟩ := hf it (by simp)
  exact wpAny_pyNext_range_end (I.ok.hd hc) st (by have : n ≤ i := hg; omega) fun h' eb => ⟨rfl, I.turned (t' := s.toks) (fun b o hb e => eb b o hb e) f0 f1 f3 f4 f5⟩
 self := fun _ _ _ _ _ st h => wpAny_pyIter_rangeiter st h
end L2
namespace L2
open PySem PySem.Spec PyProof.Rows
section
variable {X : Cx} {tg : Expr}
def bf (K : PySem.W.Frag) (tl : TE) : TI := fun σ H R => tl σ H fun x H1 => ∃ a, x = .ref a ∧ (∃ xs, SqL K H1 a xs) ∧ R (Itl K a) H1
def iTup (K : PySem.W.Frag) (tl : TE) : TI := fun σ H R => tl σ H fun x H1 => ∃ a, x = .ref a ∧ (∃ xs, SqT K H1 a xs) ∧ R (Itt K a) H1
theorem W_ {l : Expr} {tl : TE} (hl : PE X l tl) : PI X tg l (bf X.K tl) := by
 intro pins s σ H R I h
 refine thn (hl pins s σ H _ I h) fun v s1 ⟨x, H1, I1, r1, q1⟩ => ?_
 obtain ⟨a, e, ⟨xs, hq⟩, q⟩ := q1
 subst e
 cases r1
 obtain ⟨its, rv, p, hz⟩ := I1.list hq
 refine wpAny_pyIter_list p.isList ?_
 refine ⟨s1.heap.objs.size, [s1.heap.objs.size], _, _, H1, rfl, I1.kept (t' := s1.toks) fun b o e => Heap.get?_push_of_some _ e, Tf a _, ⟨_, Heap.get?_push_size _ rfl, rfl, rfl⟩, fun b hb => ?_, q⟩
 have e : b = s1.heap.objs.size := by simpa using hb
 subst e
 exact I1.fpOk (Nat.le_refl _) (I1.hok.fresh (Nat.le_refl _))
theorem Zq {l : Expr} {tl : TE} (hl : PE X l tl) : PI X tg l (iTup X.K tl) := by
 intro pins s σ H R I h
 refine thn (hl pins s σ H _ I h) fun v s1 ⟨x, H1, I1, r1, q1⟩ => ?_
 obtain ⟨a, e, ⟨xs, hq⟩, q⟩ := q1
 subst e
 cases r1
 obtain ⟨its, rv, p, hz⟩ := I1.tuple hq
 refine wpAny_pyIter_tuple (show s1.heap.IsTuple a its.toArray from p) ?_
 refine ⟨s1.heap.objs.size, [s1.heap.objs.size], _, _, H1, rfl, I1.kept (t' := s1.toks) fun b o e => Heap.get?_push_of_some _ e, QJ a _, ⟨_, Heap.get?_push_size _ rfl, rfl, rfl⟩, fun b hb => ?_, q⟩
 have e : b = s1.heap.objs.size := by simpa using hb
 subst e
 exact I1.fpOk (Nat.le_refl _) (I1.hok.fresh (Nat.le_refl _))
theorem Ui {pins : List (Addr × Obj)} {σ : St} {H : Hp} {s : Shared} {R : It → Hp → Prop} {E : Value → Shared → Prop} {lo hi : Int} {t u v : Tok} {tk : Nat} (I : Inv X pins σ H s) (h1 : -(2 ^ 62) ≤ lo) (h2 : lo < 2 ^ 62) (h3 : -(2 ^ 62) ≤ hi) (h4 : hi < 2 ^ 62)
  (q : R (Itr lo (hi - lo).toNat) H) : wpAny (model X.prog X.w) X.A (pyIter (.ref s.heap.objs.size)) (PIE X pins σ tg R) E { s with heap := s.heap.push { cls := .type "range", data := .fields #[.int lo t, .int hi u, .int 1 v] }, toks := tk } := by
 refine wpAny_pyIter_range (IsRange.new ..) (small_one h1 h2 h3 h4) ?_
 have I1 : Inv X pins σ H { s with heap := s.heap.push { cls := .type "range", data := .fields #[.int lo t, .int hi u, .int 1 v] }, toks := tk } := I.kept fun b o e => Heap.get?_push_of_some _ e
 refine ⟨(s.heap.push { cls := .type "range", data := .fields #[.int lo t, .int hi u, .int 1 v] }).objs.size, [(s.heap.push { cls := .type "range", data := .fields #[.int lo t, .int hi u, .int 1 v] }).objs.size], _, _, H, rfl,
  I1.kept (t' := tk) fun b o e => Heap.get?_push_of_some _ e, QK _ lo (hi - lo).toNat, ?_, fun b hb => ?_, q⟩
 ·have e1 : lo + ((0 : Nat) : Int) * 1 = lo := by simp
  have e2 : (((hi - lo).toNat : Nat) : Int) - ((0 : Nat) : Int) = Builtin.Range.rangeSize lo hi 1 := by rw [rangeSize_one]; split <;> omega
  show IsRangeIter _ _ (lo + ((0 : Nat) : Int) * 1) ((((hi - lo).toNat : Nat) : Int) - ((0 : Nat) : Int)) 1
  rw [e1, e2]
  exact Heap.get?_push_size _ rfl
 ·have e : b = (s.heap.push { cls := .type "range", data := .fields #[.int lo t, .int hi u, .int 1 v] }).objs.size := by simpa using hb
  subst e
  exact I1.fpOk (Nat.le_refl _) (I1.hok.fresh (Nat.le_refl _))
def bh (ta : TA) : TI := fun σ H R => ta σ H fun vs H1 => ∃ j : Int, vs = [.int j] ∧ -(2 ^ 62) ≤ j ∧ j < 2 ^ 62 ∧ R (Itr 0 j.toNat) H1
theorem Tg {a : Expr} {ta : TA} {p pos : Pos} (hg : Gl X "range") (hm : X.mg "range" = none) (ha : PA X [a] ta) (hs : starEach [a] X.env = [(false, eval a X.env)] := by rfl) : PI X tg (.Call (.Name "range" p) [a] [] pos) (bh ta) := by
 intro pins s σ H R I h
 refine Call_ (QG I hg hm boot_range (PyProof.Rows.callWith_type1 (thn (ha pos pins s σ H _ I h) fun us s1 ⟨vs, H1, I1, r1, q1⟩ => ?_) hs rfl))
 obtain ⟨j, e, q1, q2, q⟩ := q1
 subst e
 cases r1 with
 | cons r rr =>
  cases rr
  obtain ⟨t, rfl⟩ := r
  exact call_range_1 (Ui I1 (by omega) (by omega) q1 q2 (by simpa using q))
def tFor (wi : TI) (g : TG) (tb : TS) : TS := fun D σ H => wi σ H fun J H1 => ∃ W : Nat → Nat → St → Hp → Prop, (∃ m, W 0 m σ H1) ∧ ∀ i m σ H, W i m σ H →
 (J.stop i H ∧ D.nx σ H) ∨ (J.go i H ∧ ∃ N : St → Hp → Prop, (∀ σ' H', N σ' H' → ∃ m', m' < m ∧ W (i + 1) m' σ' H') ∧ ∀ x H', J.yld i H x H' → g x σ H' fun σ2 H2 => tb { D with nx := N, ct := N, bk := D.nx } σ2 H2)
def Jx (fp : List Addr) (h : Heap) : List (Addr × Obj) := fp.filterMap fun b => (h.get? b).map fun o => (b, o)
theorem Ez {fp : List Addr} {h : Heap} {b : Addr} {o : Obj} (hb : b ∈ fp) (e : h.get? b = some o) : (b, o) ∈ Jx fp h := List.mem_filterMap.mpr ⟨b, hb, by rw [e]; rfl⟩
theorem Th {fp : List Addr} {h : Heap} {p : Addr × Obj} (hp : p ∈ Jx fp h) : p.1 ∈ fp ∧ h.get? p.1 = some p.2 := by
 obtain ⟨b, hb, e⟩ := List.mem_filterMap.mp hp
 cases q : h.get? b with
 | none => rw [q] at e; cases e
 | some o =>
  rw [q] at e
  have e' : (b, o) = p := Option.some.inj e
  subst e'
  exact ⟨hb, q⟩
theorem Inv.pinned {pins : List (Addr × Obj)} {σ : St} {H : Hp} {s : Shared} {fp : List Addr} (I : Inv X pins σ H s) (hf : ∀ b ∈ fp, FpOk X pins H b) (ho : ∀ b ∈ fp, ∃ o, s.heap.get? b = some o ∧ ∀ v, o.data ≠ .cell v) : Inv X (pins ++ Jx fp s.heap) σ H s :=
 I.pins_of fun p hp => (List.mem_append.mp hp).elim (fun z => I.pin p (List.mem_append_right _ z)) fun z => by
  obtain ⟨hb, e⟩ := Th z
  obtain ⟨f0, f1, f2, _⟩ := hf p.1 hb
  obtain ⟨o, e', d⟩ := ho p.1 hb
  rw [e] at e'; cases e'
  exact ⟨e, f0, f1, f2, d⟩
theorem Inv.unpinned {pins pl : List (Addr × Obj)} {σ : St} {H : Hp} {s : Shared} (I : Inv X (pins ++ pl) σ H s) : Inv X pins σ H s := I.pins_of fun p hp => I.pin p (List.mem_append_right _ (List.mem_append_left _ hp))
theorem Uj {iter : Expr} {body : List Stmt} {wi : TI} {g : TG} {tb : TS} {pos : Pos} (hp : PassesOwn (model X.prog X.w) X.A X.env X.xe) (hc : X.calm = true) (hi : PI X tg iter wi) (hg : PG X tg g) (hb : PSs X body tb)
  (hs : ∀ x, foldedSetIterable iter X.env x = pure x := by intro _; rfl) : PS X (.For tg iter body [] pos) (tFor wi g tb) := by
 intro pins s σ H D I h
 refine wpAny_For (thn (hi pins s σ H _ I h) fun v s1 h1 => thn h1 fun itv s2 h2 => ?_) hs
 obtain ⟨it, fp, tn, J, H2, e, I2, T, st2, f2, W, ⟨m0, w0⟩, turn⟩ := h2
 subst e
 have stat : ∀ {H' : Hp}, (∀ b ∈ fp, H' b = none) → ∀ b ∈ fp, FpOk X pins H' b := fun hn b hb => ⟨hn b hb, (f2 b hb).2⟩
 refine codeAny_forLoop_any (fun n s' => ∃ i σ' H', Inv X pins σ' H' s' ∧ tn i s'.heap ∧ (∀ b ∈ fp, H' b = none) ∧ W i n σ' H') ?_ m0 ⟨0, σ, H2, I2, st2, fun b hb => (f2 b hb).1, w0⟩
 rintro n s3 ⟨i, σ3, H3, I3, st3, fr3, w3⟩
 rcases turn i n σ3 H3 w3 with ⟨stop, qn⟩ | ⟨go, N, hN, step⟩
 ·refine wpAny_passesOwn hp (thn (T.done X rfl rfl rfl hc i pins s3 σ3 H3 X.xe I3 (stat fr3) st3 stop) fun r s4 ⟨hr, I4⟩ => ?_)
  subst hr
  exact wpAny_execs_nil ⟨σ3, H3, I4, qn⟩
 ·refine wpAny_passesOwn hp (thn (T.item X rfl rfl rfl hc i pins s3 σ3 H3 X.xe I3 (stat fr3) st3 go) fun r s4 ⟨u, hr, h4⟩ => ?_)
  subst hr
  refine wpAny_passesOwn hp (thn h4 fun _ s5 ⟨x, H5, I5, r5, y5, st5, fr5⟩ => ?_)
  have I5' := I5.pinned (stat fr5) (T.obj _ _ st5)
  refine wpAny_passesOwn hp (thn (hg _ s5 σ3 H5 x u _ I5' r5 (step x H5 y5)) fun _ s6 ⟨σ6, H6, I6, q6⟩ => ?_)
  refine wpAny_passesOwn hp (thn (hb _ s6 σ6 H6 _ I6 q6) fun f s7 q7 => ?_)
  have again : ∀ {σ7 : St} {H7 : Hp}, Inv X (pins ++ Jx fp s5.heap) σ7 H7 s7 → N σ7 H7 → ∃ m, m < n ∧ ∃ i σ' H', Inv X pins σ' H' s7 ∧ tn i s7.heap ∧ (∀ b ∈ fp, H' b = none) ∧ W i m σ' H' := fun {σ7 H7} I7 n7 => by
   obtain ⟨m', hm, w7⟩ := hN σ7 H7 n7
   refine ⟨m', hm, i + 1, σ7, H7, I7.unpinned, T.keep _ _ _ st5 fun b hb o e => (I7.pin (b, o) (List.mem_append_right _ (List.mem_append_right _ (Ez hb e)))).1, fun b hb => ?_, w7⟩
   obtain ⟨o, e, d⟩ := T.obj _ _ st5 b hb
   exact (I7.pin (b, o) (List.mem_append_right _ (List.mem_append_right _ (Ez hb e)))).2.1
  cases f with
  | next => obtain ⟨σ7, H7, I7, n7⟩ := q7; exact again I7 n7
  | cont => obtain ⟨σ7, H7, I7, n7⟩ := q7; exact again I7 n7
  | brk => obtain ⟨σ7, H7, I7, q7⟩ := q7; exact ⟨σ7, H7, I7.unpinned, q7⟩
  | ret v => obtain ⟨x7, σ7, H7, I7, r7, q7⟩ := q7; exact ⟨x7, σ7, H7, I7.unpinned, r7, q7⟩
end
end L2
namespace L2
open PySem PySem.Spec PyProof.Rows
abbrev R2 := V → V → Hp → VK → Prop
def OpR (X : Cx) (f : Value → Value → Sem Value) (r : R2) : Prop :=
 ∀ (pins : List (Addr × Obj)) (s : Shared) (σ : St) (H : Hp) (x y : V) (v u : Value) (Q : VK), Inv X pins σ H s → RelV x v → RelV y u → r x y H Q →
  wpAny (model X.prog X.w) X.A (f v u) (EP X pins σ Q) X.xe s
def D_ (X : Cx) (f : Value) (r : List V → Hp → VK → Prop) : Prop :=
 ∀ (pins : List (Addr × Obj)) (s : Shared) (σ : St) (H : Hp) (xs : List V) (us : List Value) (Q : VK), Inv X pins σ H s → Vals xs us → r xs H Q →
  wpAny (model X.prog X.w) X.A (call f us) (EP X pins σ Q) X.xe s
def TruR (X : Cx) (r : V → Hp → (Bool → Hp → Prop) → Prop) : Prop :=
 ∀ (pins : List (Addr × Obj)) (s : Shared) (σ : St) (H : Hp) (x : V) (v : Value) (Q : Bool → Hp → Prop), Inv X pins σ H s → RelV x v → r x H Q →
  wpAny (model X.prog X.w) X.A (truthy v) (TP X pins σ Q) X.xe s
def tOp (r : R2) (ta tb : TE) : TE := fun σ H Q => ta σ H fun x H1 => tb σ H1 fun y H2 => r x y H2 Q
def rI (C : Int → Int → Prop) (g : Int → Int → V) : R2 := fun x y H Q => ∃ i j, x = .int i ∧ y = .int j ∧ C i j ∧ Q (g i j) H
def rI0 (g : Int → Int → V) : R2 := fun x y H Q => ∃ i j, x = .int i ∧ y = .int j ∧ Q (g i j) H
section
variable {X : Cx} {a b c : Expr} {ta tb tc : TE} {pos : Pos}
theorem binT (ha : PE X a ta) (hb : PE X b tb) {pins : List (Addr × Obj)} {s : Shared} {σ : St} {H : Hp} {R : V → V → Hp → Prop} (I : Inv X pins σ H s)
  (h : ta σ H fun x H1 => tb σ H1 fun y H2 => R x y H2) {Q : Value → Shared → Prop} {f : Value → Value → Sem Value}
  (hf : ∀ v u s2 x y H2, Inv X pins σ H2 s2 → RelV x v → RelV y u → R x y H2 → wpAny (model X.prog X.w) X.A (f v u) Q X.xe s2) :
  wpAny (model X.prog X.w) X.A (eval a X.env) (fun v s₁ => wpAny (model X.prog X.w) X.A (eval b X.env) (fun u s₂ => wpAny (model X.prog X.w) X.A (f v u) Q X.xe s₂) X.xe s₁) X.xe s := by
 refine thn (ha pins s σ H _ I h) fun v s1 ⟨x, H1, I1, r1, q1⟩ => ?_
 refine thn (hb pins s1 σ H1 _ I1 q1) fun u s2 ⟨y, H2, I2, r2, q2⟩ => ?_
 exact hf v u s2 x y H2 I2 r1 r2 q2
theorem bj {op : Operator} {r : R2} (ho : OpR X (binaryOp op) r) (ha : PE X a ta) (hb : PE X b tb) : PE X (.BinOp a op b pos) (tOp r ta tb) := by
 intro pins s σ H Q I h
 exact wpAny_BinOp (binT ha hb I h fun v u s2 x y H2 I2 rx ry q => ho pins s2 σ H2 x y v u Q I2 rx ry q)
theorem opI {f : Value → Value → Sem Value} {C : Int → Int → Prop} {g : Int → Int → Int}
  (rule : ∀ (i j : Int) (t u : Tok) (s : Shared) (Q : Value → Shared → Prop) (E : Value → Shared → Prop), C i j → Q (.int (g i j) s.toks) { s with toks := s.toks + 1 } → wpAny (model X.prog X.w) X.A (f (.int i t) (.int j u)) Q E s) :
  OpR X f (rI C fun i j => .int (g i j)) := by
 intro pins s σ H x y v u Q I rx ry h
 obtain ⟨i, j, rfl, rfl, hc, q⟩ := h
 obtain ⟨t, rfl⟩ := rx
 obtain ⟨t', rfl⟩ := ry
 exact rule i j t t' s _ _ hc ⟨.int (g i j), H, I.tok _, ⟨_, rfl⟩, q⟩
theorem opI0 {f : Value → Value → Sem Value} {g : Int → Int → Int}
  (rule : ∀ (i j : Int) (t u : Tok) (s : Shared) (Q : Value → Shared → Prop) (E : Value → Shared → Prop), Q (.int (g i j) s.toks) { s with toks := s.toks + 1 } → wpAny (model X.prog X.w) X.A (f (.int i t) (.int j u)) Q E s) :
  OpR X f (rI0 fun i j => .int (g i j)) := by
 intro pins s σ H x y v u Q I rx ry h
 obtain ⟨i, j, rfl, rfl, q⟩ := h
 obtain ⟨t, rfl⟩ := rx
 obtain ⟨t', rfl⟩ := ry
 exact rule i j t t' s _ _ ⟨.int (g i j), H, I.tok _, ⟨_, rfl⟩, q⟩
theorem opB0 {f : Value → Value → Sem Value} {g : Int → Int → Bool}
  (rule : ∀ (i j : Int) (t u : Tok) (s : Shared) (Q : Value → Shared → Prop) (E : Value → Shared → Prop), Q (.bool (g i j)) s → wpAny (model X.prog X.w) X.A (f (.int i t) (.int j u)) Q E s) :
  OpR X f (rI0 fun i j => .bl (g i j)) := by
 intro pins s σ H x y v u Q I rx ry h
 obtain ⟨i, j, rfl, rfl, q⟩ := h
 obtain ⟨t, rfl⟩ := rx
 obtain ⟨t', rfl⟩ := ry
 exact rule i j t t' s _ _ ⟨.bl (g i j), H, I, rfl, q⟩
def CDiv (i j : Int) : Prop := 0 < j ∧ j < 1073741824
def CPow (i j : Int) : Prop := 0 ≤ j ∧ j ≤ 1000000 ∧ i.natAbs < 2 ^ 64
def CMul (i j : Int) : Prop := (-(2 ^ 64) < i ∧ i < 2 ^ 64) ∨ (-(2 ^ 64) < j ∧ j < 2 ^ 64)
theorem CMul.ok {i j : Int} (h : CMul i j) : IntMulOk i j := by
 rcases h with ⟨h1, h2⟩ | ⟨h1, h2⟩
 ·exact .of_left (intBits_le_64 h1 h2)
 ·exact .of_right (intBits_le_64 h1 h2)
theorem Zr : OpR X (binaryOp .Add) (rI0 fun i j => .int (i + j)) := opI0 fun _ _ _ _ _ _ _ q => add_int q
theorem XD : OpR X (binaryOp .FloorDiv) (rI CDiv fun i j => .int (i / j)) := opI fun i j _ _ _ _ _ hc q => by
 have h1 : (0 : Int) < j := hc.1
 have h2 : j < 1073741824 := hc.2
 exact floordiv_int (by omega) (by rw [Int.fdiv_eq_ediv_of_nonneg i (by omega)]; exact q) (.inl (PyProof.noPylong_small (by omega)))
theorem Zt : OpR X (binaryOp .Mod) (rI (fun _ j => 0 < j) fun i j => .int (i % j)) := opI fun i j _ _ _ _ _ hc q => by
 have h1 : (0 : Int) < j := hc
 exact mod_int' (by omega) (by rw [Int.fmod_eq_emod_of_nonneg i (by omega)]; exact q)
end
def scal : V → V → Bool
 | .non, .non => true | .non, .int _ => true | .int _, .non => true | .non, .bl _ => true | .bl _, .non => true | .non, .str _ => true | .str _, .non => true
 | .int _, .int _ => true | .bl _, .bl _ => true | .str _, .str _ => true | .byt _, .byt _ => true
 | .int _, .str _ => true | .str _, .int _ => true | .bl _, .str _ => true | .str _, .bl _ => true
 | _, _ => false
def rEq : R2 := fun x y H Q => scal x y = true ∧ Q (.bl (decide (x = y))) H
def rNe : R2 := fun x y H Q => scal x y = true ∧ Q (.bl (!decide (x = y))) H
theorem Q4 {i j : Int} : decide (V.int i = V.int j) = (i == j) := by
 rw [Bool.eq_iff_iff]
 simp
theorem Uk {i j : Bool} : decide (V.bl i = V.bl j) = (i == j) := by
 rw [Bool.eq_iff_iff]
 simp
theorem Q5 {i j : Str} : decide (V.str i = V.str j) = (i == j) := by
 rw [Bool.eq_iff_iff]
 simp
theorem Q6 {i j : Array UInt8} : decide (V.byt i = V.byt j) = (i.toList == j.toList) := by
 rw [Bool.eq_iff_iff]
 cases i
 cases j
 simp
section
variable {X : Cx} {a b c : Expr} {ta tb tc : TE} {pos : Pos}
theorem Az {pins : List (Addr × Obj)} {σ : St} {H : Hp} {s : Shared} {Q : VK} {k k' : Bool} (I : Inv X pins σ H s) (q : Q (.bl k) H) (e : k = k') : EP X pins σ Q (.bool k') s := by
 subst e
 exact ⟨.bl k, H, I, rfl, q⟩
theorem bu : OpR X (compareOp .Eq) rEq := by
 intro pins s σ H x y v u Q I rx ry h
 obtain ⟨hs, q⟩ := h
 cases x with
 | non =>
  cases rx
  cases y with
  | non => cases ry; exact PySem.EqNone.eq_none_none (Az I q (by simp))
  | bl j => cases ry; exact PySem.EqNone.eq_none_bool (Az I q (by simp))
  | int j => obtain ⟨t', rfl⟩ := ry; exact PySem.EqNone.eq_none_int (Az I q (by simp))
  | str j => obtain ⟨t', rfl⟩ := ry; exact PySem.EqNone.eq_none_str (Az I q (by simp))
  | _ => exact absurd (show false = true from hs) Bool.false_ne_true
 | bl i =>
  cases rx
  cases y with
  | non => cases ry; exact PySem.EqNone.eq_bool_none (Az I q (by simp))
  | bl j => cases ry; exact eq_bool (Az I q Uk)
  | str j => obtain ⟨t', rfl⟩ := ry; exact PySem.EqMixed.eq_bool_str (Az I q (by simp))
  | _ => exact absurd (show false = true from hs) Bool.false_ne_true
 | int i =>
  obtain ⟨t, rfl⟩ := rx
  cases y with
  | non => cases ry; exact PySem.EqNone.eq_int_none (Az I q (by simp))
  | int j => obtain ⟨t', rfl⟩ := ry; exact eq_int (Az I q Q4)
  | str j => obtain ⟨t', rfl⟩ := ry; exact PySem.EqMixed.eq_int_str (Az I q (by simp))
  | _ => exact absurd (show false = true from hs) Bool.false_ne_true
 | str i =>
  obtain ⟨t, rfl⟩ := rx
  cases y with
  | non => cases ry; exact PySem.EqNone.eq_str_none (Az I q (by simp))
  | bl j => cases ry; exact PySem.EqMixed.eq_str_bool (Az I q (by simp))
  | int j => obtain ⟨t', rfl⟩ := ry; exact PySem.EqMixed.eq_str_int (Az I q (by simp))
  | str j => obtain ⟨t', rfl⟩ := ry; exact eq_str (Az I q Q5)
  | _ => exact absurd (show false = true from hs) Bool.false_ne_true
 | byt i =>
  obtain ⟨t, rfl⟩ := rx
  cases y with
  | byt j => obtain ⟨t', rfl⟩ := ry; exact PySem.W.eq_bytes (Az I q Q6)
  | _ => exact absurd (show false = true from hs) Bool.false_ne_true
 | _ => cases y <;> exact absurd (show false = true from hs) Bool.false_ne_true
theorem bw : OpR X (compareOp .NotEq) rNe := by
 intro pins s σ H x y v u Q I rx ry h
 obtain ⟨hs, q⟩ := h
 cases x with
 | non =>
  cases rx
  cases y with
  | non => cases ry; exact PySem.EqNone.ne_none_none (Az I q (by simp))
  | bl j => cases ry; exact PySem.EqNone.ne_none_bool (Az I q (by simp))
  | int j => obtain ⟨t', rfl⟩ := ry; exact PySem.EqNone.ne_none_int (Az I q (by simp))
  | str j => obtain ⟨t', rfl⟩ := ry; exact PySem.EqNone.ne_none_str (Az I q (by simp))
  | _ => exact absurd (show false = true from hs) Bool.false_ne_true
 | bl i =>
  cases rx
  cases y with
  | non => cases ry; exact PySem.EqNone.ne_bool_none (Az I q (by simp))
  | bl j => cases ry; exact ne_bool (Az I q (congrArg not Uk))
  | str j => obtain ⟨t', rfl⟩ := ry; exact PySem.EqMixed.ne_bool_str (Az I q (by simp))
  | _ => exact absurd (show false = true from hs) Bool.false_ne_true
 | int i =>
  obtain ⟨t, rfl⟩ := rx
  cases y with
  | non => cases ry; exact PySem.EqNone.ne_int_none (Az I q (by simp))
  | int j => obtain ⟨t', rfl⟩ := ry; exact ne_int (Az I q (congrArg not Q4))
  | str j => obtain ⟨t', rfl⟩ := ry; exact PySem.EqMixed.ne_int_str (Az I q (by simp))
  | _ => exact absurd (show false = true from hs) Bool.false_ne_true
 | str i =>
  obtain ⟨t, rfl⟩ := rx
  cases y with
  | non => cases ry; exact PySem.EqNone.ne_str_none (Az I q (by simp))
  | bl j => cases ry; exact PySem.EqMixed.ne_str_bool (Az I q (by simp))
  | int j => obtain ⟨t', rfl⟩ := ry; exact PySem.EqMixed.ne_str_int (Az I q (by simp))
  | str j => obtain ⟨t', rfl⟩ := ry; exact ne_str (Az I q (congrArg not Q5))
  | _ => exact absurd (show false = true from hs) Bool.false_ne_true
 | byt i =>
  obtain ⟨t, rfl⟩ := rx
  cases y with
  | byt j => obtain ⟨t', rfl⟩ := ry; exact PySem.W.ne_bytes (Az I q (congrArg not Q6))
  | _ => exact absurd (show false = true from hs) Bool.false_ne_true
 | _ => cases y <;> exact absurd (show false = true from hs) Bool.false_ne_true
theorem bx : OpR X (compareOp .Lt) (rI0 fun i j => .bl (decide (i < j))) := opB0 fun _ _ _ _ _ _ _ q => lt_int q
theorem bz : OpR X (compareOp .Gt) (rI0 fun i j => .bl (decide (j < i))) := opB0 fun _ _ _ _ _ _ _ q => gt_int q
theorem b_ : OpR X (compareOp .GtE) (rI0 fun i j => .bl (decide (j ≤ i))) := opB0 fun _ _ _ _ _ _ _ q => ge_int q
theorem Ti : OpR X (compareOp .In) (fun x y H Q => ∃ i j, x = .str i ∧ y = .str j ∧ Q (.bl (!(Builtin.Str.occurrences j i 0 j.length 1).isEmpty)) H) := by
 intro pins s σ H x y v u Q I rx ry h
 obtain ⟨i, j, rfl, rfl, q⟩ := h
 obtain ⟨t, rfl⟩ := rx
 obtain ⟨t', rfl⟩ := ry
 exact in_str (Az I q rfl)
theorem Ls : OpR X (compareOp .NotIn) (fun x y H Q => ∃ i j, x = .str i ∧ y = .str j ∧ Q (.bl (!(!(Builtin.Str.occurrences j i 0 j.length 1).isEmpty))) H) := by
 intro pins s σ H x y v u Q I rx ry h
 obtain ⟨i, j, rfl, rfl, q⟩ := h
 obtain ⟨t, rfl⟩ := rx
 obtain ⟨t', rfl⟩ := ry
 exact notIn_str (Az I q rfl)
theorem OpR.or {f : Value → Value → Sem Value} {r r' : R2} (h : OpR X f r) (h' : OpR X f r') : OpR X f (fun x y H Q => r x y H Q ∨ r' x y H Q) := by
 intro pins s σ H x y v u Q I rx ry q
 rcases q with q | q
 ·exact h pins s σ H x y v u Q I rx ry q
 ·exact h' pins s σ H x y v u Q I rx ry q
theorem Hy (b : Expr) {op : CmpOp} (h : op ≠ .In := by decide) (h2 : op ≠ .NotIn := by decide) : behindInMarks op b = false := by
 have e1 : (op == CmpOp.In) = false := by cases op <;> first | rfl | exact absurd rfl h
 have e2 : (op == CmpOp.NotIn) = false := by cases op <;> first | rfl | exact absurd rfl h2
 cases b <;> simp [behindInMarks, e1, e2]
theorem Q7 {op : CmpOp} {r : R2} (ho : OpR X (compareOp op) r) (ha : PE X a ta) (hb : PE X b tb) (hm : behindInMarks op b = false) : PE X (.Compare a [op] [b] pos) (tOp r ta tb) := by
 intro pins s σ H Q I h
 exact wpAny_Compare1 (binT ha hb I h fun v u s2 x y H2 I2 rx ry q => ho pins s2 σ H2 x y v u Q I2 rx ry q) hm
def cA (t : TE) : TT := fun σ H Q => t σ H fun x H' => ∃ k, x = .bl k ∧ Q k H'
theorem Q8 {op : CmpOp} {r : R2} (ho : OpR X (compareOp op) r) (ha : PE X a ta) (hb : PE X b tb) (hm : behindInMarks op b = false) : PT X (.Compare a [op] [b] pos) (cA (tOp r ta tb)) := by
 intro pins s σ H Q I h
 refine wpAny_isTrue_Compare1 (thn (ha pins s σ H _ I h) fun v s1 ⟨x, H1, I1, r1, q1⟩ => thn (hb pins s1 σ H1 _ I1 q1) fun u s2 ⟨y, H2, I2, r2, q2⟩ =>
  thn (ho pins s2 σ H2 x y v u _ I2 r1 r2 q2) fun c s3 ⟨z, H3, I3, r3, k, e, q3⟩ => ?_) hm
 subst e
 cases r3
 exact wpAny_truthy_bool ⟨H3, I3, q3⟩
def TruV (K : PySem.W.Frag) (x : V) (H : Hp) (k : Bool) : Prop :=
 match x with
 | .non => k = false
 | .bl b => k = b
 | .int i => k = (i != 0)
 | .str y => y.length ≤ sizeLine ∧ k = ((y.length : Int) != 0)
 | .byt y => y.size ≤ sizeLine ∧ k = ((y.size : Int) != 0)
 | .ref p => (∃ xs, SqL K H p xs ∧ k = !xs.isEmpty) ∨ (∃ xs, SqT K H p xs ∧ k = !xs.isEmpty) ∨ ∃ kvs, H p = some (.dK kvs) ∧ k = !kvs.isEmpty
 | _ => False
theorem QL {κ : Type} {kvs : List (κ × V)} {vs : List (κ × Value)} (r : KV kvs vs) : (!vs.isEmpty) = !kvs.isEmpty := by
 cases r <;> rfl
theorem Jy {xs : List V} {its : List Value} (r : Vals xs its) : (!its.toArray.isEmpty) = !xs.isEmpty := by
 cases r <;> simp
theorem Jz : (sizeLine : Nat) < 2 ^ 63 := by rw [sizeLine_eq]; decide
theorem Zu : TruR X (fun x H Q => ∃ k, TruV X.K x H k ∧ Q k H) := by
 intro pins s σ H x v Q I rx h
 obtain ⟨k, e, q⟩ := h
 have hl := Jz
 have hs : sizeLine = 16777216 := sizeLine_eq
 cases x with
 | non =>
  cases rx
  have e' : k = false := e
  subst e'
  exact truthy_none ⟨H, I, q⟩
 | bl b =>
  cases rx
  have e' : k = b := e
  subst e'
  exact wpAny_truthy_bool ⟨H, I, q⟩
 | int i =>
  obtain ⟨t, rfl⟩ := rx
  have e' : k = (i != 0) := e
  subst e'
  exact PySem.P.truthy_int ⟨H, I, q⟩
 | str y =>
  obtain ⟨t, rfl⟩ := rx
  obtain ⟨hy, e'⟩ : y.length ≤ sizeLine ∧ k = ((y.length : Int) != 0) := e
  subst e'
  exact PySem.P.truthy_str (by omega) ⟨H, I.tok _, q⟩
 | byt y =>
  obtain ⟨t, rfl⟩ := rx
  obtain ⟨hy, e'⟩ : y.size ≤ sizeLine ∧ k = ((y.size : Int) != 0) := e
  subst e'
  exact PySem.W.truthy_bytes (by omega) ⟨H, I.tok _, q⟩
 | ref p =>
  cases rx
  have e' : (∃ xs, SqL X.K H p xs ∧ k = !xs.isEmpty) ∨ (∃ xs, SqT X.K H p xs ∧ k = !xs.isEmpty) ∨ ∃ kvs, H p = some (.dK kvs) ∧ k = !kvs.isEmpty := e
  rcases e' with ⟨xs, hx, e'⟩ | ⟨xs, hx, e'⟩ | ⟨kvs, hx, e'⟩
  ·subst e'
   obtain ⟨its, r, pl, hz⟩ := I.list hx
   have hlen := r.length
   exact wpAny_truthy_list pl.isList (by simp only [List.size_toArray]; omega) ⟨H, I.tok _, by rw [Jy r]; exact q⟩
  ·subst e'
   obtain ⟨its, r, pl, hz⟩ := I.tuple hx
   have hlen := r.length
   exact truthy_tuple pl (by simp only [List.size_toArray]; omega) ⟨H, I.tok _, by rw [Jy r]; exact q⟩
  ·subst e'
   obtain ⟨hz, hS, vs, r, m⟩ : kvs.length ≤ sizeLine ∧ (p == sysModules) = false ∧ ∃ vs, KV kvs vs ∧ s.heap.DictOf (A_ X.prog X.w) p vs := I.hok p _ hx
   have hlen : kvs.length = vs.length := Paired.length r
   exact wpAny_truthy_dict hS m (by omega) ⟨H, I.tok _, by rw [QL r]; exact q⟩
 | _ => exact (show False from e).elim
theorem Ul (ha : PE X a ta) (he : ∀ whole, isTrue a X.env whole = (do let v ← whole; standAt a.pos; holding [v] (truthy v))) :
  PT X a (fun σ H Q => ta σ H fun x H' => ∃ k, TruV X.K x H' k ∧ Q k H') := by
 intro pins s σ H Q I h
 exact isTrue_plain (thn (ha pins s σ H _ I h) fun v s1 ⟨x, H1, I1, r1, q1⟩ => Zu pins s1 σ H1 x v Q I1 r1 q1) (he _)
theorem QM : OpR X (binaryOp .Add) (fun x y H Q => ∃ i j, x = .str i ∧ y = .str j ∧ i.length + j.length ≤ sizeLine ∧ Q (.str (i ++ j)) H) := by
 intro pins s σ H x y v u Q I rx ry h
 obtain ⟨i, j, rfl, rfl, hz, q⟩ := h
 obtain ⟨t, rfl⟩ := rx
 obtain ⟨t', rfl⟩ := ry
 exact add_str (fun t' tk => ⟨.str (i ++ j), H, I.tok _, ⟨_, rfl⟩, q⟩) hz
theorem vals1 {x : V} {us : List Value} (r : Vals [x] us) : ∃ u, us = [u] ∧ RelV x u := by
 cases r with
 | cons r1 r2 => cases r2; exact ⟨_, rfl, r1⟩
def LenV (K : PySem.W.Frag) (x : V) (H : Hp) (n : Nat) : Prop :=
 match x with
 | .str y => y.length ≤ sizeLine ∧ n = y.length
 | .byt y => y.size ≤ sizeLine ∧ n = y.size
 | .ref p => (∃ xs, SqL K H p xs ∧ n = xs.length) ∨ ∃ xs, SqT K H p xs ∧ n = xs.length
 | _ => False
theorem Um : D_ X (.builtin "len") (fun xs H Q => ∃ x n, xs = [x] ∧ LenV X.K x H n ∧ Q (.int n) H) := by
 intro pins s σ H xs us Q I r h
 obtain ⟨x, n, rfl, e, q⟩ := h
 obtain ⟨u, rfl, rx⟩ := vals1 r
 have hl := Jz
 have hs : sizeLine = 16777216 := sizeLine_eq
 cases x with
 | str y =>
  obtain ⟨t, rfl⟩ := rx
  obtain ⟨hy, e'⟩ : y.length ≤ sizeLine ∧ n = y.length := e
  subst e'
  exact len_str (by omega) ⟨.int _, H, I.tok _, ⟨_, rfl⟩, q⟩
 | byt y =>
  obtain ⟨t, rfl⟩ := rx
  obtain ⟨hy, e'⟩ : y.size ≤ sizeLine ∧ n = y.size := e
  subst e'
  exact PySem.W.len_bytes (by omega) ⟨.int _, H, I.tok _, ⟨_, rfl⟩, q⟩
 | ref p =>
  cases rx
  have e' : (∃ xs, SqL X.K H p xs ∧ n = xs.length) ∨ ∃ xs, SqT X.K H p xs ∧ n = xs.length := e
  rcases e' with ⟨xs, hx, e'⟩ | ⟨xs, hx, e'⟩
  ·subst e'
   obtain ⟨its, r', pl, hz⟩ := I.list hx
   have hlen := r'.length
   exact Calls.call_len_list pl.isList (by simp only [List.size_toArray]; omega) ⟨.int xs.length, H, I.tok _, ⟨_, by simp only [List.size_toArray]; rw [hlen]⟩, q⟩
  ·subst e'
   obtain ⟨its, r', pl, hz⟩ := I.tuple hx
   have hlen := r'.length
   exact len_tuple pl (by simp only [List.size_toArray]; omega) ⟨.int xs.length, H, I.tok _, ⟨_, by simp only [List.size_toArray]; rw [hlen]⟩, q⟩
 | _ => exact (show False from e).elim
end
end L2
namespace L2
open PySem PySem.Spec PyProof.Rows
structure ObjM (h : Heap) (x dx C : Addr) (mA : Str → Option Value) : Prop where
 obj : h.get? x = some (PySem.W.instObj C dx)
 ns : h.Ns1 dx mA
 ne : dx ≠ x
theorem Hz {h : Heap} {dx : Addr} {mA : Str → Option Value} (n : h.Ns1 dx mA) : ∃ od, h.get? dx = some od ∧ ∀ name, PySem.W.lookIn name od = some (mA name) := by
 obtain ⟨o, es, ep, ho, hd, hk, _, hm⟩ := n
 refine ⟨o, ho, fun name => ?_⟩
 have e := hm name
 unfold nsFind findBy at e
 rw [← Array.find?_toList] at e
 unfold PySem.W.lookIn
 rw [hd]
 dsimp only
 split
 ·rename_i y q
  rw [q] at e
  exact congrArg some e
 ·rename_i q
  rw [q] at e
  have a : es.toList.any (·.refKey) = false := by
   rw [List.any_eq_false]
   intro y hy
   obtain ⟨z, t, hkey⟩ := hk y (Array.mem_toList_iff.mp hy)
   simp [DictEntry.refKey, hkey]
  have a' : ¬ es.toList.any (·.refKey) = true := by rw [a]; exact Bool.false_ne_true
  rw [if_neg a']
  exact congrArg some e
theorem ObjM.look {h : Heap} {x dx C : Addr} {mA : Str → Option Value} (I : ObjM h x dx C mA) : ∃ od, PySem.W.InstAt h x (PySem.W.instObj C dx) C (some od) ∧ ∀ name, PySem.W.lookIn name od = some (mA name) :=
 let ⟨od, ho, hl⟩ := Hz I.ns
 ⟨od, ⟨I.obj, rfl, rfl, ho⟩, hl⟩
section
variable {prog : Program} {w : World} {A : Around} {E : Value → Shared → Prop} {s : Shared} {K : PySem.W.Frag} {x dx C f : Addr} {mA : Str → Option Value} {name : Str} {v : Value}
theorem XF {expr : Bool} {Q : Value → Shared → Prop} (X : K.In s.heap) (I : ObjM s.heap x dx C mA) (hg : PySem.W.plainGet K C name = true) (hh : PySem.W.hasDictIn K C = true)
  (ha : PySem.W.findIn K (.ref C) name = some none) (hv : mA name = some v) (hv' : PySem.W.handedIn v = true) (h : Q v { s with toks := s.toks + 1 }) :
  wpAny (model prog w) A (getAttr (.ref x) name expr) Q E s := by
 obtain ⟨od, J, hl⟩ := I.look
 exact PySem.W.get_value X J (PySem.W.plainGet_of hg).1 (PySem.W.findObj_own hh ha rfl (by rw [hl, hv])) hv' h
theorem Uo {pl : Sem Bool} {Q : Value × List Value → Shared → Prop} (X : K.In s.heap) (I : ObjM s.heap x dx C mA) (hg : PySem.W.plainGet K C name = true)
  (hf : PySem.W.findIn K (.ref C) name = some (some (.ref f))) (ht : PySem.W.isFn K (.ref f) = true) (hv : mA name = none) (h : Q (.ref f, [.ref x]) s) :
  wpAny (model prog w) A (getMethod (.ref x) name pl) Q E s := by
 obtain ⟨od, J, hl⟩ := I.look
 exact PySem.W.method_fn X J (PySem.W.plainGet_of hg).1 (PySem.W.plainGet_of hg).2 hf (beq_iff_eq.mp ht) (by show (PySem.W.lookIn name od).map (·.isSome) = some false; rw [hl, hv]; rfl) h
theorem XH {ns : List Str} {Q : Unit → Shared → Prop} (X : K.In s.heap) (I : ObjM s.heap x dx C mA)
  (hs : PySem.W.findIn K (.ref C) "__setattr__" = some (some (.builtin "object.__setattr__"))) (hp : PySem.W.plainOver K C = true) (ht : PySem.W.takerIn K C name = some none) (hh : PySem.W.hasDictIn K C = true)
  (hw : PySem.Within mA ns) (hsz : ns.length ≤ sizeLine)
  (h : ∀ h', ObjM h' x dx C (fun y => if y = name then some v else mA y) → Heap.SameBut dx s.heap h' → Q () { s with heap := h', toks := s.toks + 2 }) :
  wpAny (model prog w) A (setAttr (.ref x) name v) Q E s := by
 obtain ⟨od, J, hl⟩ := I.look
 refine PySem.W.set_plain X J hs (PySem.W.osa_open (s := { s with toks := s.toks + 1 }) (r := none) X J hp ht fun b => ?_)
 obtain ⟨cd, hc, hd'⟩ := PySem.W.any_some hh
 have hx : s.heap.get? x = some ⟨.ref C, some dx, .plain, #[]⟩ := I.obj
 refine wpAny_bind (wpAny_pure (wpAny_bind (wpAny_bind (wpAny_loadPart hx (wpAny_bind (PySem.W.Looks.here (s := { s with toks := s.toks + 1 }) (PySem.W.looks_clsIn X hc) ?_))))))
 rw [hd']
 refine wpAny_pure (a := some dx) (wpAny_bind (wpAny_pure (wpAny_bind ?_)))
 refine wpAny_nsSet1 (s := { s with toks := s.toks + 1 }) I.ns fun h' hn2 hs2 => ?_
 obtain ⟨oD, esD, epD, hoD, hdD, hcD⟩ := hn2.count (PySem.Within.cons name v hw)
 refine wpAny_bind (wpAny_lookBehind hoD (by rw [hdD]; exact pastItsLine_dict (Nat.le_trans hcD (by rw [List.length_cons]; omega))) ?_)
 exact wpAny_pure (h _ ⟨(hs2.2 _ (Ne.symm I.ne)).trans I.obj, hn2, I.ne⟩ hs2)
theorem Uq {R : Result → Shared → Prop} {vs : List Value} {kw : List (Str × Value)} (X : K.In s.heap) (hm : PySem.W.makesIn K C = true)
  (hi : PySem.W.findIn K (.ref C) "__init__" = some (some (.ref f))) (hf : PySem.W.typeIn K (.ref f) = some (.type "function"))
  (h : codeAny (model prog w) (A.under (.builtin "type.__call__" ⟨.ref C :: vs, kw⟩)) (.call (.ref f) ⟨.ref (s.heap.objs.size + 1) :: vs, kw⟩) (PySem.W.InitBack (s.heap.objs.size + 1) R)
   { s with heap := (s.heap.push PySem.W.emptyDict).push (PySem.W.instObj C s.heap.objs.size) }) :
  codeAny (model prog w) A (.call (.ref C) ⟨vs, kw⟩) R s := by
 obtain ⟨hh, g, d, t, os⟩ := s
 exact PySem.W.make_core (PySem.W.makes_of X hm) (PySem.W.looks_findIn X hi) (fun self => PySem.W.bind_fn X self hf) (.inl rfl) h
end
def putF (f : Str) (v : V) : List (Str × V) → List (Str × V)
 | [] => [(f, v)]
 | (g, x) :: r => if g = f then (g, v) :: r else (g, x) :: putF f v r
theorem Iv (f g : Str) (v : V) : ∀ fs : List (Str × V), (putF f v fs).lookup g = if g = f then some v else fs.lookup g
 | [] => by
  show List.lookup g [(f, v)] = _
  by_cases h : g = f
  ·have hb : (g == f) = true := beq_iff_eq.mpr h
   simp only [List.lookup, hb, if_pos h]
  ·have hb : (g == f) = false := beq_eq_false_iff_ne.mpr h
   simp only [List.lookup, hb, if_neg h]
 | (k, x) :: r => by
  have ih := Iv f g v r
  rw [show putF f v ((k, x) :: r) = (if k = f then (k, v) :: r else (k, x) :: putF f v r) from rfl]
  by_cases hk : k = f
  ·rw [if_pos hk]
   by_cases h : g = k
   ·have hb : (g == k) = true := beq_iff_eq.mpr h
    simp only [List.lookup, hb, if_pos (h.trans hk)]
   ·have hb : (g == k) = false := beq_eq_false_iff_ne.mpr h
    simp only [List.lookup, hb, if_neg (fun e : g = f => h (e.trans hk.symm))]
  ·rw [if_neg hk]
   by_cases h : g = k
   ·have hb : (g == k) = true := beq_iff_eq.mpr h
    simp only [List.lookup, hb, if_neg (fun e : g = f => hk (h.symm.trans e))]
   ·have hb : (g == k) = false := beq_eq_false_iff_ne.mpr h
    simp only [List.lookup, hb]
    exact ih
theorem H_ (f : Str) (v : V) : ∀ fs : List (Str × V), f ∈ (putF f v fs).map (·.1) ∧ ∀ g, g ∈ fs.map (·.1) → g ∈ (putF f v fs).map (·.1)
 | [] => ⟨by simp [putF], fun g h => by simp at h⟩
 | (k, x) :: r => by
  obtain ⟨i1, i2⟩ := H_ f v r
  rw [show putF f v ((k, x) :: r) = (if k = f then (k, v) :: r else (k, x) :: putF f v r) from rfl]
  by_cases hk : k = f
  ·rw [if_pos hk]
   subst hk
   exact ⟨by simp, fun g h => by simpa using h⟩
  ·rw [if_neg hk]
   refine ⟨?_, fun g h => ?_⟩
   ·rw [List.map_cons]
    exact List.mem_cons_of_mem _ i1
   ·rw [List.map_cons] at h ⊢
    rcases List.mem_cons.mp h with e | e
    ·exact List.mem_cons.mpr (.inl e)
    ·exact List.mem_cons_of_mem _ (i2 g e)
theorem Iw (f : Str) (v : V) : ∀ fs : List (Str × V), (putF f v fs).length ≤ fs.length + 1
 | [] => by simp [putF]
 | (k, x) :: r => by
  have ih := Iw f v r
  rw [show putF f v ((k, x) :: r) = (if k = f then (k, v) :: r else (k, x) :: putF f v r) from rfl]
  by_cases hk : k = f
  ·rw [if_pos hk, List.length_cons, List.length_cons]; omega
  ·rw [if_neg hk, List.length_cons, List.length_cons]; omega
theorem RelO.some_of {v : V} {o : Option Value} (r : RelO (some v) o) : ∃ u, o = some u ∧ RelV v u := by
 cases o with
 | none => exact (show False from r).elim
 | some u => exact ⟨u, rfl, r⟩
theorem RelO.none_of {o : Option Value} (r : RelO none o) : o = none := by
 cases o with
 | none => rfl
 | some u => exact (show False from r).elim
theorem Ky {v : V} {u : Value} (r : RelV v u) : PySem.W.handedIn u = true := by
 cases v with
 | non => cases (show u = Value.none from r); rfl
 | bl b => cases (show u = Value.bool b from r); rfl
 | int i => obtain ⟨t, e⟩ := (show ∃ t, u = Value.int i t from r); cases e; rfl
 | str x => obtain ⟨t, e⟩ := (show ∃ t, u = Value.str x t from r); cases e; rfl
 | byt b => obtain ⟨t, e⟩ := (show ∃ t, u = Value.bytes b t from r); cases e; rfl
 | flt b => obtain ⟨t, e⟩ := (show ∃ t, u = Value.float b t from r); cases e; rfl
 | ref a => cases (show u = Value.ref a from r); rfl
 | ty n => cases (show u = Value.type n from r); rfl
section
variable {P : Program} {w : World} {H H' : Hp} {h h' : Heap} {a C dx : Addr} {fs fs' : List (Str × V)}
theorem Jb (hok : HOk P w H h) (e : H a = some (.ins C dx fs)) : ∃ mA, ObjM h a dx C mA ∧ (∀ f, RelO (fs.lookup f) (mA f)) ∧ PySem.Within mA (fs.map (·.1)) ∧ fs.length ≤ 1000 ∧ H dx = some (.own a) := by
 obtain ⟨d, z, ne, ob, mA, n, r, q⟩ := (show Be P w H h a (.ins C dx fs) from hok a _ e)
 exact ⟨mA, ⟨ob, n, ne⟩, r, q, z, d⟩
end
structure Cls (K : PySem.W.Frag) (C : Addr) : Prop where
 pg : PySem.W.plainGet K C Str.empty = true
 hd : PySem.W.hasDictIn K C = true
 po : PySem.W.plainOver K C = true
 sa : PySem.W.findIn K (.ref C) "__setattr__" = some (some (.builtin "object.__setattr__"))
theorem Cls.get {K : PySem.W.Frag} {C : Addr} (c : Cls K C) (f : Str) : PySem.W.plainGet K C f = true := c.pg
def BW (K : PySem.W.Frag) (C : Addr) (f : Str) : Prop := PySem.W.findIn K (.ref C) f = some none
theorem BW.taker {K : PySem.W.Frag} {C : Addr} {f : Str} (n : BW K C f) : PySem.W.takerIn K C f = some none := by
 unfold PySem.W.takerIn
 rw [show PySem.W.findIn K (.ref C) f = some none from n]
 rfl
structure Meth (K : PySem.W.Frag) (C : Addr) (m : Str) (f : Addr) : Prop where
 at_ : PySem.W.findIn K (.ref C) m = some (some (.ref f))
 fn : PySem.W.isFn K (.ref f) = true
 kp : PySem.W.keepIn K (.ref f) = true
section
variable {X : Cx} {pins : List (Addr × Obj)} {σ : St} {H : Hp} {s : Shared} {a C dx : Addr} {fs : List (Str × V)} {f : Str} {v : V} {A : Around} {E : Value → Shared → Prop}
theorem QQ {b : Bool} {Q : Value → Shared → Prop} (I : Inv X pins σ H s) (e : H a = some (.ins C dx fs)) (c : Cls X.K C) (n : BW X.K C f) (l : fs.lookup f = some v)
  (h : ∀ u s', Inv X pins σ H s' → RelV v u → Q u s') : wpAny (model X.prog X.w) A (getAttr (.ref a) f b) Q E s := by
 obtain ⟨mA, O, r, _, _, _⟩ := Jb I.hok e
 obtain ⟨u, hu, ru⟩ := RelO.some_of (v := v) (o := mA f) (by rw [← l]; exact r f)
 exact XF I.kIn O (c.get f) c.hd n hu (Ky ru) (h u _ (I.tok _) ru)
theorem J0 {m : Str} {g : Addr} {pl : Sem Bool} {Q : Value × List Value → Shared → Prop} (I : Inv X pins σ H s) (e : H a = some (.ins C dx fs)) (c : Cls X.K C) (k : Meth X.K C m g) (l : fs.lookup m = none)
  (h : Q (.ref g, [.ref a]) s) : wpAny (model X.prog X.w) A (getMethod (.ref a) m pl) Q E s := by
 obtain ⟨mA, O, r, _, _, _⟩ := Jb I.hok e
 have hn : mA m = none := RelO.none_of (by rw [← l]; exact r m)
 exact Uo I.kIn O (c.get m) k.at_ k.fn hn h
theorem QR {y : V} {u : Value} {Q : Unit → Shared → Prop} (I : Inv X pins σ H s) (e : H a = some (.ins C dx fs)) (c : Cls X.K C) (n : BW X.K C f) (hl : fs.length < 1000) (ry : RelV y u)
  (h : ∀ s', Inv X pins σ (upd H a (.ins C dx (putF f y fs))) s' → Q () s') : wpAny (model X.prog X.w) A (setAttr (.ref a) f u) Q E s := by
 obtain ⟨mA, O, r, wi, _, ho⟩ := Jb I.hok e
 have hz : (fs.map (·.1)).length ≤ sizeLine := by rw [List.length_map, sizeLine_eq]; omega
 refine XH I.kIn O c.sa c.po n.taker c.hd wi hz fun h' O' sb => h _ ?_
 have hd : ∃ o, h'.get? dx = some o := let ⟨o, _, _, e', _⟩ := O'.ns; ⟨o, e'⟩
 refine I.write (x := a) (e := dx) (by rw [e]; exact True.intro) (.inr ho) (fun b q hb z => (sb.2 b hb).trans z) hd ?_
 refine ⟨by rw [Ad O.ne]; exact ho, ?_, O.ne, O'.obj, _, O'.ns, fun g => ?_, fun g hg => ?_⟩
 ·have := Iw f y fs; omega
 ·show RelO ((putF f y fs).lookup g) (if g = f then some u else mA g)
  rw [Iv]
  by_cases q : g = f
  ·rw [if_pos q, if_pos q]; exact ry
  ·rw [if_neg q, if_neg q]; exact r g
 ·by_cases q : g = f
  ·rw [q]; exact (H_ f y fs).1
  ·refine (H_ f y fs).2 g (wi g fun z => hg ?_)
   show (if g = f then some u else mA g) = none
   rw [if_neg q]; exact z
theorem Inv.made (I : Inv X pins σ H s) : Inv X pins σ (upd (upd H s.heap.objs.size (.own (s.heap.objs.size + 1))) (s.heap.objs.size + 1) (.ins C s.heap.objs.size []))
  { s with heap := (s.heap.push PySem.W.emptyDict).push (PySem.W.instObj C s.heap.objs.size) } := by
 have e1 : (s.heap.push PySem.W.emptyDict).get? s.heap.objs.size = some PySem.W.emptyDict := Heap.get?_push_size s.heap rfl
 have e2 : ((s.heap.push PySem.W.emptyDict).push (PySem.W.instObj C s.heap.objs.size)).get? (s.heap.objs.size + 1) = some (PySem.W.instObj C s.heap.objs.size) := by
  have := Heap.get?_push_size (s.heap.push PySem.W.emptyDict) (o := PySem.W.instObj C s.heap.objs.size) rfl
  rwa [Heap.size_push] at this
 have e3 : (s.heap.push PySem.W.emptyDict).Ns s.heap.objs.size (fun _ => none) := ⟨PySem.W.emptyDict, #[], _, e1, rfl, (fun e he => absurd he (by simp)), fun _ => rfl⟩
 have I1 := I.laid (a := s.heap.objs.size) (o := .own (s.heap.objs.size + 1)) (h' := s.heap.push PySem.W.emptyDict) (t' := s.toks) (fun b u q => Heap.get?_push_of_some _ q) (Nat.le_refl _) ⟨_, e1⟩
 refine I1.laid (a := s.heap.objs.size + 1) (o := .ins C s.heap.objs.size []) (t' := s.toks) (fun b u q => Heap.get?_push_of_some _ q) (Nat.le_of_eq (Heap.size_push _ _)) ?_
 have ne : s.heap.objs.size ≠ s.heap.objs.size + 1 := Nat.ne_of_lt (Nat.lt_succ_self _)
 refine ⟨by rw [Ad ne, Ae], Nat.zero_le _, ne, e2, fun _ => none, (Heap.Ns1.of_empty e3).at fun o q => Heap.get?_push_of_some _ q, fun _ => True.intro, fun y hy => absurd rfl hy⟩
theorem Q9 {prog : Program} {w : World} {env : Env} {e : Expr} {f : Str} {pos : Pos} {s : Shared} {Q : Value → Shared → Prop} (hb : attributeBase e f env (eval e env) = eval e env)
  (h : wpAny (model prog w) A (eval e env) (fun o s₁ => wpAny (model prog w) A (getAttr o f true) Q E s₁) E s) : wpAny (model prog w) A (eval (.Attribute e f pos) env) Q E s :=
 Attribute_any_ h (by rw [arm_eval_Attribute, hb])
end
def tFld (K : PySem.W.Frag) (ta : TE) (f : Str) : TE := fun σ H Q => ta σ H fun x H1 => ∃ a C dx fs v, x = .ref a ∧ H1 a = some (.ins C dx fs) ∧ Cls K C ∧ BW K C f ∧ fs.lookup f = some v ∧ Q v H1
def sFld (K : PySem.W.Frag) (ta tv : TE) (f : Str) : TS := fun D σ H => tv σ H fun y H1 => ta σ H1 fun x H2 => ∃ a C dx fs, x = .ref a ∧ H2 a = some (.ins C dx fs) ∧ Cls K C ∧ BW K C f ∧ fs.length < 1000 ∧
 D.nx σ (upd H2 a (.ins C dx (putF f y fs)))
section
variable {X : Cx} {o e value : Expr} {f : Str} {pos pos' tpos : Pos} {ta tv : TE}
theorem QS (he : PE X e ta) (hb : attributeBase e f X.env (eval e X.env) = eval e X.env) : PE X (.Attribute e f pos) (tFld X.K ta f) := by
 intro pins s σ H Q I h
 refine Q9 hb (thn (he pins s σ H _ I h) fun u s1 ⟨x, H1, I1, rx, a, C, dx, fs, v, ex, ea, c, n, l, q⟩ => ?_)
 subst ex
 obtain rfl : u = Value.ref a := rx
 exact QQ I1 ea c n l fun u' s2 I2 ru => ⟨v, H1, I2, ru, q⟩
theorem Ur (ha : PE X o ta) (hv : PE X value tv) (hs : swapsWith value (some (.Attribute o f pos')) pos.line X.env = pure false) : PS X (.Assign [.Attribute o f pos'] value pos) (sFld X.K ta tv f) := by
 intro pins s σ H D I h
 refine plainObj_wpAny_Assign_Attribute (thn (hv pins s σ H _ I h) fun u s1 ⟨y, H1, I1, ry, q⟩ => thn (ha pins s1 σ H1 _ I1 q) fun ov s2 ⟨x, H2, I2, rx, a, C, dx, fs, ex, ea, c, n, l, q2⟩ => ?_) hs
 subst ex
 obtain rfl : ov = Value.ref a := rx
 exact QR I2 ea c n l ry fun s3 I3 => ⟨σ, _, I3, q2⟩
def rAdd : V → V → Hp → VK → Prop := fun x y H Q => ∃ i j, x = .int i ∧ y = .int j ∧ Q (.int (i + j)) H
end
section
variable {X : Cx} {pins : List (Addr × Obj)} {σ : St} {H : Hp} {s : Shared} {A : Around} {E : Value → Shared → Prop} {Q : Value → Shared → Prop} {c : Value} {b : Bool}
end
end L2
namespace L2
open PySem PySem.Spec PyProof.Rows
structure Room (k : Nat) (A : Around) : Prop where
 hd : A.handled = none
 dp : A.depth + 3 * k + 5 < recursionLimit
 un : A.units + 16 * k + 200 < cLine
theorem Room.mono {j k : Nat} {A : Around} (r : Room k A) (h : j ≤ k) : Room j A := ⟨r.hd, by have := r.dp; omega, by have := r.un; omega⟩
theorem Room.deeper {k : Nat} {A : Around} (r : Room (k + 1) A) (env : Env) : Room k (A.deeper env) :=
 ⟨r.hd, by have := r.dp; show A.depth + 1 + 3 * k + 5 < _; omega, by have := r.un; show A.units + 3 + 16 * k + 200 < _; omega⟩
theorem Room.in1 {k : Nat} {A : Around} (r : Room (k + 1) A) : Room k A.in1 :=
 ⟨r.hd, by have := r.dp; show A.depth + 3 * k + 5 < _; omega, by have := r.un; show A.units + 1 + 16 * k + 200 < _; omega⟩
theorem QT {A : Around} {C : Addr} {us : List Value} {kw : List (Str × Value)} : (A.under (.builtin "type.__call__" ⟨.ref C :: us, kw⟩)).depth = A.depth + 1 := by
 first | rfl | simp [Around.under, Code.weight, Code.isCreation, Code.isGuard, Code.isCaller, Code.frames, Code.isFrame, guardIds]
theorem QV {A : Around} {C : Addr} {us : List Value} {kw : List (Str × Value)} : (A.under (.builtin "type.__call__" ⟨.ref C :: us, kw⟩)).units = A.units + 1 := by
 first | rfl | simp [Around.under, Code.cUnits, Code.frames, Code.isFrame]
theorem Room.make {k : Nat} {A : Around} (r : Room (k + 1) A) (C : Addr) (us : List Value) (kw : List (Str × Value)) : Room k (A.under (.builtin "type.__call__" ⟨.ref C :: us, kw⟩)) :=
 ⟨r.hd, by have := r.dp; rw [QT]; omega, by have := r.un; rw [QV]; omega⟩
theorem Room.depth {k : Nat} {A : Around} (r : Room k A) : A.depth < recursionLimit := by have := r.dp; omega
theorem Room.units {k : Nat} {A : Around} (r : Room k A) : A.units + 64 < cLine := by have := r.un; omega
def tNil : TA := fun _ H Q => Q [] H
def Q_ (ta : TE) (tr : TA) : TA := fun σ H Q => ta σ H fun x H1 => tr σ H1 fun xs H2 => Q (x :: xs) H2
section
variable {X : Cx} {e : Expr} {es : List Expr} {te : TE} {t : TA} {pos : Pos}
theorem Ft : PA X [] tNil := fun _ _ _ _ H Q I h => Calls.spliced_nil ⟨[], H, I, .nil, h⟩
theorem Cp (ha : PE X e te) (hr : PA X es t) (hs : starEach (e :: es) X.env = (false, eval e X.env) :: starEach es X.env := by rfl) : PA X (e :: es) (Q_ te t) := by
 intro pos pins s σ H Q I h
 rw [hs]
 show wpAny _ _ (spliced ((false, eval e X.env) :: backTo pos (starEach es X.env))) _ _ s
 refine Calls.spliced_cons (thn (ha pins s σ H _ I h) fun u s1 ⟨x, H1, I1, r1, q1⟩ => ?_)
 exact thn (hr pos pins s1 σ H1 _ I1 q1) fun us s2 ⟨xs, H2, I2, r2, q2⟩ => ⟨x :: xs, H2, I2, .cons r1 r2, q2⟩
def tTup (t : TA) : TE := fun σ H Q => t σ H fun xs H1 => xs.length ≤ sizeLine ∧ ∀ p, H1 p = none → Q (.ref p) (upd H1 p (.tup xs))
def tLst (t : TA) : TE := fun σ H Q => t σ H fun xs H1 => xs.length ≤ sizeLine ∧ ∀ p, H1 p = none → Q (.ref p) (upd H1 p (.lst xs))
theorem Lw {x1} (h : PA X es t) : PE X (.Tuple es x1 pos) (tTup t) := by
 intro pins s σ H Q I hq
 refine wpAny_Tuple_spliced (thn (h pos pins s σ H _ I hq) fun us s1 ⟨xs, H1, I1, r, z, q⟩ => ⟨by rw [← r.length]; exact z, ?_⟩)
 have hf : H1 s1.heap.objs.size = none := I1.hok.fresh (Nat.le_refl _)
 refine ⟨.ref s1.heap.objs.size, upd H1 s1.heap.objs.size (.tup xs), I1.laid (t' := s1.toks) (fun b u e => Heap.get?_push_of_some _ e) (Nat.le_refl _) ?_, rfl, q _ hf⟩
 exact ⟨z, us, r, ⟨_, Heap.get?_push_size _ rfl, rfl, _, rfl⟩⟩
theorem Zv (h : PA X es t) : PE X (.List es pos) (tLst t) := by
 intro pins s σ H Q I hq
 refine wpAny_List_spliced (thn (h pos pins s σ H _ I hq) fun us s1 ⟨xs, H1, I1, r, z, q⟩ => ⟨by rw [← r.length]; exact z, ?_⟩)
 have hf : H1 s1.heap.objs.size = none := I1.hok.fresh (Nat.le_refl _)
 refine ⟨.ref s1.heap.objs.size, upd H1 s1.heap.objs.size (.lst xs), I1.laid (t' := s1.toks) (fun b u e => Heap.get?_push_of_some _ e) (Nat.le_refl _) ?_, rfl, q _ hf⟩
 exact ⟨z, us, 0, r, Heap.get?_push_size _ rfl⟩
end
abbrev Sp := List V → Hp → VK → XK → Prop
abbrev CXT := List Env → Hp → Shared → XK → Value → Shared → Prop
structure Env0 (P : Program) (w : World) (K : PySem.W.Frag) (mg : Str → Option Value) (base : Heap) (A : Around) (outer : List Env) (s : Shared) (H : Hp) : Prop where
 frames : A.frames = some outer
 mod : Mod K mg base
 bs : ∀ b o, base.get? b = some o → s.heap.get? b = some o ∧ H b = none
 bsz : base.objs.size ≤ s.heap.objs.size
 funs : s.heap.FunFrames base outer
 frf : ∀ b ∈ frs outer, H b = none
 hok : HOk P w H s.heap
 bare : AllBare s.gens
def CE (outer : List Env) (P : Program) (w : World) (H : Hp) (s : Shared) (Q : VK) (u : Value) (s' : Shared) : Prop :=
 ∃ v H', s'.os = s.os ∧ AllBare s'.gens ∧ Un (frs outer) [] H H' s.heap s'.heap ∧ HOk P w H' s'.heap ∧ RelV v u ∧ Q v H'
def CR (CX : CXT) (outer : List Env) (P : Program) (w : World) (H : Hp) (s : Shared) (Q : VK) (E : XK) (r : Result) (s' : Shared) : Prop :=
 match r with
 | .ok (.ret u) => CE outer P w H s Q u s'
 | .ok _ => False
 | .error e => CX outer H s E e s'
structure FnOk (P : Program) (w : World) (K : PySem.W.Frag) (mg : Str → Option Value) (base : Heap) (CX : CXT) (k : Nat) (f : Addr) (fd : FuncData) (ps : List Str) (sp : Sp) : Prop where
 len : ∀ vs H Q E, sp vs H Q E → vs.length = ps.length
 run : ∀ (A : Around) (outer : List Env) (s : Shared) (H : Hp) (args : Args) (us : List Value) (vs : List V) (Q : VK) (E : XK), Room k A → Env0 P w K mg base A outer s H → BindsTo s fd args (ps.zip us) → Vals vs us → sp vs H Q E →
  codeAny (model P w) A (.call (.ref f) args) (CR CX outer P w H s Q E) s
theorem FnOk.mono {P : Program} {w : World} {K : PySem.W.Frag} {mg : Str → Option Value} {base : Heap} {CX : CXT} {j k : Nat} {f : Addr} {fd : FuncData} {ps : List Str} {sp : Sp} (F : FnOk P w K mg base CX j f fd ps sp) (h : j ≤ k) :
  FnOk P w K mg base CX k f fd ps sp := ⟨F.len, fun A outer s H args us vs Q E hr => F.run A outer s H args us vs Q E (hr.mono h)⟩
theorem FnOk.imp {P : Program} {w : World} {K : PySem.W.Frag} {mg : Str → Option Value} {base : Heap} {CX : CXT} {k : Nat} {f : Addr} {fd : FuncData} {ps : List Str} {sp sp' : Sp} (F : FnOk P w K mg base CX k f fd ps sp)
  (h : ∀ vs H Q E, sp' vs H Q E → sp vs H Q E) : FnOk P w K mg base CX k f fd ps sp' :=
 ⟨fun vs H Q E q => F.len vs H Q E (h _ _ _ _ q), fun A outer s H args us vs Q E hr he hb hv hs => F.run A outer s H args us vs Q E hr he hb hv (h _ _ _ _ hs)⟩
theorem Env0.make {P : Program} {w : World} {K : PySem.W.Frag} {mg : Str → Option Value} {base : Heap} {A : Around} {outer : List Env} {s : Shared} {H : Hp} (e : Env0 P w K mg base A outer s H) (C : Addr) (us : List Value) (kw : List (Str × Value)) :
  Env0 P w K mg base (A.under (.builtin "type.__call__" ⟨.ref C :: us, kw⟩)) outer s H := ⟨by first | exact e.frames | (simpa [Around.under, Code.envs, Code.isFrame, pushEnvs] using e.frames), e.mod, e.bs, e.bsz, e.funs, e.frf, e.hok, e.bare⟩
theorem Env0.in1 {P : Program} {w : World} {K : PySem.W.Frag} {mg : Str → Option Value} {base : Heap} {A : Around} {outer : List Env} {s : Shared} {H : Hp} (e : Env0 P w K mg base A outer s H) :
  Env0 P w K mg base A.in1 outer s H := ⟨e.frames, e.mod, e.bs, e.bsz, e.funs, e.frf, e.hok, e.bare⟩
section
variable {X : Cx} {pins : List (Addr × Obj)} {σ : St} {H : Hp} {s s' : Shared}
theorem Inv.env0 (I : Inv X pins σ H s) : Env0 X.prog X.w X.K X.mg X.base X.A X.stack s H :=
 ⟨I.ok.frames, I.ok.mod, I.bs, Nat.le_trans I.ok.bsz I.sz, I.stack, I.stkFree, I.hok, I.bare⟩
theorem Inv.after {Q : VK} {u : Value} (I : Inv X pins σ H s) (h : CE X.stack X.prog X.w H s Q u s') : EP X pins σ Q u s' := by
 obtain ⟨v, H', os, bare, un, hok, r, q⟩ := h
 obtain ⟨hh, g, d, t, os'⟩ := s'
 obtain rfl : os' = s.os := os
 exact ⟨v, H', I.call (h' := hh) (g' := g) (d' := d) (t' := t) (ch := []) un hok bare (fun b z => absurd z (by simp)), r, q⟩
end
def cB (sp : Sp) (dvs : List V) (E : XK) (t : TA) : TE := fun σ H Q => t σ H fun vs H1 => sp (vs ++ dvs) H1 Q E
def Yu (C : Addr) (m : Str) (sp : Sp) (dvs : List V) (E : XK) (ta : TE) (t : TA) : TE := fun σ H Q => ta σ H fun x H1 => ∃ a dx fs, x = .ref a ∧ H1 a = some (.ins C dx fs) ∧ fs.lookup m = none ∧
 t σ H1 fun vs H2 => sp (x :: (vs ++ dvs)) H2 Q E
def Binds (K : PySem.W.Frag) (fd : FuncData) (ps : List Str) (ds : List Value) : Prop :=
 ∀ (s : Shared) (us : List Value), K.In s.heap → (us ++ ds).length = ps.length → BindsTo s fd ⟨us, []⟩ (ps.zip (us ++ ds))
theorem Binds.all {K : PySem.W.Frag} {fd : FuncData} {ps : List Str} (h : ∀ us : List Value, us.length = ps.length → bindArgs fd ⟨us, []⟩ = pure (ps.zip us)) : Binds K fd ps [] := fun s us _ hl => by
 rw [List.append_nil] at hl ⊢
 exact .of_eq (h us hl)
def J1 (CX : CXT) (X : Cx) (E : XK) : Prop := ∀ (pins : List (Addr × Obj)) (σ : St) (H : Hp) (s : Shared) (e : Value) (s' : Shared), Inv X pins σ H s → CX X.stack H s E e s' → X.xe e s'
section
variable {X : Cx} {CX : CXT} {k : Nat} {f C : Addr} {fd : FuncData} {ps : List Str} {sp : Sp} {dvs : List V} {ds : List Value} {E : XK} {x m : Str} {p pos apos : Pos} {e o : Expr} {es : List Expr} {ta : TE} {t : TA}
theorem QW {pins : List (Addr × Obj)} {σ : St} {H : Hp} {s : Shared} {Q : VK} {us : List Value} {vs : List V} (F : FnOk X.prog X.w X.K X.mg X.base CX k f fd ps sp) (hr : Room k X.A) (hb : Binds X.K fd ps ds) (hd : Vals dvs ds) (hx : J1 CX X E)
  (I : Inv X pins σ H s) (r : Vals vs us) (h : sp (vs ++ dvs) H Q E) : wpAny (model X.prog X.w) X.A (call (.ref f) us) (EP X pins σ Q) X.xe s := by
 have r2 : Vals (vs ++ dvs) (us ++ ds) := r.append hd
 have hl : (us ++ ds).length = ps.length := by rw [← r2.length]; exact F.len _ _ _ _ h
 refine wpAny_call (codeAny_mono (F.run X.A X.stack s H ⟨us, []⟩ (us ++ ds) (vs ++ dvs) Q E hr I.env0 (hb s us I.kIn hl) r2 h) fun r s' hq => ?_)
 cases r with
 | error e => exact hx pins σ H s e s' I hq
 | ok fl =>
  cases fl with
  | ret u => exact I.after hq
  | next => exact False.elim hq
  | brk => exact False.elim hq
  | cont => exact False.elim hq
theorem XJ (F : FnOk X.prog X.w X.K X.mg X.base CX k f fd ps sp) (hr : Room k X.A) (hg : Gl X x) (hm : X.mg x = some (.ref f)) (hk : PySem.W.keepIn X.K (.ref f) = true) (hb : Binds X.K fd ps ds) (hd : Vals dvs ds) (hx : J1 CX X E)
  (ha : PA X (e :: es) t) (hdb : (x == ("__debug__" : Str)) = false := by decide) (he : starEach (e :: es) X.env = (false, eval e X.env) :: starEach es X.env := by rfl) (hpl : (backTo pos (starEach es X.env)).any (·.1) = false := by rfl) :
  PE X (.Call (.Name x p) (e :: es) [] pos) (cB sp dvs E t) := by
 intro pins s σ H Q I h
 refine wpAny_Call_Name_kw (Gj I hg hm ?_ hdb)
 refine PySem.W.callWith_K (h₀ := X.base) I.ok.mod.kin hk (thn (ha pos pins s σ H _ I h) fun us s1 ⟨vs, H1, I1, r, q⟩ => ⟨I1.kIn, ?_⟩) he hpl
 exact QW F hr hb hd hx I1 r q
theorem XM {pl : Sem Bool} (he : PE X o ta) (c : Cls X.K C) (hm : Meth X.K C m f) (F : FnOk X.prog X.w X.K X.mg X.base CX k f fd ps sp) (hr : Room k X.A) (hb : Binds X.K fd ps ds) (hd : Vals dvs ds) (hx : J1 CX X E) (ha : PA X (e :: es) t)
  (hst : starEach (e :: es) X.env = (false, eval e X.env) :: starEach es X.env := by rfl) (hpl : (backTo pos (starEach es X.env)).any (·.1) = false := by rfl)
  (ht : eval (.Call (.Attribute o m apos) (e :: es) [] pos) X.env = (do
   let ov ← eval o X.env
   standAt apos.atName
   let (f, first) ← holding [ov] (getMethod ov m pl)
   callWith pos f first (backTo pos (starEach (e :: es) X.env)) (backToKw pos (keywordEach [] X.env))) := by rfl) :
  PE X (.Call (.Attribute o m apos) (e :: es) [] pos) (Yu C m sp dvs E ta t) := by
 intro pins s σ H Q I h
 refine PySem.W.methodCall_KW (pl := pl) (thn (he pins s σ H _ I h) fun u s1 ⟨x, H1, I1, rx, a, dx, fs, ex, ea, l, q⟩ => ?_) ht
 subst ex
 obtain rfl : u = Value.ref a := rx
 refine J0 I1 ea c hm l ?_
 refine PySem.W.callWith_K (first := [.ref a]) (h₀ := X.base) I.ok.mod.kin hm.kp (thn (ha pos pins s1 σ H1 _ I1 q) fun us s2 ⟨vs, H2, I2, r, q2⟩ => ⟨I2.kIn, ?_⟩) hst hpl
 exact QW (us := .ref a :: us) (vs := .ref a :: vs) F hr hb hd hx I2 (.cons rfl r) q2
theorem Us {pl : Sem Bool} (he : PE X o ta) (c : Cls X.K C) (hm : Meth X.K C m f) (F : FnOk X.prog X.w X.K X.mg X.base CX k f fd ps sp) (hr : Room k X.A) (hb : Binds X.K fd ps ds) (hd : Vals dvs ds) (hx : J1 CX X E)
  (ht : eval (.Call (.Attribute o m apos) [] [] pos) X.env = (do
   let ov ← eval o X.env
   standAt apos.atName
   let (f, first) ← holding [ov] (getMethod ov m pl)
   callWith pos f first (backTo pos (starEach [] X.env)) (backToKw pos (keywordEach [] X.env))) := by rfl) :
  PE X (.Call (.Attribute o m apos) [] [] pos) (Yu C m sp dvs E ta tNil) := by
 intro pins s σ H Q I h
 refine PySem.W.methodCall_KW (pl := pl) (thn (he pins s σ H _ I h) fun u s1 ⟨x, H1, I1, rx, a, dx, fs, ex, ea, l, q⟩ => ?_) ht
 subst ex
 obtain rfl : u = Value.ref a := rx
 refine J0 I1 ea c hm l ?_
 exact PySem.W.callWith_K0 (first := [.ref a]) I1.kIn hm.kp (QW (us := [.ref a]) (vs := [.ref a]) F hr hb hd hx I1 (.cons rfl .nil) q)
structure Mk (K : PySem.W.Frag) (C f : Addr) : Prop where
 makes : PySem.W.makesIn K C = true
 init : PySem.W.findIn K (.ref C) "__init__" = some (some (.ref f))
 fn : PySem.W.isFn K (.ref f) = true
 kp : PySem.W.keepIn K (.ref C) = true
end
section
variable {X : Cx} {CX : CXT} {k : Nat} {f C : Addr} {fd : FuncData} {ps ks : List Str} {sp : Sp} {E : XK} {x m : Str} {p pos apos kpos : Pos} {e o : Expr} {es : List Expr} {kws : List Keyword} {te ta : TE} {t tk : TA} {nm : Option Str}
variable {g : List Value → List Value → List Value} {gV : List V → List V → List V}
end
structure FnScope (N P : List Str) (sc : Scope) : Prop where
 kind : sc.kind = .function
 co : sc.isCoroutine = false
 gen : sc.isGenerator = false
 nd : N.Nodup
 pre : N.take P.length = P
 par : ∀ x ∈ P, sc.names.lookup x = some .local ∨ sc.names.lookup x = some .cell
 nofree : ∀ y ∈ sc.names, y.2 ≠ .free
theorem Kz {kindOf : Str → Option NameKind} {x : Str} : ∀ {binds : List (Str × Value)} {m : Str → Option Value}, (∀ v, (x, v) ∉ binds) → bindL kindOf binds m x = m x
 | [], _, _ => rfl
 | (n, v) :: r, m, h => by
  unfold bindL
  rw [Kz fun w hw => h w (List.mem_cons_of_mem _ hw)]
  split
  ·have : x ≠ n := by rintro rfl; exact h v List.mem_cons_self
   simp [this]
  ·rfl
theorem K1 {kindOf : Str → Option NameKind} {x : Str} : ∀ {binds : List (Str × Value)} {m : Str → Option Value}, (∀ v, (x, v) ∉ binds) → bindC kindOf binds m x = m x
 | [], _, _ => rfl
 | (n, v) :: r, m, h => by
  unfold bindC
  rw [K1 fun w hw => h w (List.mem_cons_of_mem _ hw)]
  split
  ·rfl
  ·have : x ≠ n := by rintro rfl; exact h v List.mem_cons_self
   simp [this]
theorem K3 {kindOf : Str → Option NameKind} {x : Str} {v : Value} : ∀ {P : List Str} {vs : List Value} {i : Nat} {m : Str → Option Value}, P.Nodup → P[i]? = some x → vs[i]? = some v → kindOf x = some .local →
  bindL kindOf (P.zip vs) m x = some v
 | [], _, _, _, _, h, _, _ => by simp at h
 | _ :: _, [], _, _, _, _, h, _ => by simp at h
 | p :: P, w :: vs, 0, m, nd, h1, h2, hk => by
  simp at h1 h2; subst h1; subst h2
  show bindL kindOf ((p, w) :: P.zip vs) m p = _
  unfold bindL
  rw [Kz fun v hv => (List.nodup_cons.mp nd).1 (List.of_mem_zip hv).1, if_pos hk]
  simp
 | p :: P, w :: vs, i + 1, m, nd, h1, h2, hk => by
  show bindL kindOf ((p, w) :: P.zip vs) m x = _
  unfold bindL
  exact K3 (i := i) (List.nodup_cons.mp nd).2 (by simpa using h1) (by simpa using h2) hk
theorem K4 {kindOf : Str → Option NameKind} {x : Str} {v : Value} : ∀ {P : List Str} {vs : List Value} {i : Nat} {m : Str → Option Value}, P.Nodup → P[i]? = some x → vs[i]? = some v → kindOf x ≠ some .local →
  bindC kindOf (P.zip vs) m x = some v
 | [], _, _, _, _, h, _, _ => by simp at h
 | _ :: _, [], _, _, _, _, h, _ => by simp at h
 | p :: P, w :: vs, 0, m, nd, h1, h2, hk => by
  simp at h1 h2; subst h1; subst h2
  show bindC kindOf ((p, w) :: P.zip vs) m p = _
  unfold bindC
  rw [K1 fun v hv => (List.nodup_cons.mp nd).1 (List.of_mem_zip hv).1, if_neg hk]
  simp
 | p :: P, w :: vs, i + 1, m, nd, h1, h2, hk => by
  show bindC kindOf ((p, w) :: P.zip vs) m x = _
  unfold bindC
  exact K4 (i := i) (List.nodup_cons.mp nd).2 (by simpa using h1) (by simpa using h2) hk
def start (N : List Str) (vs : List V) : St := vs.map some ++ List.replicate (N.length - vs.length) none
def cxOf (CX : CXT) (P : Program) (w : World) (K : PySem.W.Frag) (mg : Str → Option Value) (base : Heap) (N : List Str) (qual : Str) (scope : Scope) (f : Addr) (cd : Value) (A : Around) (outer : List Env) (s : Shared) (H : Hp) (E : XK) : Cx where
 prog := P
 w := w
 K := K
 mg := mg
 base := base
 A := A.deeper (envOfC qual scope s.heap.objs.size f cd)
 N := N
 s₀ := s
 H₀ := H
 env := envOfC qual scope s.heap.objs.size f cd
 outer := outer
 stack := envOfC qual scope s.heap.objs.size f cd :: outer
 ex := []
 calm := true
 fn := fun _ => true
 pn := []
 xe := fun e s' => wpAny (model P w) (A.deeper (envOfC qual scope s.heap.objs.size f cd)) (leaving (envOfC qual scope s.heap.objs.size f cd) e) (fun _ s'' => CX outer H s E e s'') (fun e' s'' => CX outer H s E e' s'') s'
theorem Ov {sc : Scope} {n : Nat} {x : Str} (h : sc.names.lookup x = some .cell) : ∃ c, (cellsFrom n sc.names []).lookup x = some c := by
 have q := PySem.W.cellsFrom_some sc.names n [] (.inl h)
 exact Option.isSome_iff_exists.mp q
theorem Tj {CX : CXT} {P : Program} {w : World} {K : PySem.W.Frag} {mg : Str → Option Value} {base : Heap} {N ps : List Str} {qual : Str} {scope : Scope} {f : Addr} {cd : Value} {A : Around} {outer : List Env} {s s1 : Shared} {H : Hp} {E : XK} {us : List Value} {vs : List V}
  (S : FnScope N ps scope) (hd : A.handled = none) (e0 : Env0 P w K mg base A outer s H) (hl : vs.length = ps.length) (r : Vals vs us)
  (x : InCallC s s.heap.objs.size (bindL (envOfC qual scope s.heap.objs.size f cd).kindOf (ps.zip us) fun _ => none) (cellsFrom (s.heap.objs.size + 1) scope.names []) (bindC (envOfC qual scope s.heap.objs.size f cd).kindOf (ps.zip us) fun _ => none) s1) :
  Inv (cxOf CX P w K mg base N qual scope f cd A outer s H E) [] (start N vs) H s1 := by
 have hpl : ps.length ≤ N.length := by have := congrArg List.length S.pre; rw [List.length_take] at this; omega
 obtain ⟨h1, tk, rfl, hk⟩ := x.done
 have noA : ∀ b : Addr, b ∉ (cxOf CX P w K mg base N qual scope f cd A outer s H E).ex := fun b z => absurd (show b ∈ ([] : List Addr) from z) (by simp)
 refine ⟨⟨e0.mod, S.kind, rfl, rfl, Nat.le_refl _, fun y z c h1 h2 => ?_, fun y hy => ?_, fun y c _ h => ?_, fun _ => hd, Around.frames_deeper e0.frames, .inr ⟨rfl, rfl⟩, fun b z => absurd z (noA b), e0.bs, e0.bsz, fun b _ _ => noA b, fun b z => absurd z (noA b), e0.funs, e0.frf⟩,
  rfl, e0.bare, Un.kept hk, ⟨_, x.toInCall.ns, fun i y v h1 h2 h3 => ?_⟩, fun y c h => ⟨_, x.cell y c h⟩, e0.hok.fresh (Nat.le_refl _), fun y c h => ?_, fun p hp => absurd (show p ∈ ([] : List (Addr × Obj)) from hp) (by simp), e0.hok.kept hk, ?_⟩
 ·exact name_of_addr x.apart (PySem.mem_of_lookup h1) (PySem.mem_of_lookup h2)
 ·have hy : scope.names.lookup y = some .cell ∨ scope.names.lookup y = some .free := hy
  rcases hy with hy | hy
  ·exact Ov hy
  ·exact absurd rfl (S.nofree _ (PySem.mem_of_lookup hy))
 ·exact Nat.le_of_lt (x.above y c (PySem.mem_of_lookup h))
 ·have hi : i < vs.length := by
   unfold start at h2
   by_cases hi : i < vs.length
   ·exact hi
   ·rw [List.getElem?_append_right (by simpa using hi)] at h2
    rw [List.getElem?_replicate] at h2
    split at h2 <;> cases h2
  have ha : vs[i]? = some v := by
   unfold start at h2
   rw [List.getElem?_append_left (by simpa using hi), List.getElem?_map] at h2
   cases e : vs[i]? with
   | none => rw [e] at h2; cases h2
   | some a => rw [e] at h2; cases h2; rfl
  obtain ⟨u, hu, rv⟩ := r.get ha
  have hp : ps[i]? = some y := by
   rw [← S.pre, List.getElem?_take_of_lt (by omega)]; exact h1
  have ndP : ps.Nodup := by rw [← S.pre]; exact S.nd.sublist (List.take_sublist _ _)
  refine ⟨u, rv, ?_⟩
  rcases S.par y (List.mem_of_getElem? hp) with k | k
  ·exact .inl ⟨k, K3 ndP hp hu k⟩
  ·obtain ⟨c, e⟩ := Ov (n := s.heap.objs.size + 1) k
   refine .inr ⟨.inl k, c, e, ?_⟩
   have q := x.cell y c e
   rw [K4 ndP hp hu (by show scope.names.lookup y ≠ _; rw [k]; decide)] at q
   exact q
 ·exact e0.hok.fresh (Nat.le_of_lt (x.above y c (PySem.mem_of_lookup h)))
 ·unfold start
  show _ = N.length
  rw [List.length_append, List.length_map, List.length_replicate]
  omega
theorem RB {CX : CXT} {P : Program} {w : World} {K : PySem.W.Frag} {mg : Str → Option Value} {base : Heap} {k : Nat} {f : Addr} {name qual : Str} {params : Arguments} {body : List Stmt} {scope : Scope} {dV kV doc pm cdv ct oc : Value} {an od : Option Addr}
  {osl : Array (Option Value)} {N ps : List Str} {sp : Sp} (lk : K.lookup f = some ⟨oc, od, .func (PySem.W.fnOf name qual params body scope dV kV doc pm an cdv ct), osl⟩) (hcd : PySem.W.codeIn K cdv qual = true) (S : FnScope N ps scope)
  (len : ∀ vs H Q E, sp vs H Q E → vs.length = ps.length)
  (hbody : ∀ (A : Around) (outer : List Env) (s : Shared) (H : Hp) (vs : List V) (Q : VK) (E : XK), Room k (A.deeper (envOfC qual scope s.heap.objs.size f cdv)) → sp vs H Q E →
   ∃ t, PSs (cxOf CX P w K mg base N qual scope f cdv A outer s H E) body t ∧ t { nx := fun _ H' => Q .non H', rt := Q } (start N vs) H) :
  FnOk P w K mg base CX (k + 1) f (PySem.W.fnOf name qual params body scope dV kV doc pm an cdv ct) ps sp := by
 refine ⟨len, fun A outer s H args us vs Q E hr e0 hb r hsp => ?_⟩
 have hl := len _ _ _ _ hsp
 have KX : K.In s.heap := e0.mod.kin.keeps fun b o e => (e0.bs b o e).1
 have lim : s.heap.NoLimit := e0.mod.nolimit.keeps fun b o e => (e0.bs b o e).1
 have hkind : ∀ y ∈ ps.zip us, scope.names.lookup y.1 = some .local ∨ (scope.names.lookup y.1 = some .cell ∧ ((cellsFrom (s.heap.objs.size + 1) scope.names []).lookup y.1).isSome = true) := fun ⟨n, v⟩ hy => by
  rcases S.par n (List.of_mem_zip hy).1 with q | q
  ·exact .inl q
  ·exact .inr ⟨q, PySem.W.cellsFrom_some _ _ _ (.inl q)⟩
 refine codeAny_call_function hr.depth (KX _ _ lk) rfl S.co S.gen rfl (PySem.W.codeRec_of KX hcd) (hb _ _ _ _ ?_)
 refine wpAny_newFunctionEnv_cells S.kind hkind fun env he s1 x => ?_
 subst he
 refine ⟨lim.keeps x.toInCall.keep, codeAny_func ?_⟩
 obtain ⟨t, ht, hq⟩ := hbody A outer s H vs Q E (hr.deeper _) hsp
 have I : Inv (cxOf CX P w K mg base N qual scope f cdv A outer s H E) [] (start N vs) H s1 := Tj S hr.hd e0 hl r x
 refine wpAny_mono (ht [] s1 (start N vs) H _ I hq) (fun fl s' hs => ?_) fun e s' hs => hs
 have fin : ∀ {σ' : St} {H' : Hp} {v : V} {u : Value}, Inv (cxOf CX P w K mg base N qual scope f cdv A outer s H E) [] σ' H' s' → RelV v u → Q v H' → CE outer P w H s Q u s' :=
  fun {σ' H' v u} J rv q => ⟨v, H', J.os, J.bare, J.base, J.hok, rv, q⟩
 cases fl with
 | ret u =>
  obtain ⟨v, σ', H', J, rv, q⟩ := hs
  exact fin J rv q
 | next =>
  obtain ⟨σ', H', J, q⟩ := hs
  exact fin (v := V.non) (u := Value.none) J rfl q
 | brk =>
  obtain ⟨_, _, _, q⟩ := hs
  exact False.elim q
 | cont =>
  obtain ⟨_, _, _, q⟩ := hs
  exact False.elim q
end L2
namespace L2
open PySem PySem.Spec PyProof.Rows
section
variable {X : Cx} {x : Str} {p pos : Pos} {e : Expr} {es : List Expr} {t : TA} {id T : String} {r : List V → Hp → VK → Prop}
def tCB (r : List V → Hp → VK → Prop) (t : TA) : TE := fun σ H Q => t σ H fun vs H1 => r vs H1 Q
theorem J2 (hc : D_ X (.builtin id) r) (hg : Gl X x) (hm : X.mg x = none) (hv : bootBuiltins x = some (.builtin id)) (ha : PA X (e :: es) t) (hn : x ≠ "__name__" := by decide) (hdb : (x == ("__debug__" : Str)) = false := by decide)
  (he : starEach (e :: es) X.env = (false, eval e X.env) :: starEach es X.env := by rfl) (hpl : (backTo pos (starEach es X.env)).any (·.1) = false := by rfl) : PE X (.Call (.Name x p) (e :: es) [] pos) (tCB r t) := by
 intro pins s σ H Q I h
 refine wpAny_Call_Name_kw (QG I hg hm hv ?_ hn hdb)
 exact PyProof.Rows.callWith_builtin1 (thn (ha pos pins s σ H _ I h) fun us s1 ⟨vs, H1, I1, r1, q1⟩ => hc pins s1 σ H1 vs us Q I1 r1 q1) he hpl
end
end L2
namespace HT
open PySem PyProof.Rows
section
open PySem.SeqAt
open PySem.AutoSeq1 (wpAny_loadPart')
open PySem.MeetsSeq PySem.MeetsSeq2 PySem.MeetsSeq3
end
section
variable {prog : Program} {w : World} {A : Around} {E : Value → Shared → Prop} {s : Shared}
def sIx (n d : Nat) : Option Int → Nat
 | none => d
 | some v => if v < 0 then (v + (n : Int)).toNat else min v.toNat n
theorem Zw (n d : Nat) (hd : d ≤ n) (o : Option Int) : sIx n d o ≤ n := by
 cases o with
 | none => exact hd
 | some v =>
  show (if v < 0 then (v + (n : Int)).toNat else min v.toNat n) ≤ n
  by_cases hv : v < 0
  ·rw [if_pos hv]; omega
  ·rw [if_neg hv]; exact Nat.min_le_right _ _
theorem RC (v : Int) (n d : Nat) : (if v < 0 then max (v + (n : Int)) 0 else min v (n : Int)) = ((sIx n d (some v) : Nat) : Int) := by
 show (if v < 0 then max (v + (n : Int)) 0 else min v (n : Int)) = (((if v < 0 then (v + (n : Int)).toNat else min v.toNat n) : Nat) : Int)
 by_cases hv : v < 0
 ·simp only [if_pos hv]; omega
 ·simp only [if_neg hv]; omega
theorem QX (lo hi : Option Int) (n : Nat) : Builtin.Slice.sliceAdjust lo hi 1 (n : Int) = (((sIx n 0 lo : Nat) : Int), ((sIx n n hi : Nat) : Int)) := by
 have h1 : ¬ ((1 : Int) < 0) := by omega
 unfold Builtin.Slice.sliceAdjust
 simp only [h1, if_false]
 refine Prod.ext ?_ ?_
 ·cases lo with
  | none => rfl
  | some v => exact RC v n 0
 ·cases hi with
  | none => rfl
  | some v => exact RC v n n
theorem QZ (i j : Nat) : Builtin.Slice.slicePlaces (i : Int) (j : Int) 1 = j - i := by
 unfold Builtin.Slice.slicePlaces
 have h1 : (1 : Int) > 0 := by omega
 simp only [h1, if_true, Int.ediv_one]
 split <;> omega
theorem J3 {v : Value} {o : Option Int} {Q : Option Int → Shared → Prop} (p : IsPart v o) (h : Q o s) : wpAny (model prog w) A (Builtin.Slice.slicePartIndex v) Q E s := by
 cases p with
 | none => exact slicePart_none h
 | int i t => exact slicePart_int h
theorem IK {sl : Addr} {vl vu : Value} {lo hi : Option Int} {n : Nat} {Q : Int × Int × Nat → Shared → Prop} (hs : s.heap.IsSliceOf sl vl vu .none) (pl : IsPart vl lo) (pu : IsPart vu hi)
  (h : Q (((sIx n 0 lo : Nat) : Int), 1, sIx n n hi - sIx n 0 lo) s) : wpAny (model prog w) A (Builtin.Slice.sliceApplied (.ref sl) (pure (n : Int))) Q E s := by
 obtain ⟨os, hos, hcs, hds⟩ := id hs
 unfold Builtin.Slice.sliceApplied Builtin.Slice.sliceFields
 refine wpAny_bind (wpAny_bind (wpAny_field hos hds (x := vl) rfl (wpAny_bind (wpAny_field hos hds (x := vu) rfl (wpAny_bind (wpAny_field hos hds (x := .none) rfl (wpAny_pure ?_)))))))
 refine wpAny_bind (slicePart_none ?_)
 show wpAny _ _ (if ((1 : Int) == 0) = true then _ else _) _ _ s
 rw [if_neg (by decide)]
 refine wpAny_bind (J3 pl (wpAny_bind (J3 pu (wpAny_bind (wpAny_pure ?_)))))
 show wpAny _ _ (match Builtin.Slice.sliceAdjust lo hi 1 (n : Int) with | (lo, hi) => pure (lo, (1 : Int), Builtin.Slice.slicePlaces lo hi 1)) _ _ s
 rw [QX lo hi n]
 show wpAny _ _ (pure (((sIx n 0 lo : Nat) : Int), (1 : Int), Builtin.Slice.slicePlaces ((sIx n 0 lo : Nat) : Int) ((sIx n n hi : Nat) : Int) 1)) _ _ s
 rw [QZ]
 exact wpAny_pure h
theorem Ut (xs : Array Value) (i k : Nat) : ((List.range k).filterMap fun (m : Nat) => xs[((i : Int) + (m : Int) * 1).toNat]?).toArray = ((xs.toList.drop i).take k).toArray := by
 have e : (fun (m : Nat) => xs[((i : Int) + (m : Int) * 1).toNat]?) = fun m => xs[i + m]? := by
  funext m
  have : ((i : Int) + (m : Int) * 1).toNat = i + m := by omega
  rw [this]
 rw [e]
 have := pick_run xs i k
 rw [List.filterMap_map] at this
 have e2 : ((fun x => xs[x]?) ∘ fun x => i + x) = fun m => xs[i + m]? := rfl
 rw [e2] at this
 rw [this]
theorem HS {t sl : Addr} {items : Array Value} {vl vu : Value} {lo hi : Option Int} {Q : Value → Shared → Prop} (ht : IsTup s.heap t items) (hs : s.heap.IsSliceOf sl vl vu .none) (pl : IsPart vl lo) (pu : IsPart vu hi)
  (hw : ¬ (sIx items.size 0 lo = 0 ∧ sIx items.size items.size hi = items.size))
  (h : Q (.ref s.heap.objs.size) { s with heap := s.heap.push { cls := .type "tuple", data := .seq ((items.toList.drop (sIx items.size 0 lo)).take (sIx items.size items.size hi - sIx items.size 0 lo)).toArray } })
  (hsz : items.size ≤ sizeLine) : wpAny (model prog w) A (getItem (.ref t) (.ref sl)) Q E s := by
 have htake : sizeOk (.seq ((items.toList.drop (sIx items.size 0 lo)).take (sIx items.size items.size hi - sIx items.size 0 lo)).toArray) := by
  show ((items.toList.drop (sIx items.size 0 lo)).take (sIx items.size items.size hi - sIx items.size 0 lo)).toArray.size ≤ sizeLine
  rw [List.size_toArray, List.length_take, List.length_drop, Array.length_toList]
  omega
 have hj : sIx items.size items.size hi ≤ items.size := Zw _ _ (Nat.le_refl _) hi
 obtain ⟨os, hos, hcs, hds⟩ := id hs
 have hTs : s.TypeIs (.ref sl) "slice" := ⟨os, hos, hcs⟩
 unfold getItem
 try with_reducible refine wpAny_holding ?_
 first | refine wpAny_bind (wpAny_pure ?_) | skip
 refine wpAny_bind (wpAny_sequenceKey ht.typeIs (by decide) ?_)
 refine wpAny_bind (wpAny_callSpecial?_slot (name := Str.ofString "__getitem__") ht.typeIs PyProof.Rows.slot_tuple_getitem
  (wpAny_call_entry PyProof.Rows.slot_tuple_getitem ht.typeIs entry_tuple_getitem ?_ (args_tuple_getitem _ _)))
 show wpAny _ _ (Builtin.Tuple.tupleItemsOf (.ref t) >>= _) _ _ s
 refine wpAny_bind (tupleItemsOf_ ht ?_)
 refine wpAny_bind (wpAny_typeOf hTs ?_)
 rw [if_pos (by decide)]
 refine wpAny_bind (IK hs pl pu ?_)
 have hno : ¬ ((((sIx items.size 0 lo : Nat) : Int) == 0 && (1 : Int) == 1 && (sIx items.size items.size hi - sIx items.size 0 lo) == items.size) = true) := by
  intro q
  rw [Bool.and_eq_true, Bool.and_eq_true] at q
  have q1 : ((sIx items.size 0 lo : Nat) : Int) = 0 := eq_of_beq q.1.1
  have q2 : sIx items.size items.size hi - sIx items.size 0 lo = items.size := eq_of_beq q.2
  exact hw ⟨by omega, by omega⟩
 show wpAny _ _ (if (((sIx items.size 0 lo : Nat) : Int) == 0 && (1 : Int) == 1 && (sIx items.size items.size hi - sIx items.size 0 lo) == items.size) = true then _ else _) _ _ s
 rw [if_neg hno, Ut]
 first
  | exact wpAny_bind (m := Builtin.Tuple.tupleExact _) (wpAny_newObj_type (wpAny_pure ⟨_, rfl, wpAny_pure h⟩) htake)
  | exact wpAny_bind (m := Builtin.Tuple.tupleExact _) (wpAny_newObj_type (wpAny_bind (wpAny_pure (wpAny_pure ⟨_, rfl, wpAny_pure h⟩))) htake)
  | exact wpAny_bind (wpAny_bind (m := Builtin.Tuple.tupleExact _) (wpAny_newObj_type (wpAny_pure (wpAny_pure ⟨_, rfl, wpAny_pure h⟩)) htake))
  | exact wpAny_bind (wpAny_bind (m := Builtin.Tuple.tupleExact _) (wpAny_newObj_type (wpAny_pure ⟨_, rfl, wpAny_pure h⟩) htake))
end
end HT
namespace L2
open PySem PySem.Spec PyProof.Rows
abbrev TO := St → Hp → (Option Int → Hp → Prop) → Prop
def PO (X : Cx) (e : Option Expr) (t : TO) : Prop :=
 ∀ (pins : List (Addr × Obj)) (s : Shared) (σ : St) (H : Hp) (Q : Option Int → Hp → Prop), Inv X pins σ H s → t σ H Q →
  wpAny (model X.prog X.w) X.A (evalPart e X.env) (fun u s' => ∃ o H', Inv X pins σ H' s' ∧ IsPart u o ∧ Q o H') X.xe s
def XN : TO := fun _ H Q => Q none H
def cC (t : TE) : TO := fun σ H Q => t σ H fun x H1 => ∃ i, x = .int i ∧ Q (some i) H1
section
variable {X : Cx} {e : Expr} {te : TE} {lo hi : Option Expr} {tl th : TO} {pos p2 : Pos}
theorem XQ : PO X none XN := by
 intro pins s σ H Q I h
 rw [evalPart_none]
 exact wpAny_pure ⟨none, H, I, .none, h⟩
theorem XR (h : PE X e te) : PO X (some e) (cC te) := by
 intro pins s σ H Q I hw
 rw [evalPart_some]
 refine thn (h pins s σ H _ I hw) fun u s1 ⟨x, H1, I1, r1, q1⟩ => ?_
 obtain ⟨i, rfl, q⟩ := q1
 obtain ⟨t, rfl⟩ := r1
 exact ⟨some i, H1, I1, .int i t, q⟩
def SlR (X : Cx) (r : V → Option Int → Option Int → Hp → VK → Prop) : Prop :=
 ∀ (pins : List (Addr × Obj)) (s : Shared) (σ : St) (H : Hp) (x : V) (v vl vu : Value) (lo hi : Option Int) (sl : Addr) (Q : VK), Inv X pins σ H s → RelV x v → s.heap.IsSliceOf sl vl vu .none → IsPart vl lo → IsPart vu hi → r x lo hi H Q →
  ∃ T id, typeLookup (.type T) "__getitem__" = pure (some (.builtin id)) ∧ s.TypeIs v T ∧ wpAny (model X.prog X.w) X.A (getItem v (.ref sl)) (EP X pins σ Q) X.xe s
theorem SlR.or {r r' : V → Option Int → Option Int → Hp → VK → Prop} (h : SlR X r) (h' : SlR X r') : SlR X (fun x lo hi H Q => r x lo hi H Q ∨ r' x lo hi H Q) := by
 intro pins s σ H x v vl vu lo hi sl Q I rx hs pl pu q
 rcases q with q | q
 ·exact h pins s σ H x v vl vu lo hi sl Q I rx hs pl pu q
 ·exact h' pins s σ H x v vl vu lo hi sl Q I rx hs pl pu q
def tSl (r : V → Option Int → Option Int → Hp → VK → Prop) (te : TE) (tl th : TO) : TE := fun σ H Q => te σ H fun x H1 => tl σ H1 fun l H2 => th σ H2 fun u H3 => r x l u H3 Q
theorem Uu {r : V → Option Int → Option Int → Hp → VK → Prop} (hr : SlR X r) (he : PE X e te) (hl : PO X lo tl) (hu : PO X hi th) : PE X (.Subscript e (.Slice lo hi none p2) pos) (tSl r te tl th) := by
 intro pins s σ H Q I h
 refine Subscript_ (thn (he pins s σ H _ I h) fun v s1 ⟨x, H1, I1, r1, q1⟩ => ?_)
 refine wpAny_Slice (thn (hl pins s1 σ H1 _ I1 q1) fun vl s2 ⟨l, H2, I2, pl, q2⟩ => thn (hu pins s2 σ H2 _ I2 q2) fun vu s3 ⟨u, H3, I3, pu, q3⟩ => ?_)
 rw [evalPart_none]
 refine wpAny_pure ?_
 have I4 : Inv X pins σ H3 { s3 with heap := s3.heap.push { cls := .type "slice", data := .fields #[vl, vu, .none] } } := I3.kept (t' := s3.toks) fun b ob q => Heap.get?_push_of_some _ q
 obtain ⟨T, id, hT, ht, hg⟩ := hr pins { s3 with heap := s3.heap.push { cls := .type "slice", data := .fields #[vl, vu, .none] } } σ H3 x v vl vu l u s3.heap.objs.size Q I4 r1 (Heap.IsSliceOf.new ..) pl pu q3
 show wpAny (model X.prog X.w) X.A (subscriptTail e (.Slice lo hi none p2) v (.ref s3.heap.objs.size)) (EP X pins σ Q) X.xe { s3 with heap := s3.heap.push { cls := .type "slice", data := .fields #[vl, vu, .none] } }
 exact tail_any (ops := [.ref s3.heap.objs.size, v]) ht hT hg (by with_unfolding_all rfl)
def cutV (xs : List V) (lo hi : Option Int) : List V := (xs.drop (HT.sIx xs.length 0 lo)).take (HT.sIx xs.length xs.length hi - HT.sIx xs.length 0 lo)
theorem Iz (xs : List V) (lo hi : Option Int) : (cutV xs lo hi).length ≤ xs.length := by
 unfold cutV
 rw [List.length_take, List.length_drop]
 omega
def rSlT (K : PySem.W.Frag) : V → Option Int → Option Int → Hp → VK → Prop := fun x lo hi H Q => ∃ a xs, x = .ref a ∧ SqT K H a xs ∧
 ¬ (HT.sIx xs.length 0 lo = 0 ∧ HT.sIx xs.length xs.length hi = xs.length) ∧ ∀ p, H p = none → Q (.ref p) (upd H p (.tup (cutV xs lo hi)))
theorem Zx : SlR X (rSlT X.K) := by
 intro pins s σ H x v vl vu lo hi sl Q I rx hs pl pu h
 obtain ⟨a, xs, rfl, hx, hw, q⟩ := h
 cases rx
 obtain ⟨its, r, ht, hz⟩ := I.tuple hx
 have hlen : its.toArray.size = xs.length := by rw [List.size_toArray]; exact r.length.symm
 refine ⟨"tuple", _, PyProof.Rows.slot_tuple_getitem.lookup, ht.typeIs, ?_⟩
 refine HT.HS ht hs pl pu (by rw [hlen]; exact hw) ?_ (by rw [hlen]; exact hz)
 rw [hlen]
 refine ⟨.ref s.heap.objs.size, _, I.laid (t' := s.toks) (o := .tup (cutV xs lo hi)) (fun b ob q => Heap.get?_push_of_some _ q) (Nat.le_refl _) ?_, rfl, q _ (I.hok.fresh (Nat.le_refl _))⟩
 exact ⟨Nat.le_trans (Iz xs lo hi) hz, _, (r.drop (HT.sIx xs.length 0 lo)).take (HT.sIx xs.length xs.length hi - HT.sIx xs.length 0 lo), IsTup.new _ _⟩
end
end L2
namespace L2
open PySem PySem.Spec PyProof.Rows
def ixN (n : Nat) (i : Int) : Option Nat := if 0 ≤ i then (if i < n then some i.toNat else none) else if -(n : Int) ≤ i then some (i + n).toNat else none
def atI {α : Type} (xs : List α) (i : Int) : Option α := (ixN xs.length i).bind fun j => xs[j]?
theorem XS {n : Nat} {i : Int} {j : Nat} (h : ixN n i = some j) : seqIndex? i n = some j ∧ j < n ∧ -(n : Int) ≤ i ∧ i < n := by
 unfold ixN at h
 by_cases h0 : 0 ≤ i
 ·rw [if_pos h0] at h
  by_cases h1 : i < n
  ·rw [if_pos h1] at h
   have e : i.toNat = j := Option.some.inj h
   exact ⟨by rw [seqIndex_of h0 h1, e], by omega, by omega, h1⟩
  ·rw [if_neg h1] at h; cases h
 ·rw [if_neg h0] at h
  by_cases h1 : -(n : Int) ≤ i
  ·rw [if_pos h1] at h
   have e : (i + n).toNat = j := Option.some.inj h
   exact ⟨by rw [seqIndex_neg (by omega) h1, e], by omega, h1, by omega⟩
  ·rw [if_neg h1] at h; cases h
theorem Lx {α : Type} {xs : List α} {i : Int} {v : α} (h : atI xs i = some v) : ∃ j, seqIndex? i xs.length = some j ∧ xs[j]? = some v ∧ j < xs.length ∧ -(xs.length : Int) ≤ i ∧ i < xs.length := by
 unfold atI at h
 cases e : ixN xs.length i with
 | none => rw [e] at h; cases h
 | some j =>
  rw [e] at h
  obtain ⟨h1, h2, h3, h4⟩ := XS e
  exact ⟨j, h1, h, h2, h3, h4⟩
def Ly (b : Expr) : Prop := ∀ o i, subscripted b false o i = operate [o, i] (getItem o i)
def IxR (X : Cx) (r : R2) : Prop :=
 ∀ (value slice : Expr) (pins : List (Addr × Obj)) (s : Shared) (σ : St) (H : Hp) (x y : V) (v u : Value) (Q : VK), Inv X pins σ H s → RelV x v → RelV y u → r x y H Q →
  subscripted slice false v u = operate [v, u] (getItem v u) → wpAny (model X.prog X.w) X.A (subscriptTail value slice v u) (EP X pins σ Q) X.xe s
def MtR (X : Cx) (id : String) (r : V → List V → Hp → VK → Prop) : Prop :=
 ∀ (pins : List (Addr × Obj)) (s : Shared) (σ : St) (H : Hp) (x : V) (xs : List V) (v : Value) (us : List Value) (Q : VK), Inv X pins σ H s → RelV x v → Vals xs us → r x xs H Q →
  wpAny (model X.prog X.w) X.A (call (.builtin id) (v :: us)) (EP X pins σ Q) X.xe s
section
variable {X : Cx} {a b : Expr} {ta tb : TE} {pos : Pos}
theorem IxR.or {r r' : R2} (h : IxR X r) (h' : IxR X r') : IxR X (fun x y H Q => r x y H Q ∨ r' x y H Q) := by
 intro value slice pins s σ H x y v u Q I rx ry q hs
 rcases q with q | q
 ·exact h value slice pins s σ H x y v u Q I rx ry q hs
 ·exact h' value slice pins s σ H x y v u Q I rx ry q hs
theorem MtR.or {id : String} {r r' : V → List V → Hp → VK → Prop} (h : MtR X id r) (h' : MtR X id r') : MtR X id (fun x xs H Q => r x xs H Q ∨ r' x xs H Q) := by
 intro pins s σ H x xs v us Q I rx rs q
 rcases q with q | q
 ·exact h pins s σ H x xs v us Q I rx rs q
 ·exact h' pins s σ H x xs v us Q I rx rs q
theorem cD {r : R2} (hr : IxR X r) (ha : PE X a ta) (hb : PE X b tb) (hs : Ly b) : PE X (.Subscript a b pos) (tOp r ta tb) := by
 intro pins s σ H Q I h
 exact Subscript_ (binT ha hb I h fun v u s2 x y H2 I2 rx ry q => hr a b pins s2 σ H2 x y v u Q I2 rx ry q (hs _ _))
def rIxL (K : PySem.W.Frag) : R2 := fun x y H Q => ∃ p xs i v, x = .ref p ∧ y = .int i ∧ SqL K H p xs ∧ atI xs i = some v ∧ Q v H
def rIxT (K : PySem.W.Frag) : R2 := fun x y H Q => ∃ p xs i v, x = .ref p ∧ y = .int i ∧ SqT K H p xs ∧ atI xs i = some v ∧ Q v H
def rIxS : R2 := fun x y H Q => ∃ z i c, x = .str z ∧ y = .int i ∧ z.length ≤ sizeLine ∧ atI z.cps.toList i = some c ∧ Q (.str ⟨#[c]⟩) H
theorem XX : IxR X (rIxL X.K) := by
 intro value slice pins s σ H x y v u Q I rx ry h hs
 obtain ⟨p, xs, i, z, rfl, rfl, hq, he, q⟩ := h
 cases rx
 obtain ⟨t, rfl⟩ := ry
 obtain ⟨its, r, pl, hz⟩ := I.list hq
 obtain ⟨j, h1, h2, h3, h4, h5⟩ := Lx he
 obtain ⟨w, ew, rw'⟩ := r.get h2
 have hl := r.length
 have hn := Jz
 have fin : EP X pins σ Q w s := ⟨z, H, I, rw', q⟩
 by_cases h0 : 0 ≤ i
 ·have hj : i.toNat = j := by
   rw [seqIndex_of h0 h5] at h1
   exact Option.some.inj h1
  exact item_listR pl.isList h0 (by omega) (by rw [hj]; simpa using ew) fin hs
 ·have hj : (i + (its.toArray.size : Int)).toNat = j := by
   rw [seqIndex_neg (by omega) h4] at h1
   rw [List.size_toArray, ← hl]
   exact Option.some.inj h1
  exact subscriptTail_builtinR (x := w) pl.isList.typeIs slot_list_getitem.lookup
   (wpAny_getItem_list_neg (Q := fun r s' => r = w ∧ EP X pins σ Q r s') pl.isList (by omega) (by rw [List.size_toArray] <;> omega) (by omega) (by rw [hj]; simpa using ew) ⟨rfl, fin⟩) hs
theorem Zy : IxR X (rIxT X.K) := by
 intro value slice pins s σ H x y v u Q I rx ry h hs
 obtain ⟨p, xs, i, z, rfl, rfl, hq, he, q⟩ := h
 cases rx
 obtain ⟨t, rfl⟩ := ry
 obtain ⟨its, r, pl, hz⟩ := I.tuple hq
 obtain ⟨j, h1, h2, h3, h4, h5⟩ := Lx he
 obtain ⟨w, ew, rw'⟩ := r.get h2
 have hl := r.length
 have hn := Jz
 have fin : EP X pins σ Q w s := ⟨z, H, I, rw', q⟩
 exact subscriptTail_builtinR (x := w) pl.typeIs slot_tuple_getitem.lookup
  (getItem_tuple (j := j) (Q := fun r s' => r = w ∧ EP X pins σ Q r s') pl (by omega) (by omega) (by rw [List.size_toArray, ← hl]; exact h1) (by simpa using ew) ⟨rfl, fin⟩) hs
theorem Zz : IxR X rIxS := by
 intro value slice pins s σ H x y v u Q I rx ry h hs
 obtain ⟨z, i, c, rfl, rfl, hz, he, q⟩ := h
 obtain ⟨t, rfl⟩ := rx
 obtain ⟨t', rfl⟩ := ry
 obtain ⟨j, h1, h2, h3, h4, h5⟩ := Lx he
 have hl : z.cps.toList.length = z.length := by simp [Str.length]
 rw [hl] at h1 h4 h5
 have hn := Jz
 exact tail_any (typeIs_str s z t) slot_str_getitem.lookup (getItem_str (c := c) (by
  have e1 : decide (i < -(2 ^ 63 : Int)) = false := decide_eq_false (by omega)
  have e2 : decide (i ≥ 2 ^ 63) = false := decide_eq_false (by omega)
  rw [e1, e2, Bool.or_false]) (by rw [h1]; simpa using h2) ⟨.str ⟨#[c]⟩, H, I.tok _, ⟨_, rfl⟩, q⟩) hs
def rIx (K : PySem.W.Frag) : R2 := fun x y H Q => rIxL K x y H Q ∨ rIxT K x y H Q ∨ rIxS x y H Q
theorem Z0 : IxR X (rIx X.K) := XX.or (Zy.or Zz)
theorem Inv.lst {pins : List (Addr × Obj)} {σ : St} {H : Hp} {s : Shared} {p : Addr} {xs : List V} (I : Inv X pins σ H s) (h : H p = some (.lst xs)) :
  ∃ (its : List Value) (n : Nat), Vals xs its ∧ s.heap.get? p = some { cls := .type "list", data := .seq its.toArray n } ∧ xs.length ≤ sizeLine := by
 obtain ⟨z, its, n, r, e⟩ := I.hok p _ h
 exact ⟨its, n, r, e, z⟩
theorem Lz (lo hi : Option Int) (n : Nat) : (sliceBounds lo hi none n).1 = ((HT.sIx n 0 lo : Nat) : Int) ∧ (sliceBounds lo hi none n).2.1 = ((HT.sIx n n hi : Nat) : Int) ∧ (sliceBounds lo hi none n).2.2 = 1 := by
 refine ⟨?_, ?_, rfl⟩
 ·cases lo with
  | none => simp [sliceBounds, HT.sIx]
  | some i =>
   simp only [sliceBounds, HT.sIx, Option.getD_none, show (1 : Int) > 0 by decide, if_true]
   by_cases h : i < 0
   ·simp only [h, if_true] <;> omega
   ·simp only [h, if_false] <;> omega
 ·cases hi with
  | none => simp [sliceBounds, HT.sIx]
  | some i =>
   simp only [sliceBounds, HT.sIx, Option.getD_none, show (1 : Int) > 0 by decide, if_true]
   by_cases h : i < 0
   ·simp only [h, if_true] <;> omega
   ·simp only [h, if_false] <;> omega
theorem Kr (its : List Value) (lo hi : Option Int) : slicePick its.toArray lo hi none = ((its.drop (HT.sIx its.length 0 lo)).take (HT.sIx its.length its.length hi - HT.sIx its.length 0 lo)).toArray := by
 obtain ⟨h1, h2, h3⟩ := Lz lo hi its.toArray.size
 unfold slicePick
 rw [h1, h2, h3]
 simp only [sliceRange_one, pick_run, List.size_toArray] <;> rfl
def rSlL (K : PySem.W.Frag) : V → Option Int → Option Int → Hp → VK → Prop := fun x lo hi H Q => ∃ a xs, x = .ref a ∧ SqL K H a xs ∧ ∀ p, H p = none → Q (.ref p) (upd H p (.lst (cutV xs lo hi)))
theorem Xa : SlR X (rSlL X.K) := by
 intro pins s σ H x v vl vu lo hi sl Q I rx hs pl pu h
 obtain ⟨a, xs, rfl, hx, q⟩ := h
 cases rx
 obtain ⟨its, r, ht, hz⟩ := I.list hx
 have hlen := r.length
 refine ⟨"list", _, slot_list_getitem.lookup, ht.isList.typeIs, ?_⟩
 refine wpAny_getItem_list_slice ht.isList hs pl pu .none (by simp) ?_ (by rw [List.size_toArray] <;> omega)
 rw [Kr, ← hlen]
 refine ⟨.ref s.heap.objs.size, _, I.laid (t' := s.toks) (o := .lst (cutV xs lo hi)) (fun b ob q => Heap.get?_push_of_some _ q) (Nat.le_refl _) ?_, rfl, q _ (I.hok.fresh (Nat.le_refl _))⟩
 exact ⟨Nat.le_trans (Iz xs lo hi) hz, _, 0, (r.drop (HT.sIx xs.length 0 lo)).take (HT.sIx xs.length xs.length hi - HT.sIx xs.length 0 lo), Heap.get?_push_size _ rfl⟩
def Fi : V → Bool
 | .non => true
 | .bl _ => true
 | .int _ => true
 | .str _ => true
 | _ => false
def eqV : V → V → Bool
 | .non, .non => true
 | .bl a, .bl b => a == b
 | .bl a, .int b => (if a then 1 else 0) == b
 | .int a, .bl b => a == (if b then 1 else 0)
 | .int a, .int b => a == b
 | .str a, .str b => a == b
 | _, _ => false
theorem Uv {A : Around} {s : Shared} {y x : V} {u v : Value} (ry : RelV y u) (rx : RelV x v) (fy : Fi y = true) (fx : Fi x = true) : SeqAt.EqAt A s u v (eqV y x) := by
 cases y with
 | non =>
  cases ry
  cases x with
  | non => cases rx; exact SeqAt.EqAt.same _
  | bl b => cases rx; exact SeqAt.EqAt.none_bool b
  | int b => obtain ⟨t, rfl⟩ := rx; exact SeqAt.EqAt.none_int b t
  | str b => obtain ⟨t, rfl⟩ := rx; exact SeqAt.EqAt.none_str b t
  | _ => exact absurd (show false = true from fx) Bool.false_ne_true
 | bl a =>
  cases ry
  cases x with
  | non => cases rx; exact SeqAt.EqAt.bool_none a
  | bl b => cases rx; exact SeqAt.EqAt.bool_bool a b
  | int b => obtain ⟨t, rfl⟩ := rx; exact SeqAt.EqAt.bool_int a b t
  | str b => obtain ⟨t, rfl⟩ := rx; exact SeqAt.EqAt.bool_str a b t
  | _ => exact absurd (show false = true from fx) Bool.false_ne_true
 | int a =>
  obtain ⟨t', rfl⟩ := ry
  cases x with
  | non => cases rx; exact SeqAt.EqAt.int_none a t'
  | bl b => cases rx; exact SeqAt.EqAt.int_bool a t' b
  | int b => obtain ⟨t, rfl⟩ := rx; exact SeqAt.EqAt.int_int a t' b t
  | str b => obtain ⟨t, rfl⟩ := rx; exact SeqAt.EqAt.int_str a t' b t
  | _ => exact absurd (show false = true from fx) Bool.false_ne_true
 | str a =>
  obtain ⟨t', rfl⟩ := ry
  cases x with
  | non => cases rx; exact SeqAt.EqAt.str_none a t'
  | bl b => cases rx; exact SeqAt.EqAt.str_bool a t' b
  | int b => obtain ⟨t, rfl⟩ := rx; exact SeqAt.EqAt.str_int a t' b t
  | str b => obtain ⟨t, rfl⟩ := rx; exact SeqAt.EqAt.str_str a t' b t
  | _ => exact absurd (show false = true from fx) Bool.false_ne_true
 | _ => exact absurd (show false = true from fy) Bool.false_ne_true
def eqU (x : V) (u : Value) : Bool := match u with
 | .none => eqV .non x
 | .bool b => eqV (.bl b) x
 | .int i _ => eqV (.int i) x
 | .str z _ => eqV (.str z) x
 | _ => false
theorem Uw {x y : V} {u : Value} (r : RelV y u) (f : Fi y = true) : eqU x u = eqV y x := by
 cases y with
 | non => cases r; rfl
 | bl b => cases r; rfl
 | int i => obtain ⟨t, rfl⟩ := r; rfl
 | str z => obtain ⟨t, rfl⟩ := r; rfl
 | _ => exact absurd (show false = true from f) Bool.false_ne_true
theorem HW {x : V} : ∀ {xs : List V} {us : List Value}, Vals xs us → xs.all Fi = true → us.any (eqU x) = xs.any fun y => eqV y x
 | _, _, .nil, _ => rfl
 | y :: xs, u :: us, .cons r t, f => by
  rw [List.all_cons, Bool.and_eq_true] at f
  rw [List.any_cons, List.any_cons, Uw r f.1, HW t f.2]
theorem Fv {A : Around} {s : Shared} {x : V} {v : Value} (rx : RelV x v) (fx : Fi x = true) : ∀ {xs : List V} {us : List Value}, Vals xs us → xs.all Fi = true → ∀ u ∈ us, SeqAt.EqAt A s u v (eqU x u)
 | _, _, .nil, _ => fun u hu => by cases hu
 | y :: xs, u :: us, .cons r t, f => fun u' hu => by
  rw [List.all_cons, Bool.and_eq_true] at f
  rcases List.mem_cons.mp hu with rfl | hu
  ·rw [Uw r f.1]; exact Uv r rx f.1 fx
  ·exact Fv rx fx t f.2 u' hu
def inV (x : V) (xs : List V) : Bool := xs.any fun y => eqV y x
def rIn (K : PySem.W.Frag) (neg : Bool) : R2 := fun x y H Q => ∃ p xs, y = .ref p ∧ (SqL K H p xs ∨ SqT K H p xs) ∧ Fi x = true ∧ xs.all Fi = true ∧ Q (.bl (if neg then !inV x xs else inV x xs)) H
theorem Tn : OpR X (compareOp .In) (rIn X.K false) := by
 intro pins s σ H x y v u Q I rx ry h
 obtain ⟨p, xs, rfl, hq, fx, fs, q⟩ := h
 cases ry
 rcases hq with hq | hq
 ·obtain ⟨its, r, pl, hz⟩ := I.list hq
  refine SeqAt.in_listAt (eqU x) pl.isList (fun w hw => Fv rx fx r fs w (by simpa using hw)) ⟨.bl _, H, I, rfl, ?_⟩
  rw [show its.toArray.any (eqU x) = its.any (eqU x) by simp, HW r fs]
  exact q
 ·obtain ⟨its, r, pl, hz⟩ := I.tuple hq
  refine SeqAt.in_tupleAt (eqU x) pl (fun w hw => Fv rx fx r fs w (by simpa using hw)) ⟨.bl _, H, I, rfl, ?_⟩
  rw [show its.toArray.any (eqU x) = its.any (eqU x) by simp, HW r fs]
  exact q
theorem L_ : OpR X (compareOp .NotIn) (rIn X.K true) := by
 intro pins s σ H x y v u Q I rx ry h
 obtain ⟨p, xs, rfl, hq, fx, fs, q⟩ := h
 cases ry
 rcases hq with hq | hq
 ·obtain ⟨its, r, pl, hz⟩ := I.list hq
  refine SeqAt.notIn_listAt (eqU x) pl.isList (fun w hw => Fv rx fx r fs w (by simpa using hw)) ⟨.bl _, H, I, rfl, ?_⟩
  rw [show its.toArray.any (eqU x) = its.any (eqU x) by simp, HW r fs]
  exact q
 ·obtain ⟨its, r, pl, hz⟩ := I.tuple hq
  refine SeqAt.notIn_tupleAt (eqU x) pl (fun w hw => Fv rx fx r fs w (by simpa using hw)) ⟨.bl _, H, I, rfl, ?_⟩
  rw [show its.toArray.any (eqU x) = its.any (eqU x) by simp, HW r fs]
  exact q
theorem D_.or {f : Value} {r r' : List V → Hp → VK → Prop} (h : D_ X f r) (h' : D_ X f r') : D_ X f (fun xs H Q => r xs H Q ∨ r' xs H Q) := by
 intro pins s σ H xs us Q I rs q
 rcases q with q | q
 ·exact h pins s σ H xs us Q I rs q
 ·exact h' pins s σ H xs us Q I rs q
variable {o e : Expr} {es : List Expr} {to : TE} {t : TA} {name : Str} {apos cpos : Pos} {T id : String} {r : V → List V → Hp → VK → Prop}
end
end L2
namespace L2
open PySem PySem.Spec PyProof.Rows
def MtM (X : Cx) (id : String) (r : V → List V → Hp → VK → Prop) : Prop :=
 ∀ (pins : List (Addr × Obj)) (s : Shared) (σ : St) (H : Hp) (x : V) (xs : List V) (v : Value) (us : List Value) (Q : VK), Inv X pins σ H s → RelV x v → Vals xs us → r x xs H Q →
  wpAny (model X.prog X.w) X.A (call (.builtin id) (v :: us)) (EP X pins σ Q) X.xe s
theorem Vals.one : ∀ {x : V} {us : List Value}, Vals [x] us → ∃ u, us = [u] ∧ RelV x u
 | _, _, .cons r .nil => ⟨_, rfl, r⟩
theorem Vals.zero : ∀ {us : List Value}, Vals [] us → us = []
 | _, .nil => rfl
section
variable {X : Cx} {pins : List (Addr × Obj)} {σ : St} {H : Hp} {s : Shared} {l b : Addr} {xs ys zs : List V}
theorem Inv.lset {its its' : List Value} {n : Nat} {f : Array Value → Array Value} {t' : Nat} (I : Inv X pins σ H s) (hH : H l = some (.lst xs))
  (e : s.heap.get? l = some { cls := .type "list", data := .seq its.toArray n }) (hf : f its.toArray = its'.toArray) (hv : Vals ys its') (hz : ys.length ≤ sizeLine) :
  Inv X pins σ (upd H l (.lst ys)) { s with heap := s.heap.update l (Obj.mapSeq f), toks := t' } := by
 have q := PySem.IsL.update e f
 rw [hf] at q
 refine I.write (x := l) (e := l) (by rw [hH]; exact trivial) (.inl rfl) (fun b' u hb hu => (Heap.get?_update_other s.heap (Obj.mapSeq f) (Ne.symm hb)).trans hu) ⟨_, q⟩ ?_
 exact ⟨hz, its', _, hv, q⟩
theorem Inv.lnew {its : List Value} {t' : Nat} (I : Inv X pins σ H s) (hv : Vals ys its) (hz : ys.length ≤ sizeLine) :
  Inv X pins σ (upd H s.heap.objs.size (.lst ys)) { s with heap := s.heap.push { cls := .type "list", data := .seq its.toArray }, toks := t' } :=
 I.laid (fun _ _ q => Heap.get?_push_of_some _ q) (Nat.le_refl _) ⟨hz, its, 0, hv, Heap.get?_push_size _ rfl⟩
theorem Inv.fresh (I : Inv X pins σ H s) : H s.heap.objs.size = none := I.hok.fresh (Nat.le_refl _)
theorem Inv.lstM (I : Inv X pins σ H s) (hH : H l = some (.lst xs)) : xs.length ≤ sizeLine ∧ ∃ (its : List Value) (n : Nat), Vals xs its ∧ xs.length = its.length ∧ s.heap.get? l = some { cls := .type "list", data := .seq its.toArray n } := by
 obtain ⟨z, its, n, r, e⟩ := I.hok l _ hH
 exact ⟨z, its, n, r, r.length, e⟩
end
section
variable {X : Cx}
def Xb : V → List V → Hp → VK → Prop := fun x vs H Q => ∃ l xs y, x = .ref l ∧ vs = [y] ∧ H l = some (.lst xs) ∧ xs.length < sizeLine ∧ Q .non (upd H l (.lst (xs ++ [y])))
theorem Tp : MtM X "list.append" Xb := by
 intro pins s σ H x vs v us Q I rx rv h
 obtain ⟨l, xs, y, rfl, rfl, hH, hz, q⟩ := h
 cases rx
 obtain ⟨u, rfl, ru⟩ := rv.one
 obtain ⟨z, its, n, r, hl, e⟩ := I.lstM hH
 refine call_meets F.slot_list_append ⟨_, e, rfl⟩ F.entry_list_append (F.args_list_append_2 _ _) (PySem.list_append l its.toArray n u (by rw [List.size_toArray]; omega)) ⟨e, ?_⟩
 refine ⟨.non, _, I.lset (its' := its ++ [u]) hH e (by simp) (r.append (.cons ru .nil)) ?_, rfl, q⟩
 rw [List.length_append, List.length_singleton]
 omega
end
section
variable {prog : Program} {w : World} {A : Around} {E : Value → Shared → Prop} {s : Shared}
end
section
variable {X : Cx}
end
end L2
namespace L2
open PySem PySem.Spec PyProof.Rows
section
variable {κ : Type} [DecidableEq κ]
def valV (kvs : List (κ × V)) (k : κ) : Option V := (kvs.find? fun kv => decide (kv.1 = k)).map (·.2)
def putK (kvs : List (κ × V)) (k : κ) (v : V) : List (κ × V) :=
 if (kvs.any fun kv => decide (kv.1 = k)) = true then kvs.map (fun kv => if kv.1 = k then (kv.1, v) else kv) else kvs ++ [(k, v)]
def Yv (kvs : List (κ × V)) (k : κ) : List (κ × V) := kvs.filter fun kv => decide (kv.1 ≠ k)
theorem HX {p : κ × V} {r : List (κ × V)} {k : κ} (e : p.1 = k) : valV (p :: r) k = some p.2 := by simp [valV, List.find?_cons, e]
theorem HY {p : κ × V} {r : List (κ × V)} {k : κ} (e : ¬ p.1 = k) : valV (p :: r) k = valV r k := by simp [valV, List.find?_cons, e]
theorem J4 (k : κ) : ∀ kvs : List (κ × V), (kvs.any fun kv => decide (kv.1 = k)) = (valV kvs k).isSome
 | [] => rfl
 | p :: r => by
  rw [List.any_cons]
  by_cases e : p.1 = k
  ·simp only [HX e, decide_eq_true e, Bool.true_or, Option.isSome_some]
  ·rw [HY e, decide_eq_false e, Bool.false_or]; exact J4 k r
theorem Fw (kvs : List (κ × V)) (k : κ) (v : V) : (putK kvs k v).length ≤ kvs.length + 1 := by
 unfold putK
 split
 ·rw [List.length_map]; omega
 ·rw [List.length_append, List.length_cons, List.length_nil]; omega
theorem RelO.isSome_eq {o : Option V} {u : Option Value} (r : RelO o u) : o.isSome = u.isSome := by
 cases o with
 | none => cases u with
  | none => rfl
  | some _ => exact (show False from r).elim
 | some _ => cases u with
  | none => exact (show False from r).elim
  | some _ => rfl
theorem RelO.getD {o : Option V} {u : Option Value} {d : V} {d' : Value} (r : RelO o u) (rd : RelV d d') : RelV (o.getD d) (u.getD d') := by
 cases o with
 | none => cases u with
  | none => exact rd
  | some _ => exact (show False from r).elim
 | some _ => cases u with
  | none => exact (show False from r).elim
  | some _ => exact r
theorem KV.val {kvs : List (κ × V)} {vs : List (κ × Value)} (r : KV kvs vs) (k : κ) : RelO (valV kvs k) (valueAt vs k) := by
 unfold KV at r
 induction r with
 | nil => exact True.intro
 | @cons p q ps qs h t ih =>
  obtain ⟨h1, h2⟩ := h
  by_cases e : p.1 = k
  ·have e' : q.1 = k := h1.symm.trans e
   have b : valueAt (q :: qs) k = some q.2 := by simp [valueAt, List.find?_cons, e']
   rw [HX e, b]; exact h2
  ·have e' : ¬ q.1 = k := fun z => e (h1.trans z)
   have b : valueAt (q :: qs) k = valueAt qs k := by simp [valueAt, List.find?_cons, e']
   rw [HY e, b]; exact ih
theorem KV.any {kvs : List (κ × V)} {vs : List (κ × Value)} (r : KV kvs vs) (k : κ) : (kvs.any fun kv => decide (kv.1 = k)) = vs.any fun kv => decide (kv.1 = k) := by
 unfold KV at r
 induction r with
 | nil => rfl
 | cons h t ih => rw [List.any_cons, List.any_cons, ih, h.1]
theorem KV.repl {kvs : List (κ × V)} {vs : List (κ × Value)} (r : KV kvs vs) (k : κ) {y : V} {u : Value} (ry : RelV y u) :
  KV (kvs.map fun kv => if kv.1 = k then (kv.1, y) else kv) (vs.map fun kv => if kv.1 = k then (kv.1, u) else kv) := by
 unfold KV at r ⊢
 induction r with
 | nil => exact .nil
 | @cons p q ps qs h t ih =>
  rw [List.map_cons, List.map_cons]
  refine .cons ?_ ih
  obtain ⟨h1, h2⟩ := h
  by_cases e : p.1 = k
  ·rw [if_pos e, if_pos (h1.symm.trans e)]; exact ⟨h1, ry⟩
  ·rw [if_neg e, if_neg (fun z => e (h1.trans z))]; exact ⟨h1, h2⟩
theorem KV.put {kvs : List (κ × V)} {vs : List (κ × Value)} (r : KV kvs vs) (k : κ) {y : V} {u : Value} (ry : RelV y u) : KV (putK kvs k y) (stored vs k u) := by
 unfold putK stored
 rw [r.any k]
 by_cases e : (vs.any fun kv => decide (kv.1 = k)) = true
 ·rw [if_pos e, if_pos e]; exact r.repl k ry
 ·rw [if_neg e, if_neg e]; exact Paired.snoc r ⟨rfl, ry⟩
theorem KV.drop {kvs : List (κ × V)} {vs : List (κ × Value)} (r : KV kvs vs) (k : κ) : KV (Yv kvs k) (without vs k) := by
 unfold KV at r ⊢
 unfold Yv without
 induction r with
 | nil => exact .nil
 | @cons p q ps qs h t ih =>
  obtain ⟨h1, h2⟩ := h
  rw [List.filter_cons, List.filter_cons]
  by_cases e : p.1 = k
  ·have a : ¬ decide (p.1 ≠ k) = true := by simp [e]
   have b : ¬ decide (q.1 ≠ k) = true := by simp [h1.symm.trans e]
   rw [if_neg a, if_neg b]; exact ih
  ·have e' : ¬ q.1 = k := fun z => e (h1.trans z)
   have a : decide (p.1 ≠ k) = true := by simp [e]
   have b : decide (q.1 ≠ k) = true := by simp [e']
   rw [if_pos a, if_pos b]; exact .cons ⟨h1, h2⟩ ih
theorem KV.keys {kvs : List (κ × V)} {vs : List (κ × Value)} (r : KV kvs vs) : kvs.map (·.1) = vs.map (·.1) := by
 unfold KV at r
 induction r with
 | nil => rfl
 | cons h t ih => rw [List.map_cons, List.map_cons, ih, h.1]
theorem KV.length {kvs : List (κ × V)} {vs : List (κ × Value)} (r : KV kvs vs) : kvs.length = vs.length := Paired.length r
end
theorem K5 {P : Program} {w : World} {k : Key} {u : Value} (r : RelV (kV k) u) : (A_ P w).is k u = true := by
 cases k with
 | inl i => obtain ⟨t, e⟩ := (show ∃ t, u = Value.int i t from r); subst e; exact Oq P w i t
 | inr x => obtain ⟨t, e⟩ := (show ∃ t, u = Value.str x t from r); subst e; exact Ot P w x t
theorem K6 {P : Program} {w : World} : ∀ {ks : List Key} {us : List Value}, Vals (ks.map kV) us → ItemsAre (A_ P w) ks us
 | [], _, r => by rw [List.map_nil] at r; cases r; exact .nil
 | k :: ks, _, r => by
  rw [List.map_cons] at r
  cases r with
  | cons h t => exact .cons (K5 h) (K6 t)
abbrev KT (H : Hp) : List (List Key × V) → List (List Key × Addr × Value) → Prop := Paired fun p q => p.1 = q.1 ∧ H q.2.1 = some (.tup (p.1.map kV)) ∧ RelV p.2 q.2.2
theorem KT.val {H : Hp} {kvs : List (List Key × V)} {xs : List (List Key × Addr × Value)} (r : KT H kvs xs) (k : List Key) : RelO (valV kvs k) ((atKey xs k).map (·.2)) := by
 induction r with
 | nil => exact True.intro
 | @cons p q ps qs h t ih =>
  obtain ⟨h1, _, h2⟩ := h
  by_cases e : p.1 = k
  ·have e' : q.1 = k := h1.symm.trans e
   have b : atKey (q :: qs) k = some q.2 := by simp [atKey, List.find?_cons, e']
   rw [HX e, b]; exact h2
  ·have e' : ¬ q.1 = k := fun z => e (h1.trans z)
   have b : atKey (q :: qs) k = atKey qs k := by simp [atKey, List.find?_cons, e']
   rw [HY e, b]; exact ih
theorem KT.repl {H : Hp} {kvs : List (List Key × V)} {xs : List (List Key × Addr × Value)} (r : KT H kvs xs) (k : List Key) {y : V} {u : Value} (ry : RelV y u) :
  KT H (kvs.map fun kv => if kv.1 = k then (kv.1, y) else kv) (xs.map (putAt k u)) := by
 induction r with
 | nil => exact .nil
 | @cons p q ps qs h t ih =>
  rw [List.map_cons, List.map_cons]
  refine .cons ?_ ih
  obtain ⟨h1, h2, h3⟩ := h
  unfold putAt
  by_cases e : p.1 = k
  ·rw [if_pos e, if_pos (h1.symm.trans e)]; exact ⟨h1, h2, ry⟩
  ·rw [if_neg e, if_neg (fun z => e (h1.trans z))]; exact ⟨h1, h2, h3⟩
theorem KT.put {H : Hp} {kvs : List (List Key × V)} {xs : List (List Key × Addr × Value)} (r : KT H kvs xs) (k : List Key) {b : Addr} {y : V} {u : Value} (hb : H b = some (.tup (k.map kV))) (ry : RelV y u) :
  KT H (putK kvs k y) (storedH xs k b u) := by
 have e : (kvs.any fun kv => decide (kv.1 = k)) = (atKey xs k).isSome := by
  rw [J4, (r.val k).isSome_eq, Option.isSome_map]
 unfold putK storedH
 rw [e]
 by_cases q : (atKey xs k).isSome = true
 ·rw [if_pos q, if_pos q]; exact r.repl k ry
 ·rw [if_neg q, if_neg q]; exact Paired.snoc r ⟨rfl, hb, ry⟩
theorem KT.keeps {H H' : Hp} {kvs : List (List Key × V)} {xs : List (List Key × Addr × Value)} (r : KT H kvs xs) (ht : ∀ b ys, H b = some (.tup ys) → H' b = some (.tup ys)) : KT H' kvs xs :=
 Paired.mapP r fun _ _ z => ⟨z.1, ht _ _ z.2.1, z.2.2⟩
section
variable {P : Program} {w : World} {H : Hp} {h : Heap} {a : Addr}
theorem Yw {u : HO} (ok : HOk P w H h) (e : Rd H a u) : Be P w H h a u := e.ok ok
theorem J5 {kvs : List (Key × V)} (ok : HOk P w H h) (e : Rd H a (.dK kvs)) : kvs.length ≤ sizeLine ∧ (a == sysModules) = false ∧ ∃ vs, KV kvs vs ∧ h.DictOf (A_ P w) a vs :=
 show Be P w H h a (.dK kvs) from Yw ok e
theorem Ux {kvs : List (Key × V)} (ok : HOk P w H h) (e : H a = some (.dK kvs)) : kvs.length ≤ sizeLine ∧ (a == sysModules) = false ∧ ∃ vs, KV kvs vs ∧ h.DictOf (A_ P w) a vs := J5 ok (.inl e)
theorem J6 {ks : List Key} (ok : HOk P w H h) (e : H a = some (.tup (ks.map kV))) : (tupleKind (A_ P w)).is h ks a := by
 obtain ⟨_, its, r, o, h1, h2, n, h3⟩ := (show Be P w H h a (.tup (ks.map kV)) from ok a _ e)
 exact ⟨o, its.toArray, n, h1, h2, h3, by simpa using K6 r⟩
theorem Ow {kvs : List (List Key × V)} (ok : HOk P w H h) (e : Rd H a (.dT kvs)) : kvs.length ≤ sizeLine ∧ (a == sysModules) = false ∧
  ∃ xs, KT H kvs xs ∧ h.DictOfH (tupleKind (A_ P w)) a xs := by
 obtain ⟨z, y, xs, r, o, es, ep, h1, h2, h3, h4, h5⟩ := (show Be P w H h a (.dT kvs) from Yw ok e)
 refine ⟨z, y, xs, r, o, es, ep, h1, h2, h3, h4, fun x hx => ?_, h5⟩
 have all : ∀ {l : List (List Key × V)} {m : List (List Key × Addr × Value)}, KT H l m → ∀ x ∈ m, (tupleKind (A_ P w)).is h x.1 x.2.1 := by
  intro l m q
  induction q with
  | nil => intro x hx; exact nomatch hx
  | @cons p q ps qs hq t ih =>
   intro x hx
   rcases List.mem_cons.mp hx with e | hx
   ·subst e
    exact J6 ok (by rw [← hq.1]; exact hq.2.1)
   ·exact ih x hx
 exact all r x hx
theorem cF {kvs : List (List Key × V)} (ok : HOk P w H h) (e : H a = some (.dT kvs)) : kvs.length ≤ sizeLine ∧ (a == sysModules) = false ∧
  ∃ xs, KT H kvs xs ∧ h.DictOfH (tupleKind (A_ P w)) a xs := Ow ok (.inl e)
end
def DGet (H : Hp) (a : Addr) (y : V) (r : Option V) : Prop :=
 (∃ kvs k, Rd H a (.dK kvs) ∧ y = kV k ∧ r = valV kvs k) ∨ ∃ kvs k b, Rd H a (.dT kvs) ∧ y = .ref b ∧ H b = some (.tup (k.map kV)) ∧ r = valV kvs k
def DPut (H : Hp) (a : Addr) (y v : V) (H' : Hp) : Prop :=
 (∃ kvs k, H a = some (.dK kvs) ∧ y = kV k ∧ kvs.length < sizeLine ∧ H' = upd H a (.dK (putK kvs k v))) ∨
 ∃ kvs k b, H a = some (.dT kvs) ∧ y = .ref b ∧ H b = some (.tup (k.map kV)) ∧ kvs.length < sizeLine ∧ H' = upd H a (.dT (putK kvs k v))
theorem DGet.k {H : Hp} {a : Addr} {kvs : List (Key × V)} {k : Key} (e : H a = some (.dK kvs)) : DGet H a (kV k) (valV kvs k) := .inl ⟨kvs, k, .inl e, rfl, rfl⟩
theorem DGet.t {H : Hp} {a b : Addr} {kvs : List (List Key × V)} {k : List Key} (e : H a = some (.dT kvs)) (eb : H b = some (.tup (k.map kV))) : DGet H a (.ref b) (valV kvs k) := .inr ⟨kvs, k, b, .inl e, rfl, eb, rfl⟩
theorem DPut.k {H : Hp} {a : Addr} {kvs : List (Key × V)} {k : Key} {v : V} (e : H a = some (.dK kvs)) (hl : kvs.length < sizeLine) : DPut H a (kV k) v (upd H a (.dK (putK kvs k v))) := .inl ⟨kvs, k, e, rfl, hl, rfl⟩
theorem DPut.t {H : Hp} {a b : Addr} {kvs : List (List Key × V)} {k : List Key} {v : V} (e : H a = some (.dT kvs)) (eb : H b = some (.tup (k.map kV))) (hl : kvs.length < sizeLine) :
  DPut H a (.ref b) v (upd H a (.dT (putK kvs k v))) := .inr ⟨kvs, k, b, e, rfl, eb, hl, rfl⟩
section
variable {X : Cx} {pins : List (Addr × Obj)} {σ : St} {H : Hp} {s : Shared} {a : Addr} {y v : V} {u r : Value} {o : Option V} {A : Around} {E : Value → Shared → Prop}
theorem Inv.big (I : Inv X pins σ H s) : sysModules < s.heap.objs.size := by
 have h : mainGlobals < s.heap.objs.size := (I.mod.glob.keeps I.bk).lt
 exact Nat.lt_trans (by decide) h
theorem Tq {Q : Value → Shared → Prop} (hu : A.units + 1 < cLine) (I : Inv X pins σ H s) (g : DGet H a y (some v)) (ry : RelV y u) (h : ∀ w' s', Inv X pins σ H s' → RelV v w' → Q w' s') :
  wpAny (model X.prog X.w) A (getItem (.ref a) u) Q E s := by
 rcases g with ⟨kvs, k, e, ey, l⟩ | ⟨kvs, k, b, e, ey, eb, l⟩
 ·subst ey
  obtain ⟨z, hd, vs, rel, dd⟩ := J5 I.hok e
  obtain ⟨w', hw, rw'⟩ := RelO.some_of (v := v) (o := valueAt vs k) (by rw [l]; exact rel.val k)
  exact wpAny_getItem_of (K5 ry) dd.mapOf hw (h w' _ (I.tok _) rw')
 ·subst ey
  cases (show u = Value.ref b from ry)
  obtain ⟨z, hd, xs, rel, dd⟩ := Ow I.hok e
  obtain ⟨w', hw, rw'⟩ := RelO.some_of (v := v) (o := (atKey xs k).map (·.2)) (by rw [l]; exact rel.val k)
  obtain ⟨p, hp, hp2⟩ := Option.map_eq_some_iff.mp hw
  refine wpAny_getItem_heap (tupleKind_room_in1 hu) (J6 I.hok eb) dd hp ?_
  rw [hp2]
  exact h w' _ (I.tok _) rw'
theorem d_in {Q : Value → Shared → Prop} (hu : A.units + 1 < cLine) (I : Inv X pins σ H s) (g : DGet H a y o) (ry : RelV y u) (h : ∀ s', Inv X pins σ H s' → Q (.bool o.isSome) s') :
  wpAny (model X.prog X.w) A (compareOp .In u (.ref a)) Q E s := by
 rcases g with ⟨kvs, k, e, ey, l⟩ | ⟨kvs, k, b, e, ey, eb, l⟩
 ·subst ey
  obtain ⟨z, hd, vs, rel, dd⟩ := J5 I.hok e
  refine wpAny_in_of (K5 ry) hd dd.mapOf ?_
  rw [← (rel.val k).isSome_eq, ← l]
  exact h _ (I.tok _)
 ·subst ey
  cases (show u = Value.ref b from ry)
  obtain ⟨z, hd, xs, rel, dd⟩ := Ow I.hok e
  refine wpAny_in_heap (tupleKind_room_in1 hu) (J6 I.hok eb) hd dd ?_
  have q := (rel.val k).isSome_eq
  rw [Option.isSome_map] at q
  rw [← q, ← l]
  exact h _ (I.tok _)
theorem Xc {Q : Value → Shared → Prop} (hu : A.units + 1 < cLine) (I : Inv X pins σ H s) (g : DGet H a y o) (ry : RelV y u) (h : ∀ s', Inv X pins σ H s' → Q (.bool (!o.isSome)) s') :
  wpAny (model X.prog X.w) A (compareOp .NotIn u (.ref a)) Q E s := by
 rcases g with ⟨kvs, k, e, ey, l⟩ | ⟨kvs, k, b, e, ey, eb, l⟩
 ·subst ey
  obtain ⟨z, hd, vs, rel, dd⟩ := J5 I.hok e
  refine wpAny_notIn_of (K5 ry) hd dd.mapOf ?_
  rw [← (rel.val k).isSome_eq, ← l]
  exact h _ (I.tok _)
 ·subst ey
  cases (show u = Value.ref b from ry)
  obtain ⟨z, hd, xs, rel, dd⟩ := Ow I.hok e
  refine wpAny_notIn_heap (tupleKind_room_in1 hu) (J6 I.hok eb) hd dd ?_
  have q := (rel.val k).isSome_eq
  rw [Option.isSome_map] at q
  rw [← q, ← l]
  exact h _ (I.tok _)
theorem Ha {h' : Heap} {t' : Nat} {ob : HO} (I : Inv X pins σ H s) (mu : Mut (H a)) (hs : Heap.SameBut a s.heap h') (he : ∃ q, h'.get? a = some q) (new : Be X.prog X.w (upd H a ob) h' a ob) :
  Inv X pins σ (upd H a ob) { s with heap := h', toks := t' } :=
 I.write (x := a) (e := a) mu (.inl rfl) (fun b q hb z => (hs.2 b hb).trans z) he new
theorem Uy {P : Program} {w : World} {H' : Hp} {h' : Heap} {kvs : List (Key × V)} {vs : List (Key × Value)} (z : kvs.length ≤ sizeLine) (hd : (a == sysModules) = false) (rel : KV kvs vs) (dd : h'.DictOf (A_ P w) a vs) :
  Be P w H' h' a (.dK kvs) := ⟨z, hd, vs, rel, dd⟩
theorem Tr {H' : Hp} {Q : Unit → Shared → Prop} (hu : A.units + 1 < cLine) (I : Inv X pins σ H s) (g : DPut H a y v H') (ry : RelV y u) (rv : RelV v r) (h : ∀ s', Inv X pins σ H' s' → Q () s') :
  wpAny (model X.prog X.w) A (setItem (.ref a) u r) Q E s := by
 rcases g with ⟨kvs, k, e, ey, l, eH⟩ | ⟨kvs, k, b, e, ey, eb, l, eH⟩
 ·subst ey eH
  obtain ⟨z, hd, vs, rel, dd⟩ := Ux I.hok e
  have hz : vs.length ≤ sizeLine := by rw [← rel.length]; exact z
  have hl : (putK kvs k v).length ≤ sizeLine := by have := Fw kvs k v; omega
  refine wpAny_setItem_pairs (hsz := hz) (K5 ry) dd fun h' dd' hs => h _ ?_
  have he : ∃ q, h'.get? a = some q := let ⟨q, _, _, hq, _⟩ := dd'; ⟨q, hq⟩
  exact Ha I (by rw [e]; exact True.intro) hs he (Uy hl hd (rel.put k rv) dd')
 ·subst ey eH
  cases (show u = Value.ref b from ry)
  obtain ⟨z, hd, xs, rel, dd⟩ := cF I.hok e
  have hz : xs.length ≤ sizeLine := by rw [← Paired.length rel]; exact z
  have hl : (putK kvs k v).length ≤ sizeLine := by have := Fw kvs k v; omega
  refine wpAny_setItem_heap (hsz := hz) (tupleKind_room_in1 hu) (J6 I.hok eb) dd fun h' dd' hs => h _ ?_
  obtain ⟨q, es, ep, hq, h2, h3, h4, _, h5⟩ := dd'
  refine Ha I (by rw [e]; exact True.intro) hs ⟨q, hq⟩ ⟨hl, hd, _, (rel.put k eb rv).keeps fun c ys ec => ?_, q, es, ep, hq, h2, h3, h4, h5⟩
  rw [Ad (Yr ec e (fun z => nomatch z))]
  exact ec
end
section
variable {X : Cx} {pins : List (Addr × Obj)} {σ : St} {H : Hp} {s : Shared} {a : Addr} {kvs : List (Key × V)} {k : Key} {u : Value} {A : Around} {E : Value → Shared → Prop}
theorem cG {Q : Value → Shared → Prop} (I : Inv X pins σ H s) (e : Rd H a (.dK kvs)) (h : ∀ t s', Inv X pins σ H s' → Q (.int kvs.length t) s') : wpAny (model X.prog X.w) A (call (.builtin "len") [.ref a]) Q E s := by
 obtain ⟨z, hd, vs, rel, dd⟩ := J5 I.hok e
 refine call_len_dict hd dd (by rw [← rel.length]; rw [sizeLine_eq] at z; omega) ?_
 rw [← rel.length]
 exact h _ _ (I.tok _)
end
theorem Ox {X : Cx} {pins : List (Addr × Obj)} {σ : St} {H : Hp} {s : Shared} {a : Addr} {y : V} {o : Option V} (I : Inv X pins σ H s) (g : DGet H a y o) : s.TypeIs (.ref a) "dict" := by
 rcases g with ⟨kvs, k, e, _, _⟩ | ⟨kvs, k, b, e, _, _, _⟩
 ·obtain ⟨_, _, vs, _, dd⟩ := J5 I.hok e
  exact dd.typeIs
 ·obtain ⟨_, _, xs, _, dd⟩ := Ow I.hok e
  exact dd.typeIs
def cH (td ty tv : TE) : TS := fun D σ H => tv σ H fun v H1 => td σ H1 fun x H2 => ty σ H2 fun y H3 => ∃ a H4, x = .ref a ∧ DPut H3 a y v H4 ∧ D.nx σ H4
section
variable {X : Cx} {o i e value : Expr} {pos pos' tpos : Pos} {td ty tv : TE}
theorem MF (hu : X.A.units + 1 < cLine) (ho : PE X o td) (hi : PE X i ty) (hv : PE X value tv) (hs : swapsWith value (some (.Subscript o i pos')) pos.line X.env = pure false) :
  PS X (.Assign [.Subscript o i pos'] value pos) (cH td ty tv) := by
 intro pins s σ H D I h
 refine wpAny_Assign_Subscript (thn (hv pins s σ H _ I h) fun r s1 ⟨v, H1, I1, rv, q1⟩ => thn (ho pins s1 σ H1 _ I1 q1) fun u s2 ⟨x, H2, I2, rx, q2⟩ => thn (hi pins s2 σ H2 _ I2 q2) fun iv s3 ⟨y, H3, I3, ry, a, H4, ex, g, q3⟩ => ?_) hs
 subst ex
 obtain rfl : u = Value.ref a := rx
 exact Tr hu I3 g ry rv fun s4 I4 => ⟨σ, H4, I4, q3⟩
end
theorem Oz {P : Program} {w : World} {H : Hp} (h : Heap) (hb : sysModules < h.objs.size) : Be P w H (h.push { cls := .type "dict", data := .dict #[] }) h.objs.size (.dK []) :=
 ⟨Nat.zero_le _, beq_eq_false_iff_ne.mpr (Ne.symm (Nat.ne_of_lt hb)), [], .nil, Heap.DictOf.new h⟩
theorem Uz {P : Program} {w : World} {H : Hp} (h : Heap) (hb : sysModules < h.objs.size) : Be P w H (h.push { cls := .type "dict", data := .dict #[] }) h.objs.size (.dT []) :=
 ⟨Nat.zero_le _, beq_eq_false_iff_ne.mpr (Ne.symm (Nat.ne_of_lt hb)), [], .nil, _, #[], 0, Heap.get?_push_size _ rfl, ⟨rfl, rfl, rfl⟩, rfl, rfl, List.nodup_nil⟩
def Z1 : TE := fun _ H Q => ∀ p, H p = none → Q (.ref p) (upd H p (.dK []))
def Z2 : TE := fun _ H Q => ∀ p, H p = none → Q (.ref p) (upd H p (.dT []))
section
variable {X : Cx} {pos : Pos}
theorem U0 : PE X (.Dict [] [] pos) Z1 := fun pins s σ H Q I h =>
 wpAny_Dict_empty ⟨.ref s.heap.objs.size, _, I.laid (a := s.heap.objs.size) (o := .dK []) (t' := s.toks) (fun _ _ q => Heap.get?_push_of_some _ q) (Nat.le_refl _) (Oz s.heap I.big), rfl, h _ (I.hok.fresh (Nat.le_refl _))⟩
theorem U3 : PE X (.Dict [] [] pos) Z2 := fun pins s σ H Q I h =>
 wpAny_Dict_empty ⟨.ref s.heap.objs.size, _, I.laid (a := s.heap.objs.size) (o := .dT []) (t' := s.toks) (fun _ _ q => Heap.get?_push_of_some _ q) (Nat.le_refl _) (Uz s.heap I.big), rfl, h _ (I.hok.fresh (Nat.le_refl _))⟩
end
def Qa : List (TE × TE) → St → Hp → (List (V × V) → Hp → Prop) → Prop
 | [], _, H, Q => Q [] H
 | (tk, tv) :: r, σ, H, Q => tk σ H fun x H1 => tv σ H1 fun y H2 => Qa r σ H2 fun ps H3 => Q ((x, y) :: ps) H3
abbrev VV : List (V × V) → List (Value × Value) → Prop := Paired fun p q => RelV p.1 q.1 ∧ RelV p.2 q.2
def PPs (X : Cx) (pos : Pos) (keys : List (Option Expr)) (values : List Expr) (trs : List (TE × TE)) : Prop :=
 ∀ (pins : List (Addr × Obj)) (s : Shared) (σ : St) (H : Hp) (Q : List (V × V) → Hp → Prop), Inv X pins σ H s → Qa trs σ H Q →
  wpAny (model X.prog X.w) X.A (evalPairs (pairTrees keys values X.env pos)) (fun vs s' => ∃ ps H', Inv X pins σ H' s' ∧ VV ps vs ∧ Q ps H') X.xe s
theorem Xd {X : Cx} {pos : Pos} : PPs X pos [] [] [] := fun pins s σ H Q I h => pairTrees_nil_walk ⟨[], H, I, .nil, h⟩
theorem U4 {X : Cx} {pos : Pos} {k v : Expr} {ks : List (Option Expr)} {vs : List Expr} {tk tv : TE} {trs : List (TE × TE)} (hk : PE X k tk) (hv : PE X v tv) (hr : PPs X pos ks vs trs) :
  PPs X pos (some k :: ks) (v :: vs) ((tk, tv) :: trs) := fun pins s σ H Q I h =>
 pairTrees_cons_walk (thn (hk pins s σ H _ I h) fun u s1 ⟨x, H1, I1, rx, q1⟩ => thn (hv pins s1 σ H1 _ I1 q1) fun w2 s2 ⟨y, H2, I2, ry, q2⟩ =>
  thn (hr pins s2 σ H2 _ I2 q2) fun ws s3 ⟨ps, H3, I3, rel, q3⟩ => ⟨(x, y) :: ps, H3, I3, .cons ⟨rx, ry⟩ rel, q3⟩)
def IV (kvs more : List (Key × V)) : List (Key × V) := more.foldl (fun acc kv => putK acc kv.1 kv.2) kvs
theorem KV.merge : ∀ {more : List (Key × V)} {rs : List (Key × Value)} {kvs : List (Key × V)} {vs : List (Key × Value)}, KV more rs → KV kvs vs → KV (IV kvs more) (merged vs rs) := by
 intro more rs kvs vs r
 unfold KV at r
 induction r generalizing kvs vs with
 | nil => intro q; exact q
 | @cons p q ps qs h t ih =>
  intro r0
  have e : KV (putK kvs p.1 p.2) (stored vs q.1 q.2) := by
   have := r0.put p.1 h.2
   rw [← h.1]; exact this
  exact ih e
theorem Gv : ∀ (more kvs : List (Key × V)), (IV kvs more).length ≤ kvs.length + more.length
 | [], kvs => by show kvs.length ≤ kvs.length + 0; omega
 | p :: r, kvs => by
  have h1 := Gv r (putK kvs p.1 p.2)
  have h2 := Fw kvs p.1 p.2
  show (IV (putK kvs p.1 p.2) r).length ≤ _
  rw [List.length_cons]; omega
theorem J7 {P : Program} {w : World} : ∀ {kvs : List (Key × V)} {ws : List (Value × Value)}, VV (kvs.map fun kv => (kV kv.1, kv.2)) ws → ∃ rs, Carries (A_ P w) ws rs ∧ KV kvs rs
 | [], _, r => by rw [List.map_nil] at r; cases r; exact ⟨[], True.intro, .nil⟩
 | p :: kvs, _, r => by
  rw [List.map_cons] at r
  cases r with
  | @cons a b as bs h t =>
   obtain ⟨rs, c, q⟩ := J7 (P := P) (w := w) t
   obtain ⟨b1, b2⟩ := b
   exact ⟨(p.1, b2) :: rs, ⟨K5 h.1, rfl, c⟩, .cons ⟨rfl, h.2⟩ q⟩
def cI (trs : List (TE × TE)) : TE := fun σ H Q => ∀ p, H p = none → Qa trs σ (upd H p (.dK [])) fun ps H2 => H2 p = some (.dK []) ∧ ∃ kvs : List (Key × V), ps = kvs.map (fun kv => (kV kv.1, kv.2)) ∧ kvs.length ≤ 15 ∧ Q (.ref p) (upd H2 p (.dK (IV [] kvs)))
theorem Xe {X : Cx} {pos : Pos} {keys : List (Option Expr)} {values : List Expr} {trs : List (TE × TE)} (h : PPs X pos keys values trs) (hall : keys.all (·.isSome) = true) (hl : keys.length = values.length) (h0 : keys ≠ [])
  (h15 : keys.length ≤ 15) : PE X (.Dict keys values pos) (cI trs) := by
 intro pins s σ H Q I q
 have hn := I.hok.fresh (Nat.le_refl s.heap.objs.size)
 have I1 := I.laid (a := s.heap.objs.size) (o := .dK []) (h' := s.heap.push { cls := .type "dict", data := .dict #[] }) (t' := s.toks) (fun _ _ q => Heap.get?_push_of_some _ q) (Nat.le_refl _) (Oz s.heap I.big)
 refine wpAny_Dict_walk (knd := A_ X.prog X.w) hall hl h0 h15 (thn (h pins _ σ _ _ I1 (q _ hn)) fun ws s2 ⟨ps, H2, I2, rel, e, kvs, ep, lk, q2⟩ => ?_)
 subst ep
 obtain ⟨rs, c, rk⟩ := J7 (P := X.prog) (w := X.w) rel
 obtain ⟨z, hd, vs0, r0, dd⟩ := Ux I2.hok e
 cases r0
 refine ⟨rs, c, dd, fun h' dd' hs => ⟨.ref s.heap.objs.size, _, ?_, rfl, q2⟩⟩
 have hz : (IV [] kvs).length ≤ sizeLine := by
  have h1 := Gv kvs []
  rw [List.length_nil] at h1
  rw [sizeLine_eq]; omega
 have he : ∃ q, h'.get? s.heap.objs.size = some q := let ⟨q, _, _, hq, _⟩ := dd'; ⟨q, hq⟩
 exact Ha I2 (by rw [e]; exact True.intro) hs he (Uy hz hd (rk.merge .nil) dd')
section
variable {X : Cx} {pins : List (Addr × Obj)} {σ : St} {H : Hp} {s : Shared} {a : Addr} {y d : V} {u r : Value} {o : Option V} {A : Around} {E : Value → Shared → Prop}
end
section
variable {X : Cx} {o e f : Expr} {apos cpos : Pos} {td ty tx : TE}
end
section
variable {X : Cx} {pins : List (Addr × Obj)} {σ : St} {H : Hp} {s : Shared} {a : Addr} {kvs : List (Key × V)} {A : Around} {E : Value → Shared → Prop}
end
section
variable {X : Cx} {pins : List (Addr × Obj)} {σ : St} {H : Hp} {s : Shared} {a : Addr} {y : V} {u : Value} {A : Around} {E : Value → Shared → Prop}
end
end L2
namespace Att
open PySem PySem.W PySem.Calls PyProof.Rows
theorem JT {P : Params} {h : Heap} : ∀ (ns : List Int) (vs : List Value), WellAll P h vs (ns.map WData.int) → IntsAre vs ns := by
 intro ns
 induction ns with
 | nil =>
  intro vs w
  rw [List.map_nil] at w
  cases w
  exact .nil
 | cons n ns ih =>
  intro vs w
  rw [List.map_cons] at w
  cases w with
  | cons a b =>
   cases a
   exact .cons _ _ (ih _ b)
theorem Tt {l : OpenLaw} {n : Nat} (hn : l.most = some n) {P : Params} {h : Heap} {args : List WData} {vals : List Value}
  (hpre : l.row.toRowW.claim.pre args = true) (hwl : WellAll P h vals args) :
  ∃ a vs ns, vals = [Value.ref a] ∧ args = [WData.list (ns.map WData.int)] ∧ h.get? a = some { cls := .type "list", data := .seq vs.toArray } ∧ IntsAre vs ns ∧ ns.length ≤ n := by
 have hsh : WShape.hasAll [] args [.list .int] = true := (pre_splitW hpre).1
 have hc : l.pre.holds [] { args := args } = true := (pre_splitW hpre).2
 obtain ⟨d, r, rfl, h1, h2⟩ := hasAllW_cons hsh
 obtain rfl := hasAllW_nil h2
 obtain ⟨xs, rfl, h3⟩ := hasW_list h1
 obtain ⟨ns, rfl⟩ := items_int h3
 have hlen : ns.length ≤ n := by
  unfold OpenLaw.pre at hc
  have h4 : (WTm.not (.lt (.lit (.int (n : Int))) (.len (.arg 0)))).holds [] { args := [.list (ns.map .int)] } = true := by
   have h4 := (holds_andW hc).1
   rw [hn] at h4
   exact h4
  have h5 := condW_of h4 (w_not (w_lt w_lit (w_len_list (w_arg rfl))))
  rw [List.length_map] at h5
  refine Nat.le_of_not_lt fun q => ?_
  have q' : (n : Int) < ((ns.length : Nat) : Int) := by omega
  first
   | (rw [decide_eq_true q'] at h5; exact absurd h5 (by decide))
   | (simp at h5; omega)
 cases hwl with
 | cons w1 w2 =>
  cases w2
  cases w1 with
  | list ho hall => exact ⟨_, _, ns, rfl, rfl, ho, JT ns _ hall, hlen⟩
theorem Tu (l : OpenLaw) (args : List WData) : l.row.toRowW.claim.post args (.bool true) args = true :=
 postW_of (r := l.row.toRowW) (X := (true == true))
  (show WShape.has [] (.bool true) .bool = true by first | rfl | decide | simp [WShape.has, WShape.arms, WShape.armsAll])
  (show (WTm.eq .res (.lit (.bool true))).value [] { args := args, res := some (.bool true), after := args } = some (.bool (true == true)) from w_eq_bool (w_res rfl) w_lit) rfl
theorem O1 {l : OpenLaw} {n : Nat} {q : Program} {loose : List Str} {XP : (Str → Option Value) → Heap → Prop} {YP : World → Heap → Prop} {d : DefRec}
  (hn : l.most = some n) (hdf : d.params.defaults = [])
  (call : ∀ (w : World) (s₀ s₁ : Shared) (mg mb : Str → Option Value) (fa : Addr) (o : Obj) (pm cd doc : Value) (a : Addr) (vs : List Value) (ns : List Int),
   Ground q loose [] XP w s₀ mg mb s₁.heap → YP w s₁.heap →
   s₁.heap.get? fa = some o → o.data = .func (docDef d.name d.params d.body d.scope pm cd doc) → s₁.heap.CodeRec cd d.name → mg d.name = some (.ref fa) →
   s₁.heap.get? a = some { cls := .type "list", data := .seq vs.toArray } → IntsAre vs ns → ns.length ≤ n → s₁.gens = #[] →
   codeAny (model l.prog w) callerA (.call (.ref fa) ⟨[.ref a], []⟩) (fun r s' => r = .ok (.ret (.bool true)) ∧ OldK s₁.heap s'.heap ∧ s'.os = s₁.os ∧ AllBare s'.gens) s₁) :
  WalkO q loose XP YP l.row.toRowW d [] (fun f vs => PySem.call f vs) := by
 intro w s₀ s₁ mg mb G Y fa o pm cd doc dV kV ho hd hcd hD hmg hg args vals as hpre hlay hrd hwl hlo
 obtain rfl : dV = .none := Dflts.none hD hdf
 obtain rfl : kV = .none := Dflts.noKw hD
 obtain ⟨a, vs, ns, rfl, rfl, hobj, hints, hlen⟩ := Tt hn hpre hwl
 refine enter_call (codeAny_mono (call w s₀ s₁ mg mb fa o pm cd doc a vs ns G Y ho (fd_plain hd) hcd hmg hobj hints hlen hg) fun r s' hq => ?_)
 obtain ⟨rfl, h2, h3, h4⟩ := hq
 exact ⟨.inl ⟨.bool true, .bool true, [], rfl, fun _ => rfl, .bool true, Tu l _, fun _ => ⟨List.Pairwise.nil, fun _ hm => (nomatch hm)⟩⟩, h2, h3, h4⟩
section
variable {prog : Program} {w : World} {A : Around} {E : Value → Shared → Prop} {s : Shared} {K : Frag}
end
end Att
namespace L2
open PySem PySem.Spec PyProof.Rows
theorem K7 : ∀ {vs : List Value} {ns : List Int}, IntsAre vs ns → Vals (ns.map V.int) vs
 | _, _, .nil => .nil
 | _, _, .cons n t h => .cons ⟨t, rfl⟩ (K7 h)
def Only (H : Hp) : Prop := ∀ b, H b = none ∨ ∃ o xs, H b = some (.frz o (.lst xs))
theorem U5 {P : Program} {w : World} {K : PySem.W.Frag} {mg mb : Str → Option Value} {CX : CXT} {k : Nat} {fa a : Addr} {fd : FuncData} {x : Str} {sp : Sp} {s₁ : Shared} {vs : List Value} {ns : List Int}
    (KX : K.In s₁.heap) (hns : s₁.heap.Ns mainGlobals mg) (hb : s₁.heap.Ns builtinsNs mb) (hbb : ∀ x : Str, x ≠ "__name__" → mb x = bootBuiltins x) (hlim : s₁.heap.NoLimit) (hg : s₁.gens = #[])
    (ha : s₁.heap.get? a = some { cls := .type "list", data := .seq vs.toArray }) (hi : IntsAre vs ns) (hl : ns.length ≤ sizeLine) (hr : Room k callerA)
    (F : ∀ base : Heap, K.In base → base.Ns mainGlobals mg → FnOk P w K mg base CX k fa fd [x] sp) (hbind : ∀ (s : Shared) (u : Value), BindsTo s fd ⟨[u], []⟩ [(x, u)])
    (hsp : ∀ H : Hp, Only H → SqL K H a (ns.map V.int) → sp [.ref a] H (fun v _ => v = .bl true) fun _ _ _ => False)
    (hCX : ∀ H e s', CX [] H s₁ (fun _ _ _ => False) e s' → False) :
    codeAny (model P w) callerA (.call (.ref fa) ⟨[.ref a], []⟩) (fun r s' => r = .ok (.ret (.bool true)) ∧ OldK s₁.heap s'.heap ∧ s'.os = s₁.os ∧ AllBare s'.gens) s₁ := by
  have rv := K7 hi
  have lenV := hi.length
  have core : ∀ H : Hp, Only H → SqL K H a (ns.map V.int) → HOk P w H s₁.heap → (∀ b, H b ≠ none → b = a) → (H a ≠ none → K.lookup a = none) →
      codeAny (model P w) callerA (.call (.ref fa) ⟨[.ref a], []⟩) (fun r s' => r = .ok (.ret (.bool true)) ∧ OldK s₁.heap s'.heap ∧ s'.os = s₁.os ∧ AllBare s'.gens) s₁ := by
    intro H hO hS hok hA hK
    have base_of : ∀ {b : Addr} {o : Obj}, s₁.heap.get? b = some o → H b = none → (hidT s₁.heap H).get? b = some o := fun e n => Uc e n
    have noA : ∀ {b : Addr} {o : Obj} {es : Array DictEntry} {ep : Nat}, s₁.heap.get? b = some o → o.data = .dict es ep → H b = none := fun {b o es ep} e d => by
      cases q : H b with
      | none => rfl
      | some u =>
        have e' : b = a := hA b (by rw [q]; simp)
        subst e'
        rw [ha] at e; cases e
        have d' : Data.seq vs.toArray _ = Data.dict es ep := d
        cases d'
    have nsK : ∀ {b : Addr} {m : Str → Option Value}, s₁.heap.Ns b m → (hidT s₁.heap H).Ns b m := fun {b m} ⟨o, es, ep, e, d, r⟩ => ⟨o, es, ep, base_of e (noA e d), d, r⟩
    have hKb : K.In (hidT s₁.heap H) := fun b o e => base_of (KX b o e) (by
      cases q : H b with
      | none => rfl
      | some u =>
        have e' : b = a := hA b (by rw [q]; simp)
        subst e'
        rw [hK (by rw [q]; simp)] at e; cases e)
    have hM : Mod K mg (hidT s₁.heap H) := ⟨hKb, nsK hns, ⟨mb, nsK hb, hbb⟩, let ⟨mc, h1, h2⟩ := hlim; ⟨mc, nsK h1, h2⟩⟩
    have e0 : Env0 P w K mg (hidT s₁.heap H) callerA [] s₁ H := ⟨rfl, hM, fun b o e => W4 e, Nat.le_of_eq (Td _ _), trivial, fun b hb => absurd (show b ∈ ([] : List Addr) from hb) (by simp), hok, .of_eq hg⟩
    refine codeAny_mono ((F _ hKb (nsK hns)).run callerA [] s₁ H ⟨[.ref a], []⟩ [.ref a] [.ref a] _ _ hr e0 (hbind s₁ (.ref a)) (.cons rfl .nil) (hsp H hO hS)) fun r s' h => ?_
    cases r with
    | error e => exact (hCX H e s' h).elim
    | ok fl =>
      cases fl with
      | next => exact False.elim h
      | brk => exact False.elim h
      | cont => exact False.elim h
      | ret u =>
        obtain ⟨v, H', os, bare, un, hok', r', q⟩ := h
        have q' : v = .bl true := q
        subst q'
        obtain rfl : u = Value.bool true := r'
        refine ⟨rfl, OldK.of_keep fun b o e => ?_, os, bare⟩
        cases q : H b with
        | none => exact un.keep b o e q (by intro z; exact absurd (show b ∈ ([] : List Addr) from z) (by simp)) (by simp)
        | some u =>
          rcases hO b with z | ⟨ob, xs, z⟩
          · rw [q] at z; cases z
          · have z2 := un.frzs b ob _ z
            obtain ⟨e1, _⟩ := hok b _ z
            obtain ⟨e2, _⟩ := hok' b _ z2
            rw [e] at e1; cases e1
            exact e2
  cases hk : K.lookup a with
  | some o =>
    have e := KX a o hk
    rw [ha] at e
    cases e
    refine core (fun _ => none) (fun _ => .inl rfl) (.inr ⟨_, vs.toArray, _, hk, rfl, rfl, rfl, by rw [List.size_toArray, lenV]; exact hl, by simpa using rv⟩) (fun b u z => by have z' : (none : Option HO) = some u := z; cases z') (fun b z => absurd rfl z) fun z => absurd rfl z
  | none =>
    refine core (fun b => if b = a then some (.frz { cls := .type "list", data := .seq vs.toArray } (.lst (ns.map V.int))) else none) (fun b => ?_) (.inl (.inr ⟨{ cls := .type "list", data := .seq vs.toArray }, if_pos rfl⟩)) (fun b u z => ?_) (fun b z => ?_) fun _ => hk
    · by_cases hb : b = a
      · exact .inr ⟨_, _, if_pos hb⟩
      · exact .inl (if_neg hb)
    · by_cases hb : b = a
      · have z' := (if_pos hb).symm.trans z
        cases z'
        subst hb
        exact ⟨ha, by rw [List.length_map]; exact hl, vs, _, rv, ha⟩
      · have z' := (if_neg hb).symm.trans z
        cases z'
    · by_cases hb : b = a
      · exact hb
      · exact absurd (if_neg hb) z
end L2
namespace L2
open PySem PySem.Spec PyProof.Rows
abbrev KOf {K : PySem.W.Frag} {h : Heap} (_ : K.In h) : PySem.W.Frag := K
theorem Xf {l : PySem.W.OpenLaw} {n k : Nat} {q : Program} {loose : List Str} {XP : (Str → Option Value) → Heap → Prop} {YP : World → Heap → Prop} {d : DefRec} {K : Params → PySem.W.Frag} {CX : World → CXT} {sp : World → Sp} {x : Str}
  (hn : l.most = some n) (hn2 : n ≤ sizeLine) (hdf : d.params.defaults = []) (hr : Room k callerA)
  (hY : ∀ (w : World) (h : Heap), YP w h → (K w.params).In h)
  (F : ∀ (w : World) (mg : Str → Option Value) (fa : Addr) (h : Heap), (K w.params).In h → h.Ns mainGlobals mg → mg d.name = some (.ref fa) →
   ∃ fd : FuncData, (∀ (s : Shared) (u : Value), BindsTo s fd ⟨[u], []⟩ [(x, u)]) ∧
    ∀ base : Heap, (K w.params).In base → base.Ns mainGlobals mg → FnOk l.prog w (K w.params) mg base (CX w) k fa fd [x] (sp w))
  (hsp : ∀ (w : World) (H : Hp) (a : Addr) (ns : List Int), ns.length ≤ n → Only H → SqL (K w.params) H a (ns.map V.int) → sp w [.ref a] H (fun v _ => v = .bl true) fun _ _ _ => False)
  (hCX : ∀ (w : World) (H : Hp) (s : Shared) (e : Value) (s' : Shared), CX w [] H s (fun _ _ _ => False) e s' → False) :
  PySem.W.WalkO q loose XP YP l.row.toRowW d [] (fun f vs => PySem.call f vs) := by
 refine Att.O1 hn hdf fun w s₀ s₁ mg mb fa o pm cd doc a vs ns G Y ho hd hcd hmg hobj hints hlen hg => ?_
 have KX := hY w _ Y
 obtain ⟨fd, hb, hF⟩ := F w mg fa _ KX G.T.g hmg
 exact U5 KX G.T.g G.T.b G.T.builtins G.T.nolimit hg hobj hints (Nat.le_trans hlen hn2) hr hF hb (fun H hO hS => hsp w H a ns hlen hO hS) fun H e s' => hCX w H s₁ e s'
end L2
namespace L2
open PySem PySem.Spec PyProof.Rows
def inClass (s : Stmt) (j : Nat) : Stmt := match s with
 | .ClassDef _ _ _ body _ _ _ _ _ _ _ => body.getD j (.Pass ⟨0, 0, 0, 0⟩)
 | _ => .Pass ⟨0, 0, 0, 0⟩
def Bl (s : Stmt) : Arguments := match s with
 | .FunctionDef _ a _ _ _ _ _ _ _ _ => a
 | _ => { posonlyargs := [], args := [], vararg := none, kwonlyargs := [], kw_defaults := [], kwarg := none, defaults := [] }
def BV (s : Stmt) : List Stmt := match s with
 | .FunctionDef _ _ b _ _ _ _ _ _ _ => b
 | _ => []
def Ab (s : Stmt) : Scope := match s with
 | .FunctionDef _ _ _ _ _ _ sc _ _ _ => sc
 | _ => { kind := .function, names := [], isGenerator := false, isCoroutine := false }
abbrev CX0 : CXT := fun _ _ _ _ _ _ => False
abbrev E0 : XK := fun _ _ _ => False
theorem U6 {X : Cx} : J1 CX0 X E0 := fun _ _ _ _ _ _ _ h => h.elim
structure Fun (K : PySem.W.Frag) (x qual : Str) (st : Stmt) (f : Addr) (fd : FuncData) : Prop where
 ex : ∃ (oc : Value) (od : Option Addr) (kV doc pm : Value) (an : Option Addr) (cdv ct : Value) (osl : Array (Option Value)),
  fd = PySem.W.fnOf x qual (Bl st) (BV st) (Ab st) .none kV doc pm an cdv ct ∧ K.lookup f = some ⟨oc, od, .func fd, osl⟩ ∧ PySem.W.codeIn K cdv qual = true
 kp : PySem.W.keepIn K (.ref f) = true
section
variable {P : Program} {w : World} {K : PySem.W.Frag} {mg : Str → Option Value} {base : Heap}
theorem Fun.ok {x qual : Str} {st : Stmt} {f : Addr} {fd : FuncData} {N ps : List Str} {k : Nat} {sp : Sp} (F : Fun K x qual st f fd) (S : FnScope N ps (Ab st)) (len : ∀ vs H Q E, sp vs H Q E → vs.length = ps.length)
  (hbody : ∀ (cdv : Value) (A : Around) (outer : List Env) (s : Shared) (H : Hp) (vs : List V) (Q : VK) (E : XK), Room k (A.deeper (envOfC qual (Ab st) s.heap.objs.size f cdv)) → sp vs H Q E →
   ∃ t, PSs (cxOf CX0 P w K mg base N qual (Ab st) f cdv A outer s H E).nox (BV st) t ∧ t { nx := fun _ H' => Q .non H', rt := Q } (start N vs) H) : FnOk P w K mg base CX0 (k + 1) f fd ps sp := by
 obtain ⟨oc, od, kV, doc, pm, an, cdv, ct, osl, rfl, lk, hcd⟩ := F.ex
 refine RB lk hcd S len fun A outer s H vs Q E hr hsp => ?_
 obtain ⟨t, h, q⟩ := hbody cdv A outer s H vs Q E hr hsp
 exact ⟨t, h.nox, q⟩
theorem Fun.binds {x qual : Str} {st : Stmt} {f : Addr} {fd : FuncData} {ps : List Str} (F : Fun K x qual st f fd)
  (h : ∀ (kV doc pm : Value) (an : Option Addr) (cdv ct : Value) (us : List Value), us.length = ps.length → bindArgs (PySem.W.fnOf x qual (Bl st) (BV st) (Ab st) .none kV doc pm an cdv ct) ⟨us, []⟩ = pure (ps.zip us)) : Binds K fd ps [] := by
 obtain ⟨oc, od, kV, doc, pm, an, cdv, ct, osl, rfl, lk, hcd⟩ := F.ex
 exact .all (h kV doc pm an cdv ct)
theorem G9 {x qual : Str} {st : Stmt} {f : Addr} {oc : Value} {od an : Option Addr} {osl : Array (Option Value)} {kV doc pm cdv ct : Value} (l : K.lookup f = some ⟨oc, od, .func (PySem.W.fnOf x qual (Bl st) (BV st) (Ab st) .none kV doc pm an cdv ct), osl⟩)
  (c : PySem.W.codeIn K cdv qual = true) (k : PySem.W.keepIn K (.ref f) = true) : Fun K x qual st f (PySem.W.fnOf x qual (Bl st) (BV st) (Ab st) .none kV doc pm an cdv ct) := ⟨⟨oc, od, kV, doc, pm, an, cdv, ct, osl, rfl, l, c⟩, k⟩
end
theorem Fx {A : Around} {k : Nat} (hr : Room k A) : A.units + 1 < cLine := Nat.lt_of_le_of_lt (Nat.add_le_add_left (by decide : 1 ≤ 64) _) hr.units
section
variable {X : Cx}
theorem pv (i : Nat) {x : Str} {pos : Pos} (hN : X.N[i]? = some x := by rfl) (hv : Vis X.env.scope x := by first | exact Or.inl rfl | exact Or.inr (Or.inl rfl) | exact Or.inr (Or.inr rfl)) (hd : (x == ("__debug__" : Str)) = false := by decide)
  (hcd : (x == ("__classdict__" : Str)) = false := by decide) : PE X (.Name x pos) (tVar i) := Zd hN hv hd hcd
end
theorem iteF {A B : Prop} (h : B) : if false = true then A else B := by
 rw [if_neg Bool.false_ne_true]
 exact h
theorem iteT {A B : Prop} (h : A) : if true = true then A else B := by
 rw [if_pos rfl]
 exact h
def Same (H H' : Hp) : Prop := ∀ b o, H b = some o → H' b = some o
theorem Same.refl (H : Hp) : Same H H := fun _ _ h => h
theorem Same.trans {H H1 H2 : Hp} (a : Same H H1) (b : Same H1 H2) : Same H H2 := fun c o h => b c o (a c o h)
theorem Same.free {H H' : Hp} (e : Same H H') {l : Addr} (h : H' l = Option.none) : H l = Option.none := by
 cases q : H l with
 | none => rfl
 | some o =>
  rw [e l o q] at h
  cases h
theorem Same.seq {K : PySem.W.Frag} {H H' : Hp} {a : Addr} {xs : List V} (e : Same H H') (h : SqL K H a xs) : SqL K H' a xs := by
 rcases h with (h | ⟨o, h⟩) | h
 ·exact .inl (.inl (e _ _ h))
 ·exact .inl (.inr ⟨o, e _ _ h⟩)
 ·exact .inr h
section
variable {κ : Type} [DecidableEq κ]
end
end L2
namespace EX
open PySem PySem.Spec L2
open PyProof.Rows hiding St
def tbV : Option Addr → Value
 | none => .none
 | some T => .ref T
def ExcP (a C : Addr) (od tb : Option Addr) : Heap → Prop := fun h => ∃ o vs, h.get? a = some o ∧ o.cls = .ref C ∧ o.dict = od ∧ o.data = .fields vs ∧ vs.size = 6 ∧ vs[1]? = some (tbV tb)
def TbP (T : Addr) (v : Value) : Heap → Prop := fun h => ∃ o ts, h.get? T = some o ∧ o.data = .fields ts ∧ ts[3]? = some v ∧ o.cls = .type "traceback"
abbrev excO (a C : Addr) (od tb : Option Addr) : HO := .ext (ExcP a C od tb)
abbrev tbO (T : Addr) (v : Value) : HO := .ext (TbP T v)
theorem ExcP.ok {P : Program} {w : World} {H : Hp} {h : Heap} {a C : Addr} {od tb : Option Addr} (x : ExcP a C od tb h) : Be P w H h a (excO a C od tb) :=
 ⟨x, let ⟨o, _, e, _⟩ := x; ⟨o, e⟩, fun h1 h2 ⟨o, vs, e, r⟩ k => ⟨o, vs, k o e, r⟩⟩
theorem TbP.ok {P : Program} {w : World} {H : Hp} {h : Heap} {a : Addr} {v : Value} (x : TbP a v h) : Be P w H h a (tbO a v) :=
 ⟨x, let ⟨o, _, e, _⟩ := x; ⟨o, e⟩, fun h1 h2 ⟨o, vs, e, r⟩ k => ⟨o, vs, k o e, r⟩⟩
theorem Xg (f : Array Value → Array Value) (o : Obj) : (Obj.mapFields f o).dict = o.dict := by
 unfold Obj.mapFields
 split <;> rfl
section
variable {X : Cx} {pins : List (Addr × Obj)} {σ : St} {H : Hp} {s : Shared} {e C : Addr} {od tb : Option Addr}
theorem Tv {h' : Heap} (I : Inv X pins σ H s) (x : Heap.SlotsOnly (frs X.stack) s.heap h') : Inv X pins σ H { s with heap := h' } := by
 have k : ∀ b o, s.heap.get? b = some o → H b = none → b ∉ frs X.stack → h'.get? b = some o := fun b o q _ hb => (x.2.1 b hb).trans q
 refine I.call (g' := s.gens) (d' := s.drawn) (t' := s.toks) (ch := []) ⟨fun b o q n hb _ => k b o q n hb, fun b o q _ _ _ => x.2.2 b o q, fun _ _ _ n _ => n, fun b o q _ => let ⟨_, z⟩ := x.2.2 b o q; ⟨_, z⟩, fun _ _ q => q, fun _ _ _ q => q, fun _ ps q => ⟨#[], by rw [q]; simp⟩⟩ (fun b u q => ?_) I.bare fun _ z => nomatch z
 have no : ∀ c v, H c = some v → c ∉ frs X.stack := fun c v q z => by rw [I.stkFree c z] at q; cases q
 refine (I.hok b u q).stay (fun c v hc r => (x.2.1 c ?_).trans r) (fun _ r => r) fun _ _ r => r
 rcases hc with z | z
 ·rw [z]; exact no b u q
 ·exact no c _ z
theorem Hb {a : Addr} {o : Obj} {vs : Array Value} {u u' : HO} {i : Nat} {v : Value} (I : Inv X pins σ H s) (hH : H a = some u) (mu : Mut (some u)) (ho : s.heap.get? a = some o) (hd : o.data = .fields vs)
  (new : ∀ h' o', h'.get? a = some o' → o'.cls = o.cls → o'.dict = o.dict → o'.data = .fields (vs.setIfInBounds i v) → Be X.prog X.w (upd H a u') h' a u') :
  Inv X pins σ (upd H a u') { s with heap := s.heap.update a (Obj.mapFields (·.setIfInBounds i v)) } := by
 have hd' := Obj.data_mapFields hd (·.setIfInBounds i v)
 have g := Heap.get?_update_self (Obj.mapFields (·.setIfInBounds i v)) ho (Obj.isFreed_of_fields hd')
 exact I.write (x := a) (e := a) (t' := s.toks) (by rw [hH]; exact mu) (.inl rfl) (fun b q nb z => (Heap.get?_update_other _ _ (Ne.symm nb)).trans z) ⟨_, g⟩ (new _ _ g (Obj.cls_mapFields _ _) (Xg _ _) hd')
structure Noted (X : Cx) (pins : List (Addr × Obj)) (σ : St) (H : Hp) (e C : Addr) (od tb : Option Addr) (T : Addr) (H' : Hp) (s' : Shared) : Prop where
 inv : Inv X pins σ H' s'
 exc : H' e = some (excO e C od (some T))
 tbk : H' T = some (tbO T .none)
 new : H T = none
 rest : ∀ b u, b ≠ e → tb ≠ some b → H b = some u → H' b = some u
theorem O2 {E : Value → Shared → Prop} {Q : Unit → Shared → Prop} {M : Model} {L : Addr} {head : Value} {hadNext : Bool} (hst : X.stack = X.env :: X.outer) (hf : X.env.frame = some L) (I : Inv X pins σ H s) (he : H e = some (excO e C od tb))
  (k : ∀ T H' s', Noted X pins σ H e C od none T H' s' → Q () s') :
  wpAny M X.A (do let a ← frameOf X.env; let pl ← entryPlaceOf L hadNext; let b ← EntryCells.newEntry head a .none (rawInt L) .none pl; setField (.ref e) 1 b) (fun _ s₂ => wpAny M X.A (setFlight (.ref e) none) Q E s₂) E s := by
 refine wpAny_bind (wpAny_frameOf_fun (base := X.base) (outer := X.outer) (hst ▸ I.ok.frames) (hst ▸ I.stack) hf fun h1 x1 => ?_)
 have I1 := Tv I (h' := h1) (hst ▸ x1)
 refine wpAny_bind (wpAny_entryPlaceOf fun pl hpl => ?_)
 unfold EntryCells.newEntry newFields
 refine wpAny_bind (wpAny_newObj_type ?_ (hpl.sizeOk5 _ _ _ _ _))
 have h3 : ([head, .ref L, .none, rawInt L, .none] ++ (if pl.isEmpty then List.replicate 6 Value.none else pl)).toArray[3]? = some (rawInt L) := by simp
 generalize ([head, .ref L, .none, rawInt L, .none] ++ (if pl.isEmpty then List.replicate 6 Value.none else pl)).toArray = ts at h3
 have g2 : (h1.push { cls := .type "traceback", dict := none, data := .fields ts }).get? h1.objs.size = some { cls := .type "traceback", dict := none, data := .fields ts } := Heap.get?_push_size h1 rfl
 have I2 := I1.laid (a := h1.objs.size) (o := tbO h1.objs.size (rawInt L)) (h' := h1.push { cls := .type "traceback", dict := none, data := .fields ts }) (t' := s.toks) (fun b u q => Heap.get?_push_of_some _ q) (Nat.le_refl _) (TbP.ok ⟨_, ts, g2, rfl, h3, rfl⟩)
 have hT : H h1.objs.size = none := I1.hok.fresh (Nat.le_refl _)
 have neT : e ≠ h1.objs.size := An he hT
 have he2 : (upd H h1.objs.size (tbO h1.objs.size (rawInt L))) e = some (excO e C od tb) := by rw [Ad neT]; exact he
 obtain ⟨⟨o, vs, q1, q2, q3, q4, q5, q6⟩, _⟩ := I2.hok e _ he2
 refine wpAny_setField q1 q4 (by omega) ?_
 have I3 := Hb (u' := excO e C od (some h1.objs.size)) (i := 1) (v := .ref h1.objs.size) I2 he2 trivial q1 q4 fun h' o' r1 r2 r3 r4 => ExcP.ok ⟨o', _, r1, r2.trans q2, r3.trans q3, r4, by simpa using q5, by simp [tbV, q5]⟩
 have e3 := Ae (H := upd H h1.objs.size (tbO h1.objs.size (rawInt L))) (a := e) (o := excO e C od (some h1.objs.size))
 have t3 : upd (upd H h1.objs.size (tbO h1.objs.size (rawInt L))) e (excO e C od (some h1.objs.size)) h1.objs.size = some (tbO h1.objs.size (rawInt L)) := by rw [Ad (Ne.symm neT)]; exact Ae
 obtain ⟨⟨o5, vs5, p1, p2, p3, p4, p5, p6⟩, _⟩ := I3.hok e _ e3
 unfold setFlight
 refine wpAny_bind (wpAny_field p1 p4 p6 ?_)
 rw [if_pos (show (tbV (some h1.objs.size) != Value.none) = true from by simp [tbV])]
 obtain ⟨⟨o6, ts6, r1, r2, r3, r4⟩, _⟩ := I3.hok h1.objs.size _ t3
 have z3 : 3 < ts6.size := (Array.getElem?_eq_some_iff.mp r3).1
 refine wpAny_setField r1 r2 z3 ?_
 have I4 := Hb (u' := tbO h1.objs.size .none) (i := 3) (v := (none : Option Addr).elim Value.none fun f => rawInt f) I3 t3 trivial r1 r2 fun h' o' y1 y2 y3 y4 => TbP.ok ⟨o', _, y1, y4, by simp [z3], y2.trans r4⟩
 refine k h1.objs.size _ _ ⟨I4, ?_, Ae, hT, fun b u hb _ q => ?_⟩
 ·rw [Ad neT]; exact e3
 ·have := An q hT
  rw [Ad this, Ad hb, Ad this]
  exact q
theorem Xh {E : Value → Shared → Prop} {Q : Unit → Shared → Prop} {M : Model} {L : Addr} (hst : X.stack = X.env :: X.outer) (hf : X.env.frame = some L) (I : Inv X pins σ H s) (he : H e = some (excO e C od tb)) (ht : ∀ T, tb = some T → H T = some (tbO T .none))
  (k : ∀ T H' s', Noted X pins σ H e C od tb T H' s' → Q () s') :
  wpAny M X.A (noteFrame (.ref e) X.env) (fun _ s₂ => wpAny M X.A (setFlight (.ref e) none) Q E s₂) E s := by
 obtain ⟨⟨o, vs, q1, q2, q3, q4, q5, q6⟩, _⟩ := I.hok e _ he
 unfold noteFrame
 simp only [hf]
 refine wpAny_bind (wpAny_field q1 q4 q6 ?_)
 cases tb with
 | none =>
  rw [if_neg (by decide)]
  exact O2 hst hf I he fun T H' s' n => k T H' s' n
 | some T0 =>
  have hT0 := ht T0 rfl
  obtain ⟨⟨oT, ts, r1, r2, r3, r4⟩, _⟩ := I.hok T0 _ hT0
  rw [if_pos (show (tbV (some T0) != Value.none) = true from by simp [tbV])]
  refine wpAny_bind (wpAny_field r1 r2 r3 ?_)
  rw [if_neg (show ¬ ((Value.none == rawInt L) = true) from by simp [rawInt])]
  have z3 : 3 < ts.size := (Array.getElem?_eq_some_iff.mp r3).1
  refine wpAny_bind (wpAny_setField r1 r2 z3 ?_)
  have I1 := Hb (u' := tbO T0 .none) (i := 3) (v := .none) I hT0 trivial r1 r2 fun h' o' y1 y2 y3 y4 => TbP.ok ⟨o', _, y1, y4, by simp [z3], y2.trans r4⟩
  have ne : e ≠ T0 := fun z => by
   subst z
   rw [r1] at q1
   cases q1
   rw [r4] at q2
   cases q2
  refine O2 hst hf I1 (tb := some T0) (by rw [Ad ne]; exact he) fun T H' s' n => k T H' s' ⟨n.inv, n.exc, n.tbk, ?_, fun b u hb hb' q => n.rest b u hb (by simp) (by rw [Ad (fun z => hb' (by rw [z]))]; exact q)⟩
  have := n.new
  by_cases z : T = T0
  ·subst z; rw [Ae] at this; cases this
  ·rwa [Ad z] at this
end
end EX
namespace PV
open PySem L2
inductive D where
 | non | bl (b : Bool) | int (i : Int) | str (x : Str) | tup (ds : List D) | lst (ds : List D)
 | dk (kvs : List (Key × D)) | dt (kvs : List (List Key × D)) | ob (c : Str) (fs : List (Str × D)) | adr (a : Addr) | exc (c : Str) (fs : List (Str × D)) | err (c : Str) (fs : List (Str × D))
inductive Slot where
 | un | fz (d : D) | ow (d : D)
abbrev Rho := List Slot
abbrev FE := Rho → Option D
abbrev FA := Rho → Option (List D)
abbrev FT := Rho → Option Bool
abbrev FO := Rho → Option (Option Int)
abbrev FI := Rho → Option (List D)
def vF (i : Nat) : FE := fun ρ => match ρ[i]? with | some (.fz d) => some d | _ => none
def vU (i : Nat) : FE := fun ρ => match ρ[i]? with | some (.fz d) => some d | some (.ow d) => some d | _ => none
def kF (d : D) : FE := fun _ => some d
def bF (g : D → D → Option D) (fa fb : FE) : FE := fun ρ => (fa ρ).bind fun x => (fb ρ).bind fun y => g x y
def uF (g : D → Option D) (fa : FE) : FE := fun ρ => (fa ρ).bind g
def blF (f : FE) : FT := fun ρ => match f ρ with | some (.bl b) => some b | _ => none
def iiD (g : Int → Int → Option D) : D → D → Option D := fun x y => match x, y with | .int i, .int j => g i j | _, _ => none
instance (i j : Int) : Decidable (CMul i j) := by unfold CMul; infer_instance
instance (i j : Int) : Decidable (CDiv i j) := by unfold CDiv; infer_instance
instance (i j : Int) : Decidable (CPow i j) := by unfold CPow; infer_instance
def subD := iiD fun i j => some (.int (i - j))
def RD (i j : Int) : Prop := CMul i j ∨ (Builtin.Int.intBits i ≤ 4194304 ∧ Builtin.Int.intBits j ≤ 4194304)
instance (i j : Int) : Decidable (RD i j) := by unfold RD; infer_instance
def CShl (i j : Int) : Prop := 0 ≤ j ∧ j ≤ 1000000 ∧ Builtin.Int.intBits i ≤ 4194304
instance (i j : Int) : Decidable (CShl i j) := by unfold CShl; infer_instance
def Gy := iiD fun i j => if CDiv i j then some (.int (i / j)) else none
def modD := iiD fun i j => if 0 < j then some (.int (i % j)) else none
def ltD := iiD fun i j => some (.bl (decide (i < j)))
def leD := iiD fun i j => some (.bl (decide (i ≤ j)))
def gtD := iiD fun i j => some (.bl (decide (j < i)))
def geD := iiD fun i j => some (.bl (decide (j ≤ i)))
def addD : D → D → Option D := fun x y => match x, y with
 | .int i, .int j => some (.int (i + j))
 | .str i, .str j => if i.length + j.length ≤ sizeLine then some (.str (i ++ j)) else none
 | .lst i, .lst j => if i.length + j.length ≤ sizeLine then some (.lst (i ++ j)) else none
 | _, _ => none
def andF (fa fb : FE) : FE := fun ρ => match fa ρ with | some (.bl true) => fb ρ | some (.bl false) => some (.bl false) | _ => none
def orF (fa fb : FE) : FE := fun ρ => match fa ρ with | some (.bl true) => some (.bl true) | some (.bl false) => fb ρ | _ => none
def notF (fa : FE) : FE := fun ρ => match fa ρ with | some (.bl b) => some (.bl (!b)) | _ => none
def andT (fa fb : FT) : FT := fun ρ => match fa ρ with | some true => fb ρ | some false => some false | none => none
def orT (fa fb : FT) : FT := fun ρ => match fa ρ with | some true => some true | some false => fb ρ | none => none
def notT (fa : FT) : FT := fun ρ => (fa ρ).map (!·)
def truD : D → Option Bool
 | .non => some false
 | .bl b => some b
 | .int i => some (i != 0)
 | .str y => if y.length ≤ sizeLine then some ((y.length : Int) != 0) else none
 | .lst ds => some (!ds.isEmpty)
 | .tup ds => some (!ds.isEmpty)
 | _ => none
def trF (f : FE) : FT := fun ρ => (f ρ).bind truD
def ifF (t : FT) (fa fb : FE) : FE := fun ρ => match t ρ with | some true => fa ρ | some false => fb ρ | none => none
def nilA : FA := fun _ => some []
def Aa (fa : FE) (fs : FA) : FA := fun ρ => (fa ρ).bind fun d => (fs ρ).map (d :: ·)
def tupF (fs : FA) : FE := fun ρ => (fs ρ).bind fun ds => if ds.length ≤ sizeLine then some (.tup ds) else none
def lstF (fs : FA) : FE := fun ρ => (fs ρ).bind fun ds => if ds.length ≤ sizeLine then some (.lst ds) else none
def ixD : D → D → Option D := fun x y => match x, y with
 | .lst ds, .int i => atI ds i
 | .tup ds, .int i => atI ds i
 | .str z, .int i => if z.length ≤ sizeLine then (atI z.cps.toList i).map fun c => .str ⟨#[c]⟩ else none
 | _, _ => none
def noO : FO := fun _ => some none
def someO (f : FE) : FO := fun ρ => match f ρ with | some (.int i) => some (some i) | _ => none
def cutD {α : Type} (ds : List α) (lo hi : Option Int) : List α := (ds.drop (HT.sIx ds.length 0 lo)).take (HT.sIx ds.length ds.length hi - HT.sIx ds.length 0 lo)
def cutS (z : Str) (lo hi : Option Int) : Str := ⟨(cutD z.cps.toList lo hi).toArray⟩
def slD (x : D) (lo hi : Option Int) : Option D := match x with
 | .lst ds => some (.lst (cutD ds lo hi))
 | .tup ds => if HT.sIx ds.length 0 lo = 0 ∧ HT.sIx ds.length ds.length hi = ds.length then none else some (.tup (cutD ds lo hi))
 | .str z => if z.length ≤ sizeLine then some (.str (cutS z lo hi)) else none
 | _ => none
def slF (f : FE) (l h : FO) : FE := fun ρ => (f ρ).bind fun x => (l ρ).bind fun lo => (h ρ).bind fun hi => slD x lo hi
def flV : D → Option V
 | .non => some .non
 | .bl b => some (.bl b)
 | .int i => some (.int i)
 | .str x => some (.str x)
 | _ => none
def flVs : List D → Option (List V)
 | [] => some []
 | d :: r => (flV d).bind fun v => (flVs r).map (v :: ·)
def inD (neg : Bool) : D → D → Option D := fun x y => match x, y with
 | .str i, .str j => some (.bl (if neg then !(!(Builtin.Str.occurrences j i 0 j.length 1).isEmpty) else !(Builtin.Str.occurrences j i 0 j.length 1).isEmpty))
 | x, .lst ds => (flV x).bind fun v => (flVs ds).map fun vs => .bl (if neg then !inV v vs else inV v vs)
 | x, .tup ds => (flV x).bind fun v => (flVs ds).map fun vs => .bl (if neg then !inV v vs else inV v vs)
 | _, _ => none
def allO (f : D → D → Option Bool) : List D → List D → Option Bool
 | [], [] => some true
 | x :: xs, y :: ys => match f x y, allO f xs ys with | some a, some b => some (a && b) | _, _ => none
 | _, _ => none
def flD (x y : D) : Option Bool := (flV x).bind fun u => (flV y).map fun v => eqV u v
def eqS (f : D → D → Option Bool) : D → D → Option Bool
 | .lst xs, .lst ys => if xs.length = ys.length then allO f xs ys else some false
 | .tup xs, .tup ys => if xs.length = ys.length then allO f xs ys else none
 | x, y => flD x y
def eqK : Nat → D → D → Option Bool
 | 0 => flD
 | n + 1 => eqS (eqK n)
def eqvD (x y : D) : Option Bool := match x, y with
 | .int i, .int j => some (decide (i = j))
 | .str i, .str j => some (decide (i = j))
 | .bl i, .bl j => some (decide (i = j))
 | .lst xs, .lst ys => if xs.length = ys.length then allO (eqK 180) xs ys else some false
 | .tup xs, .tup ys => if xs.length = ys.length then allO (eqK 180) xs ys else none
 | _, _ => none
def eqD (neg : Bool) (x y : D) : Option D := (eqvD x y).map fun b => .bl (if neg then !b else b)
def lenD : D → Option D
 | .str y => if y.length ≤ sizeLine then some (.int y.length) else none
 | .lst ds => some (.int ds.length)
 | .tup ds => some (.int ds.length)
 | _ => none
def negD : D → Option D
 | .int i => some (.int (-i))
 | _ => none
def seqI (f : FE) : FI := fun ρ => match f ρ with | some (.lst ds) => some ds | some (.tup ds) => some ds | _ => none
def rngD (n : Nat) : List D := (List.range n).map fun (i : Nat) => .int i
def rngI (f : FE) : FI := fun ρ => match f ρ with | some (.int j) => if -(2 ^ 62) ≤ j ∧ j < 2 ^ 62 then some (rngD j.toNat) else none | _ => none
inductive Out where
 | nx (ρ : Rho) | rt (d : D) (ρ : Rho) | bk (ρ : Rho) | ct (ρ : Rho)
abbrev FS := Rho → Option Out
def nxF : FS := fun ρ => some (.nx ρ)
def seqF (g gs : FS) : FS := fun ρ => match g ρ with | some (.nx ρ') => gs ρ' | o => o
def ifS (t : FT) (g gs : FS) : FS := fun ρ => match t ρ with | some true => g ρ | some false => gs ρ | none => none
def setF (i : Nat) (f : FE) : FS := fun ρ => (f ρ).map fun d => .nx (ρ.set i (.fz d))
def retF (f : FE) : FS := fun ρ => (f ρ).map fun d => .rt d ρ
def retN : FS := fun ρ => some (.rt .non ρ)
def DX (f : FE) : FS := fun ρ => (f ρ).map fun _ => .nx ρ
def badF : FS := fun _ => none
def forF (b : D → FS) : List D → FS
 | [], ρ => some (.nx ρ)
 | d :: r, ρ => match b d ρ with
  | some (.nx ρ') => forF b r ρ'
  | some (.ct ρ') => forF b r ρ'
  | some (.bk ρ') => some (.nx ρ')
  | some (.rt e ρ') => some (.rt e ρ')
  | none => none
abbrev FG := D → Rho → Option Rho
def Dg (i : Nat) : FG := fun d ρ => some (ρ.set i (.fz d))
def tgB (tg : FG) (b : FS) : D → FS := fun d ρ => (tg d ρ).bind b
def forS (src : FI) (tg : FG) (b : FS) : FS := fun ρ => (src ρ).bind fun ds => forF (tgB tg b) ds ρ
def BR (g : List D → Option D) (fs : FA) : FE := fun ρ => (fs ρ).bind g
def CN (n : Nat) (ds : List D) : Rho := ds.map .fz ++ List.replicate (n - ds.length) .un
def runF (n np : Nat) (b : FS) (ds : List D) : Option D := if ds.length = np then (match b (CN n ds) with | some (.rt d _) => some d | some (.nx _) => some .non | _ => none) else none
def EY (ρ : Rho) (ga : FT) (fe : FE) : List D → Option (List D)
 | [] => some []
 | d :: r => match ga (ρ ++ [.fz d]) with
  | some true => (fe (ρ ++ [.fz d])).bind fun y => (EY ρ ga fe r).map (y :: ·)
  | some false => EY ρ ga fe r
  | none => none
def J8 (src : FI) (ga : FT) (fe : FE) : FE := fun ρ => (src ρ).bind fun ds => if ds.length ≤ sizeLine then (EY ρ ga fe ds).map .lst else none
def allT : FT := fun _ => some true
def Fj : List D → Option (List Str)
 | [] => some []
 | .str i :: r => (Fj r).map (i :: ·)
 | _ :: _ => none
def ltS (a b : Str) : Bool := decide (a.cps.toList < b.cps.toList)
def insS (x : Str) : List Str → List Str
 | [] => [x]
 | y :: r => if ltS x y then x :: y :: r else if x = y then y :: r else y :: insS x r
def Bv (xs : List Str) : List Str := xs.foldr insS []
def setW (i : Nat) (f : FE) : FS := fun ρ => (f ρ).map fun d => .nx (ρ.set i (.ow d))
def ownO (ρ : Rho) (i : Nat) : Option D := match ρ[i]? with | some (.ow d) => some d | _ => none
def mutF (g : D → D → Option D) (i : Nat) (f : FE) : FS := fun ρ => (f ρ).bind fun v => (ownO ρ i).bind fun x => (g x v).map fun y => .nx (ρ.set i (.ow y))
def frz1 (ρ : Rho) (i : Nat) : Rho := match ρ[i]? with | some (.ow d) => ρ.set i (.fz d) | _ => ρ
def fzS (is : List Nat) (g : FS) : FS := fun ρ => g (is.foldl frz1 ρ)
end PV
namespace PV
open PySem L2
theorem Z3 {α : Type} (l : List α) (k : Nat) : cutD l none (some (k : Int)) = l.take k := by
 unfold cutD HT.sIx
 simp
 rw [if_neg (by omega)]
 first | omega | (rw [List.take_eq_take_iff]; omega)
theorem Z4 {α : Type} {xs : List α} {i : Int} (h0 : 0 ≤ i) (h1 : i < xs.length) : atI xs i = xs[i.toNat]? := by
 unfold atI ixN; rw [if_pos h0, if_pos h1]; rfl
theorem MJ {α : Type} {xs : List α} (i n : Int) (hn : n = xs.length) (h : xs ≠ []) : ∃ x, x ∈ xs ∧ atI xs (i % n) = some x := by
 subst hn
 have hl : 0 < xs.length := List.length_pos_iff.mpr h
 have h0 : 0 ≤ i % (xs.length : Int) := Int.emod_nonneg _ (by omega)
 have h1 : i % (xs.length : Int) < xs.length := Int.emod_lt_of_pos _ (by omega)
 have hi : (i % (xs.length : Int)).toNat < xs.length := by omega
 exact ⟨xs[(i % (xs.length : Int)).toNat], List.getElem_mem hi, by rw [Z4 h0 h1]; simp [hi]⟩
theorem C_ (i j : Int) (h : 0 < j) : modD (.int i) (.int j) = some (.int (i % j)) := by
 show (if 0 < j then some (D.int (i % j)) else none) = _
 rw [if_pos h]
theorem B_ (i j : Int) (h : 0 < j) (h2 : j < 1073741824) : Gy (.int i) (.int j) = some (.int (i / j)) := by
 show (if CDiv i j then some (D.int (i / j)) else none) = _
 rw [if_pos ⟨h, h2⟩]
theorem Qc (i j : Int) : addD (.int i) (.int j) = some (.int (i + j)) := of_eq_true (eq_self _)
theorem Qd (i j : Int) : subD (.int i) (.int j) = some (.int (i - j)) := of_eq_true (eq_self _)
theorem U7 (i j : Int) : ltD (.int i) (.int j) = some (.bl (decide (i < j))) := of_eq_true (eq_self _)
theorem U8 (i j : Int) : gtD (.int i) (.int j) = some (.bl (decide (j < i))) := of_eq_true (eq_self _)
theorem U9 (i j : Int) : leD (.int i) (.int j) = some (.bl (decide (i ≤ j))) := of_eq_true (eq_self _)
theorem U_ (i j : Int) : geD (.int i) (.int j) = some (.bl (decide (j ≤ i))) := of_eq_true (eq_self _)
theorem O3 (i j : Int) : eqD false (.int i) (.int j) = some (.bl (decide (i = j))) := of_eq_true (eq_self _)
theorem VB (i j : Int) : eqD true (.int i) (.int j) = some (.bl (!decide (i = j))) := of_eq_true (eq_self _)
theorem VD (i : Int) : negD (.int i) = some (.int (-i)) := of_eq_true (eq_self _)
theorem CG {n : Nat} (h : n ≤ 10000000) : n ≤ sizeLine := Nat.le_trans h (by decide)
theorem Z5 {i j : List D} (h : i.length + j.length ≤ 10000000) : addD (.lst i) (.lst j) = some (.lst (i ++ j)) := by
 show (if _ then _ else _) = _
 rw [if_pos (CG h)]
theorem MK {i j : Str} (h : i.length + j.length ≤ 10000000) : addD (.str i) (.str j) = some (.str (i ++ j)) := by
 show (if _ then _ else _) = _
 rw [if_pos (CG h)]
theorem O4 {b : D → FS} {P : Nat → Rho → Prop} : ∀ {ds : List D} {ρ : Rho} (k : Nat), P k ρ → (∀ (i : Nat) d ρ, ds[i]? = some d → P (k + i) ρ → ∃ ρ', b d ρ = some (.nx ρ') ∧ P (k + i + 1) ρ') → ∃ ρ', forF b ds ρ = some (.nx ρ') ∧ P (k + ds.length) ρ'
 | [], ρ, k, h0, _ => ⟨ρ, rfl, by simpa using h0⟩
 | d :: r, ρ, k, h0, hs => by
  obtain ⟨ρ1, e1, p1⟩ := hs 0 d ρ rfl (by simpa using h0)
  obtain ⟨ρ2, e2, p2⟩ := O4 (ds := r) (ρ := ρ1) (k + 1) (by simpa using p1) fun i d' ρ' hd hp => by
   have := hs (i + 1) d' ρ' (by simpa using hd) (by rw [show k + (i + 1) = k + 1 + i by omega]; exact hp)
   rw [show k + (i + 1) + 1 = k + 1 + i + 1 by omega] at this
   exact this
  refine ⟨ρ2, ?_, by rw [List.length_cons, show k + (r.length + 1) = k + 1 + r.length by omega]; exact p2⟩
  unfold forF
  rw [e1]
  exact e2
theorem Xi {src : FI} {ga : FT} {fe : FE} {ρ : Rho} {ds out : List D} (h : src ρ = some ds) (hz : ds.length ≤ 10000000) (hc : EY ρ ga fe ds = some out) : J8 src ga fe ρ = some (.lst out) := by
 unfold J8; rw [h]
 show (if ds.length ≤ sizeLine then (EY ρ ga fe ds).map D.lst else none) = _
 rw [if_pos (CG hz), hc]
 rfl
def O5 (o : Option Out) (gs : FS) : Option Out := match o with | some (.nx ρ') => gs ρ' | o => o
theorem RG (g gs : FS) (ρ : Rho) : seqF g gs ρ = O5 (g ρ) gs := of_eq_true (eq_self _)
theorem e_nx (gs : FS) (ρ : Rho) : O5 (some (.nx ρ)) gs = gs ρ := of_eq_true (eq_self _)
theorem e_rt (gs : FS) (d : D) (ρ : Rho) : O5 (some (.rt d ρ)) gs = some (.rt d ρ) := of_eq_true (eq_self _)
theorem e_bk (gs : FS) (d : Rho) : O5 (some (.bk d)) gs = some (.bk d) := of_eq_true (eq_self _)
theorem e_ct (gs : FS) (d : Rho) : O5 (some (.ct d)) gs = some (.ct d) := of_eq_true (eq_self _)
theorem RJ (ρ : Rho) : nxF ρ = some (.nx ρ) := of_eq_true (eq_self _)
def iteO (o : Option Bool) (g gs : FS) (ρ : Rho) : Option Out := match o with | some true => g ρ | some false => gs ρ | none => none
theorem e_if (t : FT) (g gs : FS) (ρ : Rho) : ifS t g gs ρ = iteO (t ρ) g gs ρ := of_eq_true (eq_self _)
theorem RK (g gs : FS) (ρ : Rho) : iteO (some true) g gs ρ = g ρ := of_eq_true (eq_self _)
theorem RL (g gs : FS) (ρ : Rho) : iteO (some false) g gs ρ = gs ρ := of_eq_true (eq_self _)
def setO (i : Nat) (ρ : Rho) (o : Option D) : Option Out := o.map fun d => .nx (ρ.set i (.fz d))
theorem RM (i : Nat) (f : FE) (ρ : Rho) : setF i f ρ = setO i ρ (f ρ) := of_eq_true (eq_self _)
theorem MN (i : Nat) (ρ : Rho) (d : D) : setO i ρ (some d) = some (.nx (ρ.set i (.fz d))) := of_eq_true (eq_self _)
def retO (ρ : Rho) (o : Option D) : Option Out := o.map fun d => .rt d ρ
theorem RN (f : FE) (ρ : Rho) : retF f ρ = retO ρ (f ρ) := of_eq_true (eq_self _)
theorem MP (d : D) (ρ : Rho) : retO ρ (some d) = some (.rt d ρ) := of_eq_true (eq_self _)
theorem MT (ρ : Rho) : retN ρ = some (.rt .non ρ) := of_eq_true (eq_self _)
def Yx (ρ : Rho) (o : Option D) : Option Out := o.map fun _ => .nx ρ
theorem Ma (f : FE) (ρ : Rho) : DX f ρ = Yx ρ (f ρ) := of_eq_true (eq_self _)
theorem Jc (ρ : Rho) (d : D) : Yx ρ (some d) = some (.nx ρ) := of_eq_true (eq_self _)
def b2 (g : D → D → Option D) (x y : Option D) : Option D := x.bind fun x => y.bind fun y => g x y
theorem e_b (g : D → D → Option D) (fa fb : FE) (ρ : Rho) : bF g fa fb ρ = b2 g (fa ρ) (fb ρ) := of_eq_true (eq_self _)
theorem e_bs (g : D → D → Option D) (x y : D) : b2 g (some x) (some y) = g x y := of_eq_true (eq_self _)
def b1 (g : D → Option D) (x : Option D) : Option D := x.bind g
theorem e_u (g : D → Option D) (fa : FE) (ρ : Rho) : uF g fa ρ = b1 g (fa ρ) := of_eq_true (eq_self _)
theorem e_us (g : D → Option D) (x : D) : b1 g (some x) = g x := of_eq_true (eq_self _)
def cl1 (g : List D → Option D) (x : Option (List D)) : Option D := x.bind g
theorem Mf (g : List D → Option D) (fs : FA) (ρ : Rho) : BR g fs ρ = cl1 g (fs ρ) := of_eq_true (eq_self _)
theorem Jd (g : List D → Option D) (ds : List D) : cl1 g (some ds) = g ds := of_eq_true (eq_self _)
def Yy (x : Option D) (y : Option (List D)) : Option (List D) := x.bind fun d => y.map (d :: ·)
theorem Mg (fa : FE) (fs : FA) (ρ : Rho) : Aa fa fs ρ = Yy (fa ρ) (fs ρ) := of_eq_true (eq_self _)
theorem Je (d : D) (ds : List D) : Yy (some d) (some ds) = some (d :: ds) := of_eq_true (eq_self _)
theorem RP (ρ : Rho) : nilA ρ = some [] := of_eq_true (eq_self _)
def tupO (o : Option (List D)) : Option D := o.bind fun ds => if ds.length ≤ sizeLine then some (.tup ds) else none
def lstO (o : Option (List D)) : Option D := o.bind fun ds => if ds.length ≤ sizeLine then some (.lst ds) else none
theorem RQ (fs : FA) (ρ : Rho) : tupF fs ρ = tupO (fs ρ) := of_eq_true (eq_self _)
theorem RT (fs : FA) (ρ : Rho) : lstF fs ρ = lstO (fs ρ) := of_eq_true (eq_self _)
theorem Mh : tupO (some []) = some (.tup []) := of_eq_true (eq_self _)
theorem Mi (a : D) : tupO (some [a]) = some (.tup [a]) := of_eq_true (eq_self _)
theorem Mj (a b : D) : tupO (some [a, b]) = some (.tup [a, b]) := of_eq_true (eq_self _)
theorem Ml (a b c : D) : tupO (some [a, b, c]) = some (.tup [a, b, c]) := of_eq_true (eq_self _)
theorem Mm (a b c d : D) : tupO (some [a, b, c, d]) = some (.tup [a, b, c, d]) := of_eq_true (eq_self _)
theorem Mp (a b c d e : D) : tupO (some [a, b, c, d, e]) = some (.tup [a, b, c, d, e]) := of_eq_true (eq_self _)
theorem Mq : lstO (some []) = some (.lst []) := of_eq_true (eq_self _)
theorem Mr (a : D) : lstO (some [a]) = some (.lst [a]) := of_eq_true (eq_self _)
theorem Ms (a b : D) : lstO (some [a, b]) = some (.lst [a, b]) := of_eq_true (eq_self _)
theorem Mt (a b c : D) : lstO (some [a, b, c]) = some (.lst [a, b, c]) := of_eq_true (eq_self _)
theorem Mu (a b c d : D) : lstO (some [a, b, c, d]) = some (.lst [a, b, c, d]) := of_eq_true (eq_self _)
theorem Mv (a b c d e : D) : lstO (some [a, b, c, d, e]) = some (.lst [a, b, c, d, e]) := of_eq_true (eq_self _)
theorem Mw (a b c d e f : D) : lstO (some [a, b, c, d, e, f]) = some (.lst [a, b, c, d, e, f]) := of_eq_true (eq_self _)
def blO (o : Option D) : Option Bool := match o with | some (.bl b) => some b | _ => none
theorem e_bl (f : FE) (ρ : Rho) : blF f ρ = blO (f ρ) := of_eq_true (eq_self _)
theorem RV (b : Bool) : blO (some (.bl b)) = some b := of_eq_true (eq_self _)
def andO (o : Option Bool) (fb : FT) (ρ : Rho) : Option Bool := match o with | some true => fb ρ | some false => some false | none => none
def orO (o : Option Bool) (fb : FT) (ρ : Rho) : Option Bool := match o with | some true => some true | some false => fb ρ | none => none
theorem My (a b : FT) (ρ : Rho) : andT a b ρ = andO (a ρ) b ρ := of_eq_true (eq_self _)
theorem Jf (b : FT) (ρ : Rho) : andO (some true) b ρ = b ρ := of_eq_true (eq_self _)
theorem Jg (b : FT) (ρ : Rho) : andO (some false) b ρ = some false := of_eq_true (eq_self _)
theorem RX (a b : FT) (ρ : Rho) : orT a b ρ = orO (a ρ) b ρ := of_eq_true (eq_self _)
theorem Mz (b : FT) (ρ : Rho) : orO (some true) b ρ = some true := of_eq_true (eq_self _)
theorem M3 (b : FT) (ρ : Rho) : orO (some false) b ρ = b ρ := of_eq_true (eq_self _)
theorem M4 (a : FT) (ρ : Rho) : notT a ρ = (a ρ).map (!·) := of_eq_true (eq_self _)
def andP (o : Option D) (fb : FE) (ρ : Rho) : Option D := match o with | some (.bl true) => fb ρ | some (.bl false) => some (.bl false) | _ => none
def orP (o : Option D) (fb : FE) (ρ : Rho) : Option D := match o with | some (.bl true) => some (.bl true) | some (.bl false) => fb ρ | _ => none
def notP (o : Option D) : Option D := match o with | some (.bl b) => some (.bl (!b)) | _ => none
theorem M5 (a b : FE) (ρ : Rho) : andF a b ρ = andP (a ρ) b ρ := of_eq_true (eq_self _)
theorem Jh (b : FE) (ρ : Rho) : andP (some (.bl true)) b ρ = b ρ := of_eq_true (eq_self _)
theorem Ji (b : FE) (ρ : Rho) : andP (some (.bl false)) b ρ = some (.bl false) := of_eq_true (eq_self _)
theorem RZ (a b : FE) (ρ : Rho) : orF a b ρ = orP (a ρ) b ρ := of_eq_true (eq_self _)
theorem M6 (b : FE) (ρ : Rho) : orP (some (.bl true)) b ρ = some (.bl true) := of_eq_true (eq_self _)
theorem M7 (b : FE) (ρ : Rho) : orP (some (.bl false)) b ρ = b ρ := of_eq_true (eq_self _)
theorem M8 (a : FE) (ρ : Rho) : notF a ρ = notP (a ρ) := of_eq_true (eq_self _)
theorem Jj (b : Bool) : notP (some (.bl b)) = some (.bl (!b)) := of_eq_true (eq_self _)
def ifP (o : Option Bool) (fa fb : FE) (ρ : Rho) : Option D := match o with | some true => fa ρ | some false => fb ρ | none => none
theorem Ra (t : FT) (a b : FE) (ρ : Rho) : ifF t a b ρ = ifP (t ρ) a b ρ := of_eq_true (eq_self _)
theorem M9 (a b : FE) (ρ : Rho) : ifP (some true) a b ρ = a ρ := of_eq_true (eq_self _)
theorem M_ (a b : FE) (ρ : Rho) : ifP (some false) a b ρ = b ρ := of_eq_true (eq_self _)
def sl3 (f : Option D) (l h : Option (Option Int)) : Option D := f.bind fun x => l.bind fun lo => h.bind fun hi => slD x lo hi
theorem e_sl (f : FE) (l h : FO) (ρ : Rho) : slF f l h ρ = sl3 (f ρ) (l ρ) (h ρ) := of_eq_true (eq_self _)
theorem Rb (x : D) (l h : Option Int) : sl3 (some x) (some l) (some h) = slD x l h := of_eq_true (eq_self _)
theorem Rc (ρ : Rho) : noO ρ = some none := of_eq_true (eq_self _)
def somO (o : Option D) : Option (Option Int) := match o with | some (.int i) => some (some i) | _ => none
theorem Jk (f : FE) (ρ : Rho) : someO f ρ = somO (f ρ) := of_eq_true (eq_self _)
theorem Hd (i : Int) : somO (some (.int i)) = some (some i) := of_eq_true (eq_self _)
def getO (o : Option Slot) : Option D := match o with | some (.fz d) => some d | _ => none
def getU (o : Option Slot) : Option D := match o with | some (.fz d) => some d | some (.ow d) => some d | _ => none
theorem e_v (i : Nat) (ρ : Rho) : vF i ρ = getO (ρ[i]?) := of_eq_true (eq_self _)
theorem e_vs (d : D) : getO (some (.fz d)) = some d := of_eq_true (eq_self _)
theorem e_vU (i : Nat) (ρ : Rho) : vU i ρ = getU (ρ[i]?) := of_eq_true (eq_self _)
theorem Rf (d : D) : getU (some (.fz d)) = some d := of_eq_true (eq_self _)
theorem Rg (d : D) : getU (some (.ow d)) = some d := of_eq_true (eq_self _)
theorem e_k (d : D) (ρ : Rho) : kF d ρ = some d := of_eq_true (eq_self _)
def seqO (o : Option D) : Option (List D) := match o with | some (.lst ds) => some ds | some (.tup ds) => some ds | _ => none
theorem NB (f : FE) (ρ : Rho) : seqI f ρ = seqO (f ρ) := of_eq_true (eq_self _)
theorem Jl (ds : List D) : seqO (some (.lst ds)) = some ds := of_eq_true (eq_self _)
theorem Jm (ds : List D) : seqO (some (.tup ds)) = some ds := of_eq_true (eq_self _)
def rngO (o : Option D) : Option (List D) := match o with | some (.int j) => if -(2 ^ 62) ≤ j ∧ j < 2 ^ 62 then some (rngD j.toNat) else none | _ => none
theorem NK (f : FE) (ρ : Rho) : rngI f ρ = rngO (f ρ) := of_eq_true (eq_self _)
theorem Z6 (j : Int) (h : -(2 ^ 62) ≤ j ∧ j < 2 ^ 62) : rngO (some (.int j)) = some (rngD j.toNat) := by
 show (if _ then _ else _) = _
 rw [if_pos h]
def forO (o : Option (List D)) (tg : FG) (b : FS) (ρ : Rho) : Option Out := o.bind fun ds => forF (tgB tg b) ds ρ
theorem Rh (src : FI) (tg : FG) (b : FS) (ρ : Rho) : forS src tg b ρ = forO (src ρ) tg b ρ := of_eq_true (eq_self _)
theorem NP (ds : List D) (tg : FG) (b : FS) (ρ : Rho) : forO (some ds) tg b ρ = forF (tgB tg b) ds ρ := of_eq_true (eq_self _)
def ccO (o : Option Bool) (e : Option D) (r : Option (List D)) : Option (List D) := match o with | some true => e.bind fun y => r.map (y :: ·) | some false => r | none => none
theorem Qe (ρ : Rho) (ga : FT) (fe : FE) (d : D) (r : List D) : EY ρ ga fe (d :: r) = ccO (ga (ρ ++ [.fz d])) (fe (ρ ++ [.fz d])) (EY ρ ga fe r) := of_eq_true (eq_self _)
theorem O6 (ρ : Rho) : allT ρ = some true := of_eq_true (eq_self _)
def runO (o : Option Out) : Option D := match o with | some (.rt d _) => some d | some (.nx _) => some .non | _ => none
theorem Ri {n np : Nat} {b : FS} {ds : List D} (h : ds.length = np) : runF n np b ds = runO (b (CN n ds)) := by
 unfold runF; rw [if_pos h]; rfl
theorem NQ (d : D) (ρ : Rho) : runO (some (.rt d ρ)) = some d := of_eq_true (eq_self _)
theorem NT (ρ : Rho) : runO (some (.nx ρ)) = some .non := of_eq_true (eq_self _)
theorem Rj {α β : Type} (f : α → β) (x : α) : Option.map f (some x) = some (f x) := of_eq_true (eq_self _)
theorem NZ {α β : Type} (f : α → Option β) (x : α) : Option.bind (some x) f = f x := of_eq_true (eq_self _)
theorem Hg (n : Nat) (ds : List D) : CN n ds = ds.map .fz ++ List.replicate (n - ds.length) .un := of_eq_true (eq_self _)
theorem truB (b : Bool) : truD (.bl b) = some b := of_eq_true (eq_self _)
theorem G_ {α : Type} (l : List α) (k : Nat) : atI l (k : Int) = l[k]? := by
 unfold atI ixN
 rw [if_pos (by omega)]
 by_cases h : k < l.length
 ·rw [if_pos (by omega)]
  simp
 ·rw [if_neg (by omega), List.getElem?_eq_none (by omega)]
  rfl
theorem ix0 (x : D) (r : List D) : ixD (.lst (x :: r)) (.int 0) = some x := G_ _ 0
theorem ix1 (x y : D) (r : List D) : ixD (.lst (x :: y :: r)) (.int 1) = some y := G_ _ 1
theorem ix2 (x y z : D) (r : List D) : ixD (.lst (x :: y :: z :: r)) (.int 2) = some z := G_ _ 2
theorem ixt0 (x : D) (r : List D) : ixD (.tup (x :: r)) (.int 0) = some x := G_ _ 0
theorem ixt1 (x y : D) (r : List D) : ixD (.tup (x :: y :: r)) (.int 1) = some y := G_ _ 1
theorem ixt2 (x y z : D) (r : List D) : ixD (.tup (x :: y :: z :: r)) (.int 2) = some z := G_ _ 2
theorem ixt3 (x y z w : D) (r : List D) : ixD (.tup (x :: y :: z :: w :: r)) (.int 3) = some w := G_ _ 3
theorem e_tr (f : FE) (ρ : Rho) : trF f ρ = (f ρ).bind truD := of_eq_true (eq_self _)
theorem Rk (z : Str) (n j : Int) (hn : n = z.length) (h0 : 0 < z.length) (h1 : z.length ≤ 10000000) : ∃ c, c ∈ z.cps.toList ∧ ixD (.str z) (.int (j % n)) = some (.str ⟨#[c]⟩) := by
 obtain ⟨c, hc, e⟩ := MJ (xs := z.cps.toList) j n (by simpa [Str.length] using hn) (fun q => by
  have e : z.cps.toList.length = 0 := by rw [q]; rfl
  have e2 : z.length = z.cps.toList.length := by simp [Str.length]
  omega)
 refine ⟨c, hc, ?_⟩
 have : ixD (.str z) (.int (j % n)) = if z.length ≤ sizeLine then (atI z.cps.toList (j % n)).map (fun c => D.str ⟨#[c]⟩) else none := rfl
 rw [this, if_pos (CG h1), e]
 rfl
theorem CZ (x y : Str) : (x ++ y).length = x.length + y.length := by
 show (x.cps ++ y.cps).size = _
 simp [Str.length]
theorem sl_s (z : Str) (lo hi : Option Int) (h : z.length ≤ 10000000) : slD (.str z) lo hi = some (.str (cutS z lo hi)) := by
 show (if z.length ≤ sizeLine then some (D.str (cutS z lo hi)) else none) = _
 rw [if_pos (CG h)]
theorem cJ (z : Str) (h : z.length ≤ 10000000) : lenD (.str z) = some (.int z.length) := by
 show (if z.length ≤ sizeLine then some (D.int z.length) else none) = _
 rw [if_pos (CG h)]
theorem Rm (x : Str) (ys : List Str) : inD false (.str x) (.lst (ys.map .str)) = some (.bl (ys.any (fun y => y == x))) := by
 have h : ∀ ys : List Str, flVs (ys.map .str) = some (ys.map V.str) := fun ys => by
  induction ys with
  | nil => rfl
  | cons y r ih => simp [flVs, flV, ih]
 show ((flV (.str x)).bind fun v => (flVs (ys.map .str)).map fun vs => D.bl (inV v vs)) = _
 rw [h]
 show some (D.bl (inV (.str x) (ys.map V.str))) = _
 simp [inV, List.any_map, Function.comp_def, eqV]
theorem O7 (n : Nat) : (rngD n).length = n := by simp [rngD]
theorem K8 (ys : List Str) : Fj (ys.map .str) = some ys := by
 induction ys with
 | nil => rfl
 | cons y r ih => simp [Fj, ih]
def Yz (i : Nat) (ρ : Rho) (o : Option D) : Option Out := o.map fun d => .nx (ρ.set i (.ow d))
theorem Fy (i : Nat) (f : FE) (ρ : Rho) : setW i f ρ = Yz i ρ (f ρ) := of_eq_true (eq_self _)
theorem Ea (i : Nat) (ρ : Rho) (d : D) : Yz i ρ (some d) = some (.nx (ρ.set i (.ow d))) := of_eq_true (eq_self _)
def mutO (g : D → D → Option D) (i : Nat) (ρ : Rho) (x v : Option D) : Option Out := v.bind fun v => x.bind fun x => (g x v).map fun y => .nx (ρ.set i (.ow y))
def getW (o : Option Slot) : Option D := match o with | some (.ow d) => some d | _ => none
theorem Rn (g : D → D → Option D) (i : Nat) (f : FE) (ρ : Rho) : mutF g i f ρ = mutO g i ρ (getW ρ[i]?) (f ρ) := of_eq_true (eq_self _)
theorem Nb (g : D → D → Option D) (i : Nat) (ρ : Rho) (x v : D) : mutO g i ρ (some x) (some v) = (g x v).map fun y => .nx (ρ.set i (.ow y)) := of_eq_true (eq_self _)
theorem J9 (d : D) : getW (some (.ow d)) = some d := of_eq_true (eq_self _)
def forB (o : Option Out) (b : D → FS) (r : List D) : Option Out := match o with
  | some (.nx ρ') => forF b r ρ'
  | some (.ct ρ') => forF b r ρ'
  | some (.bk ρ') => some (.nx ρ')
  | some (.rt e ρ') => some (.rt e ρ')
  | none => none
theorem Hh (b : D → FS) (ρ : Rho) : forF b [] ρ = some (.nx ρ) := of_eq_true (eq_self _)
theorem Bs (b : D → FS) (d : D) (r : List D) (ρ : Rho) : forF b (d :: r) ρ = forB (b d ρ) b r := of_eq_true (eq_self _)
theorem Dj (b : D → FS) (r : List D) (ρ : Rho) : forB (some (.nx ρ)) b r = forF b r ρ := of_eq_true (eq_self _)
theorem Jo (b : D → FS) (r : List D) (ρ : Rho) : forB (some (.ct ρ)) b r = forF b r ρ := of_eq_true (eq_self _)
theorem Jp (b : D → FS) (r : List D) (ρ : Rho) : forB (some (.bk ρ)) b r = some (.nx ρ) := of_eq_true (eq_self _)
theorem Hi (b : D → FS) (r : List D) (d : D) (ρ : Rho) : forB (some (.rt d ρ)) b r = some (.rt d ρ) := of_eq_true (eq_self _)
def bndO (o : Option Rho) (b : FS) : Option Out := o.bind b
theorem e_tg (tg : FG) (b : FS) (d : D) (ρ : Rho) : tgB tg b d ρ = bndO (tg d ρ) b := of_eq_true (eq_self _)
theorem Gz (ρ : Rho) (b : FS) : bndO (some ρ) b = b ρ := of_eq_true (eq_self _)
theorem E_ (i : Nat) (d : D) (ρ : Rho) : Dg i d ρ = some (ρ.set i (.fz d)) := of_eq_true (eq_self _)
end PV
namespace PV
open PySem L2
theorem FJ (a : Str) : ltS a a = false := by
 unfold ltS
 exact decide_eq_false (List.lt_irrefl _)
theorem IW {a b c : Str} (h1 : ltS a b = true) (h2 : ltS b c = true) : ltS a c = true := by
 unfold ltS at *
 exact decide_eq_true (List.lt_trans (of_decide_eq_true h1) (of_decide_eq_true h2))
theorem Ro {a b : Str} (h1 : ltS a b = false) (h2 : a ≠ b) : ltS b a = true := by
 unfold ltS at *
 have h1' := of_decide_eq_false h1
 have h3 : b.cps.toList ≤ a.cps.toList := List.not_lt.mp h1'
 rcases Decidable.em (b.cps.toList < a.cps.toList) with h | h
 ·exact decide_eq_true h
 ·exfalso
  have h4 : a.cps.toList ≤ b.cps.toList := List.not_lt.mp h
  have e : a.cps.toList = b.cps.toList := List.le_antisymm h4 h3
  apply h2
  cases a; cases b
  simp at e
  rw [e]
def Up (l : List Str) : Prop := l.Pairwise fun a b => ltS a b = true
theorem J_ (x y : Str) : ∀ l : List Str, y ∈ insS x l ↔ y = x ∨ y ∈ l
 | [] => by simp [insS]
 | z :: r => by
  unfold insS
  split
  ·simp
  ·split
   ·rename_i _ e; subst e; simp
   ·simp [J_ x y r]
    constructor
    ·rintro (h | h | h)
     ·exact .inr (.inl h)
     ·exact .inl h
     ·exact .inr (.inr h)
    ·rintro (h | h | h)
     ·exact .inr (.inl h)
     ·exact .inl h
     ·exact .inr (.inr h)
theorem Rp (x : Str) : ∀ {l : List Str}, Up l → Up (insS x l)
 | [], _ => by simp [insS, Up]
 | z :: r, h => by
  obtain ⟨h1, h2⟩ := List.pairwise_cons.mp h
  unfold insS
  split
  ·rename_i hlt
   exact List.pairwise_cons.mpr ⟨fun y hy => by
    rcases List.mem_cons.mp hy with rfl | hy
    ·exact hlt
    ·exact IW hlt (h1 y hy), h⟩
  ·rename_i hn
   split
   ·exact h
   ·rename_i hne
    refine List.pairwise_cons.mpr ⟨fun y hy => ?_, Rp x h2⟩
    rcases (J_ x y r).mp hy with rfl | hy
    ·exact Ro (by simpa using hn) hne
    ·exact h1 y hy
theorem KC (l : List Str) : Up (Bv l) := by
 unfold Bv
 induction l with
 | nil => exact List.Pairwise.nil
 | cons x r ih => exact Rp x ih
theorem Ib (y : Str) (l : List Str) : y ∈ Bv l ↔ y ∈ l := by
 unfold Bv
 induction l with
 | nil => simp
 | cons x r ih => rw [List.foldr_cons, J_, ih]; simp
theorem O8 {l : List Str} (h : Up l) : l.Nodup := h.imp fun {a b} hab e => by
 subst e; rw [FJ] at hab; cases hab
theorem sub_len : ∀ {l m : List Str}, l.Nodup → (∀ x ∈ l, x ∈ m) → l.length ≤ m.length
 | [], _, _, _ => Nat.zero_le _
 | x :: r, m, h, hs => by
  obtain ⟨h1, h2⟩ := List.nodup_cons.mp h
  have hx : x ∈ m := hs x List.mem_cons_self
  have := sub_len (l := r) (m := m.erase x) h2 fun y hy => (List.mem_erase_of_ne (fun e => by subst e; exact h1 hy)).mpr (hs y (List.mem_cons_of_mem _ hy))
  rw [List.length_erase_of_mem hx] at this
  have hp : 0 < m.length := List.length_pos_of_mem hx
  simp; omega
theorem VG : ∀ {l m : List Str}, Up l → Up m → (∀ x, x ∈ l ↔ x ∈ m) → l = m
 | [], [], _, _, _ => rfl
 | [], y :: s, _, _, h => by have := (h y).mpr List.mem_cons_self; simp at this
 | x :: r, [], _, _, h => by have := (h x).mp List.mem_cons_self; simp at this
 | x :: r, y :: s, h1, h2, h => by
  obtain ⟨a1, a2⟩ := List.pairwise_cons.mp h1
  obtain ⟨b1, b2⟩ := List.pairwise_cons.mp h2
  have e : x = y := by
   rcases List.mem_cons.mp ((h x).mp List.mem_cons_self) with e | hx
   ·exact e
   ·rcases List.mem_cons.mp ((h y).mpr List.mem_cons_self) with e | hy
    ·exact e.symm
    ·have := IW (a1 y hy) (b1 x hx)
     rw [FJ] at this; cases this
  subst e
  have : r = s := VG a2 b2 fun z => by
   constructor
   ·intro hz
    rcases List.mem_cons.mp ((h z).mp (List.mem_cons_of_mem _ hz)) with e | q
    ·subst e; have := a1 z hz; rw [FJ] at this; cases this
    ·exact q
   ·intro hz
    rcases List.mem_cons.mp ((h z).mpr (List.mem_cons_of_mem _ hz)) with e | q
    ·subst e; have := b1 z hz; rw [FJ] at this; cases this
    ·exact q
  rw [this]
end PV
namespace PV
open PySem L2
abbrev FZ := Rho → Option (D × Rho)
abbrev FZA := Rho → Option (List D × Rho)
end PV
namespace L2
open PySem PySem.Spec PyProof.Rows
def clOf (cells : List (Str × Addr)) : List (Str × NameKind) → List (Str × Addr) → List (Str × Addr)
 | [], cs => cs
 | y :: r, cs => if y.2 == .free then clOf cells r ((y.1, (cells.lookup y.1).getD 0) :: cs) else clOf cells r cs
theorem KD {cells : List (Str × Addr)} {x : Str} {c : Addr} : ∀ {names : List (Str × NameKind)} {cs : List (Str × Addr)}, (∀ y ∈ names, y.2 = .free → ∃ c, cells.lookup y.1 = some c) →
  (clOf cells names cs).lookup x = some c → cs.lookup x = some c ∨ cells.lookup x = some c
 | [], _, _, h => .inl h
 | y :: r, cs, hf, h => by
  unfold clOf at h
  split at h
  ·rename_i hk
   have hk' : y.2 = .free := by simpa using hk
   obtain ⟨c', hc⟩ := hf y List.mem_cons_self hk'
   rcases KD (fun z hz => hf z (List.mem_cons_of_mem _ hz)) h with q | q
   ·rw [List.lookup_cons] at q
    split at q
    ·rename_i e
     have e' : x = y.1 := by simpa using e
     rw [hc] at q
     subst e'
     right
     rw [hc]; simpa using q
    ·exact .inl q
   ·exact .inr q
  ·exact KD (fun z hz => hf z (List.mem_cons_of_mem _ hz)) h
theorem Ie {cells : List (Str × Addr)} {x : Str} : ∀ {names : List (Str × NameKind)} {cs : List (Str × Addr)}, (∃ c, cs.lookup x = some c) → ∃ c, (clOf cells names cs).lookup x = some c
 | [], _, h => h
 | y :: r, cs, h => by
  unfold clOf
  split
  ·apply Ie
   rw [List.lookup_cons]
   split
   ·exact ⟨_, rfl⟩
   ·exact h
  ·exact Ie h
theorem Fz {cells : List (Str × Addr)} {x : Str} : ∀ {names : List (Str × NameKind)} {cs : List (Str × Addr)}, (x, NameKind.free) ∈ names → ∃ c, (clOf cells names cs).lookup x = some c
 | [], _, h => by cases h
 | y :: r, cs, h => by
  unfold clOf
  rcases List.mem_cons.mp h with e | h
  ·subst e
   rw [if_pos (by rfl)]
   apply Ie
   rw [List.lookup_cons]
   simp
  ·split
   ·exact Fz h
   ·exact Fz h
theorem Rq {env : Env} : ∀ (names : List (Str × NameKind)) (cs : List (Str × Addr)), (∀ y ∈ names, y.2 = .free → ∃ c, env.cells.lookup y.1 = some c) →
  (forIn names cs (fun x r => match x with
   | (name, kind) => if (kind == NameKind.free) = true then do let a ← cellOf env name; pure (ForInStep.yield ((name, a) :: r)) else pure (ForInStep.yield r)) : Sem (List (Str × Addr))) = pure (clOf env.cells names cs)
 | [], _, _ => rfl
 | (n, k) :: r, cs, hf => by
  have ih := fun cs => Rq r cs (fun z hz => hf z (List.mem_cons_of_mem _ hz))
  rw [List.forIn_cons]
  by_cases hk : (k == NameKind.free) = true
  ·obtain ⟨c, hc⟩ := hf (n, k) List.mem_cons_self (by simpa using hk)
   have hc' : env.cells.lookup n = some c := hc
   have e : cellOf env n = pure c := by unfold cellOf; rw [hc']
   simp only [hk, if_true, e]
   show (forIn r ((n, c) :: cs) _ : Sem _) = _
   rw [ih]
   conv => rhs; unfold clOf
   simp only [hk, if_true, hc', Option.getD_some]
  ·simp only [hk, if_false]
   show (forIn r cs _ : Sem _) = _
   rw [ih]
   conv => rhs; unfold clOf
   simp only [hk, if_false]
   rfl
theorem Ks {scope : Scope} {env : Env} (hf : ∀ y ∈ scope.names, y.2 = .free → ∃ c, env.cells.lookup y.1 = some c) : closureFor scope env = pure (clOf env.cells scope.names []) := by
 have h := Rq (env := env) scope.names [] hf
 unfold closureFor
 show ((forIn scope.names [] _ : Sem _) >>= fun r => pure r) = _
 exact (congrArg (fun m => m >>= fun r => pure r) h)
theorem Cq {env : Env} {x : Str} {k : NameKind} : ∀ {names : List (Str × NameKind)}, (names.map fun (n, k) => if (k == NameKind.free && env.scope.kind == .function && env.kindOf n == some .cell) then (n, NameKind.cell) else (n, k)).lookup x = some k →
  ∃ k', (x, k') ∈ names ∧ (k' = k ∨ (k' = .free ∧ k = .cell))
 | [], h => by simp at h
 | (n, k0) :: r, h => by
  rw [List.map_cons] at h
  have ih := @Cq env x k r
  by_cases hc : (k0 == NameKind.free && env.scope.kind == .function && env.kindOf n == some .cell) = true
  ·simp only [hc, if_true] at h
   rw [List.lookup_cons] at h
   split at h
   ·rename_i e
    have e' : x = n := by simpa using e
    subst e'
    have hk0 : k0 = .free := by
     rw [Bool.and_eq_true, Bool.and_eq_true] at hc
     simpa using hc.1.1
    cases h
    exact ⟨k0, List.mem_cons_self, .inr ⟨hk0, rfl⟩⟩
   ·obtain ⟨k', h1, h2⟩ := ih h
    exact ⟨k', List.mem_cons_of_mem _ h1, h2⟩
  ·simp only [hc, if_false] at h
   rw [List.lookup_cons] at h
   split at h
   ·rename_i e
    have e' : x = n := by simpa using e
    subst e'
    cases h
    exact ⟨k0, List.mem_cons_self, .inl rfl⟩
   ·obtain ⟨k', h1, h2⟩ := ih h
    exact ⟨k', List.mem_cons_of_mem _ h1, h2⟩
def DY (t : Str) (N : List Str) : List Str := N.map fun y => if y = t then Str.empty else y
def FN (X : Cx) (scope : Scope) (t : Str) (s2 : Shared) (H2 : Hp) (fp : List Addr) : Cx :=
 { X with N := DY t X.N ++ [t], s₀ := s2, H₀ := H2, env := compEnvC scope (clOf X.env.cells scope.names []) (s2.heap.objs.size + 1) X.env, outer := X.stack, ex := fp, fn := fun _ => false, pn := [], xe := fun _ _ => False }
structure CompOk (X : Cx) (scope : Scope) (t : Str) : Prop where
 nocell : ∀ y ∈ scope.names, y.2 ≠ .cell
 kind : scope.kind = .function
 names : ∀ y ∈ scope.names, y.2 = .local → scope.names.lookup y.1 = some .local
 tl : scope.names.lookup t = some .local
 loc : ∀ y ∈ scope.names, y.2 = .local → y.1 = t ∨ y.1 ∉ X.N
 fre : ∀ y ∈ scope.names, y.2 = .free → X.env.kindOf y.1 = some .cell ∨ X.env.kindOf y.1 = some .free
 emp : ∀ y ∈ scope.names, y.1 ≠ Str.empty
 nd : (DY t X.N ++ [t]).Nodup
section
variable {X : Cx} {scope : Scope} {t : Str}
theorem CompOk.cells (c : CompOk X scope t) (ok : X.Ok) : ∀ y ∈ scope.names, y.2 = .free → ∃ c, X.env.cells.lookup y.1 = some c := fun y hy hf => ok.has y.1 (c.fre y hy hf)
theorem CompOk.sub (c : CompOk X scope t) (ok : X.Ok) {x : Str} {a : Addr} (h : (clOf X.env.cells scope.names []).lookup x = some a) : X.env.cells.lookup x = some a := by
 rcases KD (c.cells ok) h with q | q
 ·simp at q
 ·exact q
theorem CompOk.inv {pins : List (Addr × Obj)} {σ : St} {H : Hp} {s : Shared} {fp : List Addr} {h1 : Heap} {tk : Nat} (c : CompOk X scope t) (I : Inv X pins σ H s) (hf : ∀ b ∈ fp, FpOk X pins H b) (ho : ∀ b ∈ fp, ∃ o, s.heap.get? b = some o)
  (hns : h1.Ns (s.heap.objs.size + 1) (fun _ => none)) (kp : ∀ b o, s.heap.get? b = some o → h1.get? b = some o) (hacc : h1.get? s.heap.objs.size = some { cls := .type "list", data := .seq #[] }) :
  Inv (FN X scope t s H fp) [] (σ ++ [none]) (upd H s.heap.objs.size (.lst [])) { s with heap := h1, toks := tk } := by
 have lt_of : ∀ b o, s.heap.get? b = some o → b < s.heap.objs.size := fun b o e => Heap.lt_size e
 have ok' : (FN X scope t s H fp).Ok := by
  refine ⟨I.ok.mod, c.kind, I.ok.glob, I.ok.blt, Nat.le_succ _, fun x y a h1 h2 => I.ok.inj x y a (c.sub I.ok h1) (c.sub I.ok h2), fun x hx => ?_, fun x a h _ => absurd (show false = true from h) Bool.false_ne_true, I.ok.hd, I.ok.frames, .inl rfl, fun b hb => ⟨?_, fun x a h => ?_⟩, I.bs, Nat.le_trans I.ok.bsz I.sz, fun b o e hb => ?_, fun b hb hs => ?_, I.stack, I.stkFree⟩
  ·have hx' : (relabel scope X.env).names.lookup x = some .cell ∨ (relabel scope X.env).names.lookup x = some .free := hx
   have go : ∀ k, (relabel scope X.env).names.lookup x = some k → (k = .cell ∨ k = .free) → (x, NameKind.free) ∈ scope.names := fun k hk hkk => by
    obtain ⟨k', m, e⟩ := Cq hk
    rcases e with e | ⟨e, _⟩
    ·subst e
     rcases hkk with z | z
     ·exact absurd z (c.nocell _ m)
     ·rw [← z]; exact m
    ·rw [← e]; exact m
   rcases hx' with h | h
   ·exact Fz (go _ h (.inl rfl))
   ·exact Fz (go _ h (.inr rfl))
  ·obtain ⟨o, e⟩ := ho b hb
   exact Nat.ne_of_lt (Nat.lt_succ_of_lt (lt_of b o e))
  ·exact (hf b hb).2.2.2.2.1 x a (c.sub I.ok h)
  ·rcases (hf b hb).2.2.2.1 with z | z
   ·exact I.ok.noex b o e z
   ·exact absurd (Nat.lt_of_lt_of_le (Heap.lt_size e) (Nat.le_trans I.ok.bsz z)) (Nat.lt_irrefl _)
  ·rcases List.mem_cons.mp (I.stkSub b hs) with z | z
   ·exact (hf b hb).2.1 z
   ·exact (hf b hb).2.2.1 z
 have fr : H s.heap.objs.size = none := I.hok.fresh (Nat.le_refl _)
 have new : Be X.prog X.w (upd H s.heap.objs.size (.lst [])) h1 s.heap.objs.size (.lst []) := ⟨Nat.zero_le _, [], 0, .nil, hacc⟩
 refine ⟨ok', rfl, I.bare, Un.laid kp (Nat.le_refl _) fr, ⟨_, hns, fun i x v e1 e2 e3 => ?_⟩, fun x a h => ?_, ?_, fun x a h => ?_, fun p hp => absurd (show p ∈ ([] : List (Addr × Obj)) from hp) (by simp), I.hok.laid kp (Nat.le_refl _) new, ?_⟩
 ·have e1' : (DY t X.N ++ [t])[i]? = some x := e1
  have hil : i < σ.length := by
   by_cases z : i < σ.length
   ·exact z
   ·rw [List.getElem?_append_right (by omega)] at e2
    cases q : i - σ.length with
    | zero => rw [q] at e2; cases e2
    | succ n => rw [q] at e2; simp at e2
  have e2' : σ[i]? = some (some v) := by rw [List.getElem?_append_left hil] at e2; exact e2
  have hN : i < X.N.length := by rw [← I.len]; exact hil
  have e1'' : (DY t X.N)[i]? = some x := by rw [List.getElem?_append_left (by unfold DY; rw [List.length_map]; exact hN)] at e1'; exact e1'
  unfold DY at e1''
  rw [List.getElem?_map] at e1''
  have e3' : (relabel scope X.env).names.lookup x = some .local ∨ (relabel scope X.env).names.lookup x = some .cell ∨ (relabel scope X.env).names.lookup x = some .free := e3
  have hin : ∃ k', (x, k') ∈ scope.names ∧ (k' = .local ∨ k' = .free) ∧ (k' = .free → (relabel scope X.env).names.lookup x = some .cell ∨ (relabel scope X.env).names.lookup x = some .free) := by
   rcases e3' with z | z | z
   ·obtain ⟨k', m, e⟩ := Cq z
    rcases e with e | ⟨_, e⟩
    ·exact ⟨k', m, .inl e, fun q => by rw [q] at e; cases e⟩
    ·cases e
   ·obtain ⟨k', m, e⟩ := Cq z
    rcases e with e | ⟨e, _⟩
    ·exact absurd e (c.nocell _ m)
    ·exact ⟨k', m, .inr e, fun _ => .inl z⟩
   ·obtain ⟨k', m, e⟩ := Cq z
    rcases e with e | ⟨e, q⟩
    ·exact ⟨k', m, .inr e, fun _ => .inr z⟩
    ·cases q
  cases ey : X.N[i]? with
  | none => rw [ey] at e1''; cases e1''
  | some y =>
   rw [ey] at e1''
   have e1z : (if y = t then Str.empty else y) = x := Option.some.inj e1''
   obtain ⟨k', m, hk', hfr⟩ := hin
   by_cases hyt : y = t
   ·rw [if_pos hyt] at e1z
    exact absurd e1z.symm (c.emp _ m)
   ·rw [if_neg hyt] at e1z
    subst e1z
    rcases hk' with hk' | hk'
    ·rcases c.loc _ m hk' with z | z
     ·exact absurd z hyt
     ·exact absurd (List.mem_of_getElem? ey) z
    ·have hkk := c.fre _ m hk'
     have hkk' : X.env.kindOf y = some .cell ∨ X.env.kindOf y = some .free := hkk
     obtain ⟨mm, hn, hl⟩ := I.loc
     have hv : Vis X.env.scope y := by
      rcases hkk' with z | z
      ·exact .inr (.inl z)
      ·exact .inr (.inr z)
     obtain ⟨u, r, l⟩ := hl i y v ey e2' hv
     refine ⟨u, r, .inr ⟨hfr hk', ?_⟩⟩
     rcases l with ⟨kl, _⟩ | ⟨_, a, ea, hc⟩
     ·rcases hkk' with z | z
      ·rw [kl] at z; cases z
      ·rw [kl] at z; cases z
     ·rw [hk'] at m
      obtain ⟨a', ha'⟩ := Fz (cells := X.env.cells) (cs := []) m
      refine ⟨a', ha', ?_⟩
      have := c.sub I.ok ha'
      rw [ea] at this
      cases this
      obtain ⟨o, e, d⟩ := hc
      exact ⟨o, kp _ _ e, d⟩
 ·obtain ⟨v, o, e, d⟩ := I.cell x a (c.sub I.ok h)
  exact ⟨v, o, kp _ _ e, d⟩
 ·show upd H s.heap.objs.size (.lst []) (s.heap.objs.size + 1) = none
  rw [Ad (Nat.succ_ne_self _)]
  exact I.hok.fresh (Nat.le_succ _)
 ·have ha := c.sub I.ok h
  obtain ⟨v, o, e, d⟩ := I.cell x a ha
  rw [Ad (Nat.ne_of_lt (lt_of _ _ e))]
  exact I.freeC x a ha
 ·show (σ ++ [none]).length = (DY t X.N ++ [t]).length
  unfold DY
  rw [List.length_append, List.length_append, List.length_map, I.len]
  rfl
def Y0 (wi : TI) (tc : TT) (te : TE) : TE := fun σ H Q => wi σ H fun J H1 => ∀ p, H1 p = none → ∃ W : Nat → Nat → List V → Hp → Prop, (∃ m, W 0 m [] (upd H1 p (.lst []))) ∧
 ∀ i m ys H, W i m ys H → (J.stop i H ∧ Q (.ref p) H) ∨ (J.go i H ∧ ∀ x H', J.yld i H x H' → tc (σ ++ [some x]) H' fun b H2 =>
  if b = true then te (σ ++ [some x]) H2 fun y H3 => H3 p = some (.lst ys) ∧ ys.length < sizeLine ∧ ∃ m', m' < m ∧ W (i + 1) m' (ys ++ [y]) (upd H3 p (.lst (ys ++ [y]))) else ∃ m', m' < m ∧ W (i + 1) m' ys H2)
def PTs (X : Cx) (ifs : List Expr) (tc : TT) : Prop :=
 ∀ (pins : List (Addr × Obj)) (s : Shared) (σ : St) (H : Hp) (Q : Bool → Hp → Prop), Inv X pins σ H s → tc σ H Q →
  wpAny (model X.prog X.w) X.A (forIn ifs true fun c r => if r = true then do let ok ← isTrue c X.env (eval c X.env); pure (ForInStep.yield ok) else pure (ForInStep.yield r)) (TP X pins σ Q) X.xe s
theorem Xj : PTs X [] (fun _ H Q => Q true H) := fun _ _ _ H _ I h => wpAny_tests_nil ⟨H, I, h⟩
variable {elt iter : Expr} {ifs : List Expr} {px pos : Pos} {wi : TI} {tc : TT} {te : TE}
theorem Qf {pins : List (Addr × Obj)} {s : Shared} {σ : St} {H : Hp} {Q : VK} {it : Addr} {fp : List Addr} {tn : Nat → Heap → Prop} {J : It} {E : Value → Shared → Prop} {RR : Value → Addr → Result → Shared → Prop} (c : CompOk X scope t) (hc : X.calm = true)
    (I : Inv X pins σ H s) (T : Turn X.prog X.w X.K (.Name t px) J fp it tn) (st0 : tn 0 s.heap) (hf : ∀ b ∈ fp, FpOk X pins H b)
    (hI : ∀ s2 H2 fp, PTs (FN X scope t s2 H2 fp) ifs tc) (hE : ∀ s2 H2 fp, PE (FN X scope t s2 H2 fp) elt te)
    (h : ∀ p, H p = none → ∃ W : Nat → Nat → List V → Hp → Prop, (∃ m, W 0 m [] (upd H p (.lst []))) ∧
      ∀ i m ys H, W i m ys H → (J.stop i H ∧ Q (.ref p) H) ∨ (J.go i H ∧ ∀ x H', J.yld i H x H' → tc (σ ++ [some x]) H' fun b H2 =>
        if b = true then te (σ ++ [some x]) H2 fun y H3 => H3 p = some (.lst ys) ∧ ys.length < sizeLine ∧ ∃ m', m' < m ∧ W (i + 1) m' (ys ++ [y]) (upd H3 p (.lst (ys ++ [y]))) else ∃ m', m' < m ∧ W (i + 1) m' ys H2))
    (hRR : ∀ p C s' H' m, Inv X pins σ H' s' → H' C = none → C ≠ X.env.locals → X.s₀.heap.objs.size ≤ C → (∀ x a, X.env.cells.lookup x = some a → a ≠ C) → (∀ q ∈ X.pn ++ pins, q.1 ≠ C) → s'.heap.Ns C m → Q (.ref p) H' → RR (.ref p) C (.ok .next) s') :
    wpAny (model X.prog X.w) X.A (newList []) (fun acc s₃ => wpAny (model X.prog X.w) X.A (newFunctionEnv scope X.env.globals (clOf X.env.cells scope.names []) [] X.env.qual none .none (some X.env)) (fun cenv s₄ =>
      codeAny (model X.prog X.w) X.A (.compStart (.ListComp elt [⟨.Name t px, iter, ifs, 0⟩] scope pos) 0 (.ref it) acc { cenv with scope := relabel scope X.env }) (RR acc cenv.locals) s₄) E s₃) E s := by
  refine wpAny_newObj_type (wpAny_newFunctionEnv c.nocell (by intro y hy; simp at hy) (fun h₁ hns₁ hsb₁ => ?_) c.kind)
  dsimp only at hns₁ hsb₁ ⊢
  generalize hH2 : s.heap.push { cls := .type "list", dict := none, data := .seq ([] : List Value).toArray } = G2 at hns₁ hsb₁ ⊢
  have hC : G2.objs.size = s.heap.objs.size + 1 := by rw [← hH2, Heap.size_push]
  rw [hC] at hns₁ hsb₁ ⊢
  have kp : ∀ b o, s.heap.get? b = some o → h₁.get? b = some o := fun b o e => hsb₁.extBut b o (Nat.ne_of_lt (Nat.lt_succ_of_lt (Heap.lt_size e))) (Heap.get?_push_of_some _ (hH2 ▸ Heap.get?_push_of_some _ e))
  have hacc : h₁.get? s.heap.objs.size = some { cls := .type "list", data := .seq #[] } := hsb₁.extBut _ _ (Nat.ne_of_lt (Nat.lt_succ_self _)) (Heap.get?_push_of_some _ (hH2 ▸ Heap.get?_push_size _ rfl))
  have hob : ∀ b ∈ fp, ∃ o, s.heap.get? b = some o := fun b hb => let ⟨o, e, _⟩ := T.obj 0 _ st0 b hb; ⟨o, e⟩
  have I0 := c.inv (fp := fp) (h1 := h₁) (tk := s.toks + ([] : List (Str × Value)).length) I hf hob (by simpa using hns₁) kp hacc
  have fr : H s.heap.objs.size = none := I.hok.fresh (Nat.le_refl _)
  obtain ⟨W, ⟨m0, w0⟩, turn⟩ := h _ fr
  have st1 : tn 0 h₁ := T.keep 0 _ _ st0 fun b _ o e => kp b o e
  generalize hX : FN X scope t s H fp = Y at I0
  have hcY : Y.calm = true := by rw [← hX]; exact hc
  have stat : ∀ {H' : Hp}, (∀ b ∈ fp, H' b = none) → ∀ b ∈ fp, FpOk Y [] H' b := fun {H'} hn b hb => by
    obtain ⟨o, e⟩ := hob b hb
    refine ⟨hn b hb, ?_, ?_, .inl ?_, fun x a e' => ?_, fun p hp => ?_⟩
    · rw [← hX]; exact Nat.ne_of_lt (Nat.lt_succ_of_lt (Heap.lt_size e))
    · intro z
      exact I0.ok.exfs b (by rw [← hX]; exact hb) z
    · rw [← hX]; exact hb
    · exact (I0.ok.exf b (by rw [← hX]; exact hb)).2 x a e'
    · rw [← hX] at hp
      exact absurd (show p ∈ ([] : List (Addr × Obj)) from hp) (by simp)
  have fp0 : ∀ b ∈ fp, upd H s.heap.objs.size (.lst []) b = none := fun b hb => by
    obtain ⟨o, e⟩ := hob b hb
    rw [Ad (Nat.ne_of_lt (Heap.lt_size e))]
    exact (hf b hb).1
  have envY : Y.env = compEnvC scope (clOf X.env.cells scope.names []) (s.heap.objs.size + 1) X.env := by rw [← hX]; rfl
  have pY : Y.prog = X.prog := by rw [← hX]; rfl
  have wY : Y.w = X.w := by rw [← hX]; rfl
  have aY : Y.A = X.A := by rw [← hX]; rfl
  have kY : Y.K = X.K := by rw [← hX]; rfl
  have xY : Y.xe = fun _ _ => False := by rw [← hX]; rfl
  have nY : Y.N = DY t X.N ++ [t] := by rw [← hX]; rfl
  have lenN : (DY t X.N).length = σ.length := by unfold DY; rw [List.length_map, I.len]
  have hIY : PTs Y ifs tc := by rw [← hX]; exact hI s H fp
  have hEY : PE Y elt te := by rw [← hX]; exact hE s H fp
  have setE : ∀ (o : Option V) (v : V), (σ ++ [o]).set (DY t X.N).length (some v) = σ ++ [some v] := fun o v => by
    rw [lenN, List.set_append_right _ _ (Nat.le_refl _), Nat.sub_self]
    rfl
  have loop : ∀ s₃ : Shared, s₃ = { s with heap := h₁, toks := s.toks + ([] : List (Str × Value)).length } →
      codeAny (model X.prog X.w) X.A (.compLoop (.ListComp elt [⟨.Name t px, iter, ifs, 0⟩] scope pos) 0 (.ref it) (.ref s.heap.objs.size) (compEnvC scope (clOf X.env.cells scope.names []) (s.heap.objs.size + 1) X.env)) (RR (.ref s.heap.objs.size) (s.heap.objs.size + 1)) s₃ := by
    rintro s₃ rfl
    rw [← envY]
    refine codeAny_compLoop_tests (fun n s' => ∃ i ys o H', Inv Y [] (σ ++ [o]) H' s' ∧ tn i s'.heap ∧ (∀ b ∈ fp, H' b = none) ∧ W i n ys H') ?_ m0 ⟨0, [], none, _, I0, st1, fp0, w0⟩
    rintro n s3 ⟨i, ys, o, H3, I3, st3, fr3, w3⟩
    rcases turn i n ys H3 w3 with ⟨stop, qn⟩ | ⟨go, step⟩
    · have d := T.done Y pY wY kY hcY i [] s3 _ H3 (fun _ _ => False) I3 (stat fr3) st3 stop
      rw [aY] at d
      refine wpAny_mono d (fun r s4 ⟨hr, I4⟩ => ?_) fun _ _ z => z.elim
      subst hr
      have cN := I4.free
      have cN' : H3 (s.heap.objs.size + 1) = none := by rw [envY] at cN; exact cN
      have un := I4.base
      obtain ⟨m, hm, _⟩ := I4.loc
      have hm' : s4.heap.Ns (s.heap.objs.size + 1) m := by rw [envY] at hm; exact hm
      have un' : Un (frs X.stack) fp H H3 s.heap s4.heap := by rw [← hX] at un; exact un
      have os' : s4.os = s.os := by have := I4.os; rw [← hX] at this; exact this
      have hok' : HOk X.prog X.w H3 s4.heap := by have := I4.hok; rw [← hX] at this; exact this
      have bare' := I4.bare
      have IX : Inv X pins σ H3 s4 := I.call' os' un' hok' bare' fun b hb => ⟨(hf b hb).2.2.2.1, (hf b hb).2.1, (hf b hb).2.2.2.2.1, (hf b hb).2.2.2.2.2⟩
      refine hRR _ _ _ _ m IX cN' (Nat.ne_of_gt (Nat.lt_succ_of_lt I.lt)) (Nat.le_trans I.sz (Nat.le_succ _)) (fun x a e z => ?_) (fun q hq z => ?_) hm' qn
      · obtain ⟨v, oc, e', _⟩ := I.cell x a e
        have q2 : a < s.heap.objs.size := Heap.lt_size e'
        have z' : a = s.heap.objs.size + 1 := z
        exact absurd (z' ▸ q2) (Nat.not_lt.mpr (Nat.le_succ _))
      · have q2 : q.1 < s.heap.objs.size := Heap.lt_size (I.pin q hq).1
        have z' : q.1 = s.heap.objs.size + 1 := z
        exact absurd (z' ▸ q2) (Nat.not_lt.mpr (Nat.le_succ _))
    · have d := T.item Y pY wY kY hcY i [] s3 _ H3 (fun _ _ => False) I3 (stat fr3) st3 go
      rw [aY] at d
      refine wpAny_mono d (fun r s4 ⟨u, hr, h4⟩ => ?_) fun _ _ z => z.elim
      subst hr
      intro Γ pp hΓ
      obtain ⟨x, H5, I5, r5, y5, st5, fr5⟩ := (show ∃ x H', Inv Y [] (σ ++ [o]) H' s4 ∧ RelV x u ∧ J.yld i H3 x H' ∧ tn (i + 1) s4.heap ∧ ∀ b ∈ fp, H' b = none from h4 Γ pp hΓ)
      revert Γ pp
      show wpAny (model X.prog X.w) X.A _ _ _ s4
      have I5' := I5.pinned (stat fr5) (T.obj _ _ st5)
      have hiY : Y.N[(DY t X.N).length]? = some t := by rw [nY, List.getElem?_append_right (Nat.le_refl _), Nat.sub_self]; rfl
      have htl : Y.env.scope.names.lookup t = some .local := by rw [envY]; exact lookup_relabel_local c.tl
      refine wpAny_assign_Name (HR (i := (DY t X.N).length) (v := x) I5' (by rw [nY]; exact c.nd) hiY (.inl htl) r5 (fun s6 I6 => ?_) (.inr htl))
      rw [setE] at I6
      have q := step x H5 y5
      have tst := hIY _ s6 _ H5 _ I6 q
      rw [aY, pY, wY, xY] at tst
      refine wpAny_mono tst (fun b s7 ⟨H7, I7, q7⟩ => ?_) fun _ _ z => z.elim
      have back : ∀ {H8 : Hp} {s8 : Shared}, Inv Y ([] ++ Jx fp s4.heap) (σ ++ [some x]) H8 s8 → tn (i + 1) s8.heap ∧ ∀ b ∈ fp, H8 b = none := fun {H8 s8} I8 => by
        refine ⟨T.keep _ _ _ st5 fun b hb ob e => (I8.pin (b, ob) (List.mem_append_right _ (List.mem_append_right _ (Ez hb e)))).1, fun b hb => ?_⟩
        obtain ⟨ob, e, d⟩ := T.obj _ _ st5 b hb
        exact (I8.pin (b, ob) (List.mem_append_right _ (List.mem_append_right _ (Ez hb e)))).2.1
      cases b with
      | false =>
        rw [if_neg Bool.false_ne_true] at q7 ⊢
        obtain ⟨m', hm, w7⟩ := q7
        obtain ⟨t7, f7⟩ := back I7
        exact ⟨m', hm, i + 1, ys, some x, H7, I7.unpinned, t7, f7, w7⟩
      | true =>
        rw [if_pos rfl] at q7 ⊢
        have ev := hEY _ s7 _ H7 _ I7 q7
        rw [aY, pY, wY, xY] at ev
        refine wpAny_mono ev (fun y s8 ⟨yv, H8, I8, r8, hp8, hz8, m', hm, w8⟩ => ?_) fun _ _ z => z.elim
        have ap := Tp (X := Y) _ s8 _ H8 (.ref s.heap.objs.size) [yv] (.ref s.heap.objs.size) [y] (fun _ H9 => H9 = upd H8 s.heap.objs.size (.lst (ys ++ [yv]))) I8 rfl (.cons r8 .nil) ⟨_, ys, yv, rfl, rfl, hp8, hz8, rfl⟩
        rw [aY, pY, wY, xY] at ap
        refine wpAny_mono ap (fun _ s9 ⟨_, H9, I9, _, e9⟩ => ?_) fun _ _ z => z.elim
        subst e9
        obtain ⟨t9, f9⟩ := back I9
        exact ⟨m', hm, i + 1, _, some x, _, I9.unpinned, t9, f9, w8⟩
  exact codeAny_compStart_list (loop _ rfl) (T.self X.A 0 _ _ _ st1 (loop _ rfl))
theorem Xk (c : CompOk X scope t) (hc : X.calm = true) (hi : PI X (.Name t px) iter wi) (hI : ∀ s2 H2 fp, PTs (FN X scope t s2 H2 fp) ifs tc) (hE : ∀ s2 H2 fp, PE (FN X scope t s2 H2 fp) elt te)
  (hs : ∀ x, foldedSetIterable iter X.env x = pure x := by intro _; rfl) : PE X (.ListComp elt [⟨.Name t px, iter, ifs, 0⟩] scope pos) (Y0 wi tc te) := by
 intro pins s σ H Q I h
 rw [eval_ListComp]
 refine wpAny_comprehension_free (use := none) rfl hs (Ks (c.cells I.ok)) c.kind c.names (thn (hi pins s σ H _ I h) fun v s1 h1 => thn h1 fun itv s2 h2 => ?_)
 obtain ⟨it, fp, tn, J, H2, e, I2, T, st2, f2, q⟩ := h2
 subst e
 refine Qf (Q := Q) c hc I2 T st2 f2 hI hE q fun p C s' H' m I' n1 n2 n3 n4 n5 hm q' => ?_
 exact ⟨m, hm, fun h' sb => ⟨.ref p, H', I'.turned (t' := s'.toks) (fun b o hb e => (sb.2 b hb).trans e) n1 (Ne.symm (Ne.symm n2)) (.inr n3) n4 n5, rfl, q'⟩⟩
end
end L2
namespace PV
open PySem PySem.Spec L2
open PyProof.Rows hiding St
structure Gx where
 K : PySem.W.Frag
 cl : Str → Option Addr
 xcl : Str → Option Addr := fun _ => none
 lent : Option Addr := none
theorem Dq {K : PySem.W.Frag} {H H' : Hp} {a : Addr} {xs : List V} (e : Same H H') (h : SqT K H a xs) : SqT K H' a xs := by
 rcases h with (h | ⟨o, h⟩) | h
 ·exact .inl (.inl (e _ _ h))
 ·exact .inl (.inr ⟨o, e _ _ h⟩)
 ·exact .inr h
theorem BJ {H : Hp} {p : Addr} (h : H p = none) (o : HO) : Same H (upd H p o) := fun b u q => by rw [Ad (An q h)]; exact q
def FsV (fs : List (Str × V)) (gs : List (Str × D)) : Prop := fs.map (fun p => (p.1, some p.2)) = gs.map fun p => (p.1, flV p.2)
def XdA (H : Hp) (od : Option Addr) (fs : List (Str × V)) : Prop := match od with | some dx => H dx = some (.xd fs) | none => fs = []
theorem XdA.mono {H H' : Hp} {od : Option Addr} {fs : List (Str × V)} (h : XdA H od fs) (s : Same H H') : XdA H' od fs := by
 cases od with
 | none => exact h
 | some dx => exact s _ _ h
inductive Rep (G : Gx) (H : Hp) : V → D → Prop
 | non : Rep G H .non .non
 | bl (b : Bool) : Rep G H (.bl b) (.bl b)
 | int (i : Int) : Rep G H (.int i) (.int i)
 | str (x : Str) : Rep G H (.str x) (.str x)
 | tup {a : Addr} {xs : List V} {ds : List D} : SqT G.K H a xs → xs.length = ds.length → (∀ (i : Nat) x d, xs[i]? = some x → ds[i]? = some d → Rep G H x d) → Rep G H (.ref a) (.tup ds)
 | lst {a : Addr} {xs : List V} {ds : List D} : SqL G.K H a xs → xs.length = ds.length → (∀ (i : Nat) x d, xs[i]? = some x → ds[i]? = some d → Rep G H x d) → Rep G H (.ref a) (.lst ds)
 | dk {a : Addr} {o : Obj} {kvs : List (Key × V)} {kds : List (Key × D)} : H a = some (.frz o (.dK kvs)) → kvs.map (·.1) = kds.map (·.1) → (∀ (i : Nat) x d, (kvs.map (·.2))[i]? = some x → (kds.map (·.2))[i]? = some d → Rep G H x d) → Rep G H (.ref a) (.dk kds)
 | dt {a : Addr} {o : Obj} {kvs : List (List Key × V)} {kds : List (List Key × D)} : H a = some (.frz o (.dT kvs)) → kvs.map (·.1) = kds.map (·.1) → (∀ (i : Nat) x d, (kvs.map (·.2))[i]? = some x → (kds.map (·.2))[i]? = some d → Rep G H x d) → Rep G H (.ref a) (.dt kds)
 | adr (a : Addr) : Rep G H (.ref a) (.adr a)
 | ob {a C dx : Addr} {c : Str} {fs : List (Str × V)} {gs : List (Str × D)} : G.cl c = some C → H a = some (.ins C dx fs) → fs.map (·.1) = gs.map (·.1) → (∀ (i : Nat) x d, (fs.map (·.2))[i]? = some x → (gs.map (·.2))[i]? = some d → Rep G H x d) → Rep G H (.ref a) (.ob c gs)
 | err {a C : Addr} {od tb : Option Addr} {c : Str} {fs : List (Str × V)} {gs : List (Str × D)} : G.xcl c = some C → H a = some (EX.excO a C od tb) → XdA H od fs → FsV fs gs → Rep G H (.ref a) (.err c gs)
def RepL (G : Gx) (H : Hp) (xs : List V) (ds : List D) : Prop := xs.length = ds.length ∧ ∀ (i : Nat) x d, xs[i]? = some x → ds[i]? = some d → Rep G H x d
theorem Rep.mono {G : Gx} {H H' : Hp} {v : V} {d : D} (r : Rep G H v d) (s : Same H H') : Rep G H' v d := by
 induction r with
 | non => exact .non
 | bl b => exact .bl b
 | int i => exact .int i
 | str x => exact .str x
 | tup h l _ ih => exact .tup (Dq s h) l ih
 | lst h l _ ih => exact .lst (s.seq h) l ih
 | dk h l _ ih => exact .dk (s _ _ h) l ih
 | dt h l _ ih => exact .dt (s _ _ h) l ih
 | adr a => exact .adr a
 | ob c h l _ ih => exact .ob c (s _ _ h) l ih
 | err c h q f => exact .err c (s _ _ h) (q.mono s) f
theorem RepL.mono {G : Gx} {H H' : Hp} {xs : List V} {ds : List D} (r : RepL G H xs ds) (s : Same H H') : RepL G H' xs ds := ⟨r.1, fun i x d a b => (r.2 i x d a b).mono s⟩
theorem RepL.nil {G : Gx} {H : Hp} : RepL G H [] [] := ⟨rfl, fun i x d h => by simp at h⟩
theorem RepL.cons {G : Gx} {H : Hp} {x : V} {d : D} {xs : List V} {ds : List D} (r : Rep G H x d) (rs : RepL G H xs ds) : RepL G H (x :: xs) (d :: ds) :=
 ⟨by simp [rs.1], fun i y e h1 h2 => by
  cases i with
  | zero => simp at h1 h2; subst h1; subst h2; exact r
  | succ i => simp at h1 h2; exact rs.2 i y e h1 h2⟩
theorem RepL.uncons {G : Gx} {H : Hp} {xs : List V} {d : D} {ds : List D} (r : RepL G H xs (d :: ds)) : ∃ x ys, xs = x :: ys ∧ Rep G H x d ∧ RepL G H ys ds := by
 obtain ⟨l, h⟩ := r
 cases xs with
 | nil => simp at l
 | cons x ys => exact ⟨x, ys, rfl, h 0 x d rfl rfl, by simpa using l, fun i y e h1 h2 => h (i + 1) y e (by simpa using h1) (by simpa using h2)⟩
theorem RepL.nil_inv {G : Gx} {H : Hp} {xs : List V} (r : RepL G H xs []) : xs = [] := by
 have := r.1
 cases xs with
 | nil => rfl
 | cons x ys => simp at this
theorem RepL.append {G : Gx} {H : Hp} {xs ys : List V} {ds es : List D} (a : RepL G H xs ds) (b : RepL G H ys es) : RepL G H (xs ++ ys) (ds ++ es) := by
 refine ⟨by rw [List.length_append, List.length_append, a.1, b.1], fun i x d h1 h2 => ?_⟩
 by_cases hi : i < xs.length
 ·rw [List.getElem?_append_left hi] at h1
  rw [List.getElem?_append_left (by rw [← a.1]; exact hi)] at h2
  exact a.2 i x d h1 h2
 ·rw [List.getElem?_append_right (Nat.not_lt.mp hi)] at h1
  rw [List.getElem?_append_right (by rw [← a.1]; exact Nat.not_lt.mp hi), ← a.1] at h2
  exact b.2 _ x d h1 h2
theorem RepL.drop {G : Gx} {H : Hp} {xs : List V} {ds : List D} (a : RepL G H xs ds) (n : Nat) : RepL G H (xs.drop n) (ds.drop n) :=
 ⟨by rw [List.length_drop, List.length_drop, a.1], fun i x d h1 h2 => by rw [List.getElem?_drop] at h1 h2; exact a.2 _ x d h1 h2⟩
theorem RepL.take {G : Gx} {H : Hp} {xs : List V} {ds : List D} (a : RepL G H xs ds) (n : Nat) : RepL G H (xs.take n) (ds.take n) :=
 ⟨by rw [List.length_take, List.length_take, a.1], fun i x d h1 h2 => by
  rw [List.getElem?_take] at h1 h2
  split at h1
  ·rename_i hlt
   rw [if_pos hlt] at h2
   exact a.2 _ x d h1 h2
  ·cases h1⟩
theorem RepL.get {G : Gx} {H : Hp} {xs : List V} {ds : List D} (a : RepL G H xs ds) {i : Nat} {d : D} (h : ds[i]? = some d) : ∃ x, xs[i]? = some x ∧ Rep G H x d := by
 have hi : i < ds.length := (List.getElem?_eq_some_iff.mp h).1
 have hi' : i < xs.length := by rw [a.1]; exact hi
 exact ⟨xs[i], by simp [hi'], a.2 i _ d (by simp [hi']) h⟩
theorem RepL.atI {G : Gx} {H : Hp} {xs : List V} {ds : List D} (a : RepL G H xs ds) {i : Int} {d : D} (h : L2.atI ds i = some d) : ∃ x, L2.atI xs i = some x ∧ Rep G H x d := by
 unfold L2.atI at h ⊢
 rw [← a.1] at h
 cases e : ixN xs.length i with
 | none => rw [e] at h; cases h
 | some j =>
  rw [e] at h
  obtain ⟨x, h1, h2⟩ := a.get (show ds[j]? = some d from h)
  exact ⟨x, h1, h2⟩
def hid (A : List Addr) (H : Hp) : Hp := fun b => if b ∈ A then none else H b
theorem Aw {A : List Addr} {H H' : Hp} (s : Same H H') : Same (hid A H) (hid A H') := fun b o h => by
 unfold hid at h ⊢
 split at h
 ·cases h
 ·rename_i hb; rw [if_neg hb]; exact s b o h
theorem Al {A : List Addr} {H : Hp} : Same (hid A H) H := fun b o h => by
 unfold hid at h
 split at h
 ·cases h
 ·exact h
theorem CT {A B : List Addr} {H : Hp} (h : ∀ a ∈ A, a ∈ B) : Same (hid B H) (hid A H) := fun b o q => by
 unfold hid at q ⊢
 split at q
 ·cases q
 ·rename_i hb; rw [if_neg (fun z => hb (h b z))]; exact q
theorem Bb {A : List Addr} {H : Hp} {p : Addr} (h : p ∉ A) : hid A H p = H p := by unfold hid; rw [if_neg h]
theorem Ca {A : List Addr} {H : Hp} {p : Addr} {o : HO} (h : p ∈ A) : hid A (upd H p o) = hid A H := by
 funext b
 unfold hid
 by_cases hb : b ∈ A
 ·rw [if_pos hb, if_pos hb]
 ·rw [if_neg hb, if_neg hb, Ad (fun e : b = p => hb (by rw [e]; exact h))]
def Top (G : Gx) (A : List Addr) (H : Hp) (a : Addr) : D → Prop
 | .lst ds => ∃ xs, H a = some (.lst xs) ∧ RepL G (hid A H) xs ds
 | .dk kds => ∃ kvs, H a = some (.dK kvs) ∧ kvs.map (·.1) = kds.map (·.1) ∧ RepL G (hid A H) (kvs.map (·.2)) (kds.map (·.2))
 | .dt kds => ∃ kvs, H a = some (.dT kvs) ∧ kvs.map (·.1) = kds.map (·.1) ∧ RepL G (hid A H) (kvs.map (·.2)) (kds.map (·.2))
 | .ob c gs => ∃ C dx fs, H a = some (.ins C dx fs) ∧ (G.cl c = some C ∧ fs.map (·.1) = gs.map (·.1)) ∧ RepL G (hid A H) (fs.map (·.2)) (gs.map (·.2))
 | _ => False
theorem Top.mono {G : Gx} {A : List Addr} {H H' : Hp} {a : Addr} {d : D} (t : Top G A H a d) (s : Same H H') : Top G A H' a d := by
 cases d with
 | lst ds => obtain ⟨xs, h, r⟩ := t; exact ⟨xs, s _ _ h, r.mono (Aw s)⟩
 | dk ds => obtain ⟨xs, h, k, r⟩ := t; exact ⟨xs, s _ _ h, k, r.mono (Aw s)⟩
 | dt ds => obtain ⟨xs, h, k, r⟩ := t; exact ⟨xs, s _ _ h, k, r.mono (Aw s)⟩
 | ob c gs => obtain ⟨C, dx, xs, h, k, r⟩ := t; exact ⟨C, dx, xs, s _ _ h, k, r.mono (Aw s)⟩
 | _ => exact t.elim
structure Nt (x : Option HO) : Prop where
 ne : x ≠ none
 tup : ∀ xs, x ≠ some (.tup xs)
theorem Nt.mono {x y : Option HO} (h : Nt x) (k : ∀ u, x = some u → y = some u) : Nt y := by
 cases x with
 | none => exact absurd rfl h.ne
 | some u => rw [k u rfl]; exact h
theorem Nt.lst {xs : List V} : Nt (some (.lst xs)) := ⟨fun z => (nomatch z), fun _ z => (nomatch z)⟩
theorem Nt.dK {xs : List (Key × V)} : Nt (some (.dK xs)) := ⟨fun z => (nomatch z), fun _ z => (nomatch z)⟩
theorem Nt.dT {xs : List (List Key × V)} : Nt (some (.dT xs)) := ⟨fun z => (nomatch z), fun _ z => (nomatch z)⟩
theorem Nt.ins {C dx : Addr} {xs : List (Str × V)} : Nt (some (.ins C dx xs)) := ⟨fun z => (nomatch z), fun _ z => (nomatch z)⟩
structure Okp (G : Gx) (A : List Addr) (σ : St) (H : Hp) (ρ : Rho) : Prop where
 len : σ.length = ρ.length
 live : ∀ a ∈ A, Nt (H a)
 fz : ∀ (i : Nat) (d : D), ρ[i]? = some (.fz d) → ∃ v, σ[i]? = some (some v) ∧ Rep G (hid A H) v d
 ow : ∀ (i : Nat) (d : D), ρ[i]? = some (.ow d) → ∃ a, σ[i]? = some (some (.ref a)) ∧ a ∈ A ∧ Top G A H a d
 inj : ∀ (i j : Nat) (d e : D) (a : Addr), ρ[i]? = some (.ow d) → ρ[j]? = some (.ow e) → σ[i]? = some (some (.ref a)) → σ[j]? = some (some (.ref a)) → i = j
theorem Okp.mono {G : Gx} {A : List Addr} {σ : St} {H H' : Hp} {ρ : Rho} (o : Okp G A σ H ρ) (s : Same H H') : Okp G A σ H' ρ :=
 ⟨o.len, fun a ha => (o.live a ha).mono fun u e => s _ _ e,
  fun i d h => let ⟨v, h1, h2⟩ := o.fz i d h; ⟨v, h1, h2.mono (Aw s)⟩, fun i d h => let ⟨a, h1, h2, h3⟩ := o.ow i d h; ⟨a, h1, h2, h3.mono s⟩, o.inj⟩
def RepT (G : Gx) (A : List Addr) (H : Hp) (v : V) (d : D) : Prop := Rep G (hid A H) v d ∨ ∃ a, v = .ref a ∧ Top G A H a d
theorem RepT.mono {G : Gx} {A : List Addr} {H H' : Hp} {v : V} {d : D} (r : RepT G A H v d) (s : Same H H') : RepT G A H' v d := by
 rcases r with r | ⟨a, e, r⟩
 ·exact .inl (r.mono (Aw s))
 ·exact .inr ⟨a, e, r.mono s⟩
theorem RepT.lst {G : Gx} {A : List Addr} {H : Hp} {v : V} {ds : List D} (r : RepT G A H v (.lst ds)) : ∃ a xs, v = .ref a ∧ SqL G.K H a xs ∧ RepL G (hid A H) xs ds := by
 rcases r with r | ⟨a, e, xs, h, r⟩
 ·cases r with
  | lst h l r => exact ⟨_, _, rfl, Al.seq h, l, r⟩
 ·exact ⟨a, xs, e, .of h, r⟩
theorem RepT.tup {G : Gx} {A : List Addr} {H : Hp} {v : V} {ds : List D} (r : RepT G A H v (.tup ds)) : ∃ a xs, v = .ref a ∧ SqT G.K H a xs ∧ RepL G (hid A H) xs ds := by
 rcases r with r | ⟨a, e, r⟩
 ·cases r with
  | tup h l r => exact ⟨_, _, rfl, Dq Al h, l, r⟩
 ·exact r.elim
theorem RepT.int {G : Gx} {A : List Addr} {H : Hp} {v : V} {i : Int} (r : RepT G A H v (.int i)) : v = .int i := by
 rcases r with r | ⟨a, e, r⟩
 ·cases r; rfl
 ·exact r.elim
theorem RepT.str {G : Gx} {A : List Addr} {H : Hp} {v : V} {i : Str} (r : RepT G A H v (.str i)) : v = .str i := by
 rcases r with r | ⟨a, e, r⟩
 ·cases r; rfl
 ·exact r.elim
theorem RepT.bl {G : Gx} {A : List Addr} {H : Hp} {v : V} {i : Bool} (r : RepT G A H v (.bl i)) : v = .bl i := by
 rcases r with r | ⟨a, e, r⟩
 ·cases r; rfl
 ·exact r.elim
theorem RepT.non {G : Gx} {A : List Addr} {H : Hp} {v : V} (r : RepT G A H v .non) : v = .non := by
 rcases r with r | ⟨a, e, r⟩
 ·cases r; rfl
 ·exact r.elim
theorem RepT.dk {G : Gx} {A : List Addr} {H : Hp} {v : V} {kds : List (Key × D)} (r : RepT G A H v (.dk kds)) : ∃ a kvs, v = .ref a ∧ Rd H a (.dK kvs) ∧ kvs.map (·.1) = kds.map (·.1) ∧ RepL G (hid A H) (kvs.map (·.2)) (kds.map (·.2)) := by
 rcases r with r | ⟨a, e, kvs, h, k, r⟩
 ·cases r with
  | dk h k r =>
   refine ⟨_, _, rfl, .inr ⟨_, Al _ _ h⟩, k, ?_, r⟩
   have := congrArg List.length k
   rw [List.length_map, List.length_map] at this ⊢
   exact this
 ·exact ⟨a, kvs, e, .of h, k, r⟩
theorem K9 {A : List Addr} {H : Hp} {p : Addr} (live : ∀ a ∈ A, Nt (H a)) (hp : H p = none) (o : HO) : hid A (upd H p o) p = some o := by
 rw [Bb (fun z => (live p z).ne hp), Ae]
theorem Dc {G : Gx} {A : List Addr} {H : Hp} {p : Addr} {xs : List V} {ds : List D} (live : ∀ a ∈ A, Nt (H a)) (hp : H p = none) (r : RepL G (hid A H) xs ds) : Rep G (hid A (upd H p (.lst xs))) (.ref p) (.lst ds) :=
 let q := r.mono (Aw (BJ hp (.lst xs))); .lst (.of (K9 live hp _)) q.1 q.2
theorem F_ {G : Gx} {A : List Addr} {H : Hp} {p : Addr} {xs : List V} {ds : List D} (live : ∀ a ∈ A, Nt (H a)) (hp : H p = none) (r : RepL G (hid A H) xs ds) : Rep G (hid A (upd H p (.tup xs))) (.ref p) (.tup ds) :=
 let q := r.mono (Aw (BJ hp (.tup xs))); .tup (.of (K9 live hp _)) q.1 q.2
def tF (G : Gx) (A : List Addr) (f : FE) : TE := fun σ H Q => ∃ ρ d, Okp G A σ H ρ ∧ f ρ = some d ∧ ∀ v H', Same H H' → Rep G (hid A H') v d → Q v H'
def tT (G : Gx) (A : List Addr) (f : FE) : TE := fun σ H Q => ∃ ρ d, Okp G A σ H ρ ∧ f ρ = some d ∧ ∀ v H', Same H H' → RepT G A H' v d → Q v H'
def PF (X : Cx) (G : Gx) (e : Expr) (f : FE) : Prop := ∀ ⦃A⦄, PE X e (tF G A f)
def PU (X : Cx) (G : Gx) (e : Expr) (f : FE) : Prop := ∀ ⦃A⦄, PE X e (tT G A f)
theorem Bp {X : Cx} {e : Expr} {t t' : TE} (h : PE X e t) (w : ∀ σ H Q, t' σ H Q → t σ H Q) : PE X e t' := fun pins s σ H Q I q => h pins s σ H Q I (w σ H Q q)
theorem PF.pu {X : Cx} {G : Gx} {e : Expr} {f : FE} (h : PF X G e f) : PU X G e f := fun A => Bp (@h A) fun σ H Q ⟨ρ, d, o, e, k⟩ => ⟨ρ, d, o, e, fun v H' s r => k v H' s (.inl r)⟩
def tFA (G : Gx) (A : List Addr) (f : FA) : TA := fun σ H Q => ∃ ρ ds, Okp G A σ H ρ ∧ f ρ = some ds ∧ ∀ vs H', Same H H' → RepL G (hid A H') vs ds → Q vs H'
def PFA (X : Cx) (G : Gx) (es : List Expr) (f : FA) : Prop := ∀ ⦃A⦄, PA X es (tFA G A f)
theorem Y4 {X : Cx} {e : List Expr} {t t' : TA} (h : PA X e t) (w : ∀ σ H Q, t' σ H Q → t σ H Q) : PA X e t' := fun pos pins s σ H Q I q => h pos pins s σ H Q I (w σ H Q q)
def tFT (G : Gx) (A : List Addr) (f : FT) : TT := fun σ H Q => ∃ ρ b, Okp G A σ H ρ ∧ f ρ = some b ∧ ∀ H', Same H H' → Q b H'
def PFT (X : Cx) (G : Gx) (e : Expr) (f : FT) : Prop := ∀ ⦃A⦄, PT X e (tFT G A f)
def PFW (X : Cx) (G : Gx) (e : Expr) (f : FT) : Prop := ∀ ⦃A⦄, PW X e (tFT G A f)
theorem VH {X : Cx} {e : Expr} {t t' : TT} (h : PT X e t) (w : ∀ σ H Q, t' σ H Q → t σ H Q) : PT X e t' := fun pins s σ H Q I q => h pins s σ H Q I (w σ H Q q)
theorem VJ {X : Cx} {e : Expr} {t t' : TT} (h : PW X e t) (w : ∀ σ H Q, t' σ H Q → t σ H Q) : PW X e t' := fun wh pins s σ H Q I q => h wh pins s σ H Q I (w σ H Q q)
end PV
namespace PV
open PySem PySem.Spec L2
open PyProof.Rows hiding St
section
variable {X : Cx} {G : Gx} {a b c : Expr} {fa fb fc : FE} {pos : Pos}
theorem Z7 (i : Nat) {x : Str} (h : PE X (.Name x pos) (tVar i)) : PF X G (.Name x pos) (vF i) := fun A => Bp h fun σ H Q ⟨ρ, d, o, e, k⟩ => by
 unfold vF at e
 split at e
 ·rename_i d' h'
  cases e
  obtain ⟨v, h1, h2⟩ := o.fz i _ h'
  exact ⟨v, h1, k v H (Same.refl H) h2⟩
 ·cases e
theorem Ek {v : V} {d : D} (h : PE X a (tC v)) (r : Rep G (fun _ => none) v d) : PF X G a (kF d) := fun A => Bp h fun σ H Q ⟨ρ, d', o, e, k⟩ => by
 cases e
 exact k v H (Same.refl H) (r.mono fun b o z => nomatch z)
theorem VL {i j} : PF X G (.Constant (.int i) j pos) (kF (.int i)) := Ek Ze (.int i)
theorem Fl {b j} : PF X G (.Constant (.bool b) j pos) (kF (.bl b)) := Ek bW (.bl b)
theorem Z8 {j} : PF X G (.Constant .none j pos) (kF .non) := Ek Zf .non
theorem HB {x j} : PF X G (.Constant (.str x) j pos) (kF (.str x)) := Ek Zg (.str x)
def Cz (G : Gx) (r : R2) (g : D → D → Option D) : Prop := ∀ (A : List Addr) (H : Hp) (x y : V) (dx dy d : D) (Q : VK), (∀ a ∈ A, Nt (H a)) → RepT G A H x dx → RepT G A H y dy → g dx dy = some d → (∀ v H', Same H H' → Rep G (hid A H') v d → Q v H') → r x y H Q
theorem Xl {g : D → D → Option D} {ρ : Rho} {d : D} (h : bF g fa fb ρ = some d) : ∃ x y, fa ρ = some x ∧ fb ρ = some y ∧ g x y = some d := by
 unfold bF at h
 cases e1 : fa ρ with
 | none => rw [e1] at h; cases h
 | some x =>
  rw [e1] at h
  cases e2 : fb ρ with
  | none => simp [e2] at h
  | some y => simp [e2] at h; exact ⟨x, y, rfl, rfl, h⟩
theorem Nf {r : R2} {g : D → D → Option D} (s : Cz G r g) {A : List Addr} {σ : St} {H : Hp} {Q : VK} (h : tF G A (bF g fa fb) σ H Q) : tOp r (tT G A fa) (tT G A fb) σ H Q := by
 obtain ⟨ρ, d, o, e, k⟩ := h
 obtain ⟨x, y, e1, e2, e3⟩ := Xl e
 exact ⟨ρ, x, o, e1, fun v H1 s1 r1 => ⟨ρ, y, o.mono s1, e2, fun u H2 s2 r2 => s A H2 v u x y d Q ((o.mono s1).mono s2).live (r1.mono s2) r2 e3 fun w H3 s3 r3 => k w H3 (s1.trans (s2.trans s3)) r3⟩⟩
theorem Qg {op : Operator} {r : R2} {g : D → D → Option D} (ho : OpR X (binaryOp op) r) (s : Cz G r g) (ha : PU X G a fa) (hb : PU X G b fb) : PF X G (.BinOp a op b pos) (bF g fa fb) :=
 fun A => Bp (bj ho (@ha A) (@hb A)) fun _ _ _ h => Nf s h
theorem VM {op : CmpOp} {r : R2} {g : D → D → Option D} (ho : OpR X (compareOp op) r) (s : Cz G r g) (ha : PU X G a fa) (hb : PU X G b fb) (hm : behindInMarks op b = false) : PF X G (.Compare a [op] [b] pos) (bF g fa fb) :=
 fun A => Bp (Q7 ho (@ha A) (@hb A) hm) fun _ _ _ h => Nf s h
theorem VN {f : FE} {ρ : Rho} {b : Bool} (h : blF f ρ = some b) : f ρ = some (.bl b) := by
 unfold blF at h
 split at h
 ·rename_i e; cases h; exact e
 ·cases h
theorem Dr {op : CmpOp} {r : R2} {g : D → D → Option D} (ho : OpR X (compareOp op) r) (s : Cz G r g) (ha : PU X G a fa) (hb : PU X G b fb) (hm : behindInMarks op b = false) : PFT X G (.Compare a [op] [b] pos) (blF (bF g fa fb)) :=
 fun A => VH (Q8 ho (@ha A) (@hb A) hm) fun σ H Q ⟨ρ, d, o, e, k⟩ => Nf s ⟨ρ, .bl d, o, VN e, fun v H' s' r' => by cases r'; exact ⟨d, rfl, k H' s'⟩⟩
theorem O9 {g : Int → Int → Option D} {x y d : D} (h : iiD g x y = some d) : ∃ i j, x = .int i ∧ y = .int j ∧ g i j = some d := by
 unfold iiD at h
 split at h
 ·exact ⟨_, _, rfl, rfl, h⟩
 ·cases h
theorem Qh {g : Int → Int → V} {g' : Int → Int → D} (e : ∀ i j H, Rep G H (g i j) (g' i j)) : Cz G (rI0 g) (iiD fun i j => some (g' i j)) := by
 intro A H x y dx dy d Q lv rx ry h k
 obtain ⟨i, j, rfl, rfl, h⟩ := O9 h
 cases h
 exact ⟨i, j, rx.int, ry.int, k _ H (Same.refl H) (e i j _)⟩
theorem VP {C : Int → Int → Prop} {g : Int → Int → V} {g' : Int → Int → D} [∀ i j, Decidable (C i j)] (e : ∀ i j H, Rep G H (g i j) (g' i j)) : Cz G (rI C g) (iiD fun i j => if C i j then some (g' i j) else none) := by
 intro A H x y dx dy d Q lv rx ry h k
 obtain ⟨i, j, rfl, rfl, h'⟩ := O9 h
 by_cases hc : C i j
 ·rw [if_pos hc] at h'
  cases h'
  exact ⟨i, j, rx.int, ry.int, hc, k _ H (Same.refl H) (e i j _)⟩
 ·rw [if_neg hc] at h'; cases h'
theorem RD.ok {i j : Int} (h : RD i j) : IntMulOk i j := by
 rcases h with h | h
 ·exact h.ok
 ·exact IntMulOk.of_le h.1 h.2 (by decide)
theorem VR : Cz G (rI CDiv fun i j => .int (i / j)) Gy := VP fun i j H => .int _
theorem Xm : Cz G (rI (fun _ j => 0 < j) fun i j => .int (i % j)) modD := VP (C := fun _ j => 0 < j) fun i j H => .int _
theorem Z9 : Cz G (rI0 fun i j => .bl (decide (i < j))) ltD := Qh fun i j H => .bl _
theorem Z_ : Cz G (rI0 fun i j => .bl (decide (j < i))) gtD := Qh fun i j H => .bl _
theorem aA : Cz G (rI0 fun i j => .bl (decide (j ≤ i))) geD := Qh fun i j H => .bl _
def Y5 (K : PySem.W.Frag) : R2 := fun x y H Q => ∃ l b xs zs, x = .ref l ∧ y = .ref b ∧ SqL K H l xs ∧ SqL K H b zs ∧ xs.length + zs.length ≤ sizeLine ∧ ∀ p, H p = none → Q (.ref p) (upd H p (.lst (xs ++ zs)))
theorem Xn : OpR X (binaryOp .Add) (Y5 X.K) := by
 intro pins s σ H x y v u Q I rx ry h
 obtain ⟨l, b, xs, zs, rfl, rfl, hl, hb, hz, q⟩ := h
 cases rx
 cases ry
 obtain ⟨its, r, pl, z⟩ := I.list hl
 obtain ⟨its2, r2, pl2, z2⟩ := I.list hb
 have e1 := r.length
 have e2 := r2.length
 obtain ⟨⟨cls, dd, data, sl⟩, ho, hc, n, hd⟩ := pl.isList
 obtain ⟨⟨cls2, dd2, data2, sl2⟩, ho2, hc2, n2, hd2⟩ := pl2.isList
 simp only at hc hd hc2 hd2
 subst hc hd hc2 hd2
 refine concat_meets ⟨_, ho, rfl⟩ ⟨_, ho2, rfl⟩ noFill_list_add seq_list_add PySem.F.slot_list_add PySem.F.entry_list_add (PySem.F.args_list_add_2 _ _) (list_addW l b its.toArray its2.toArray n n2 dd dd2 sl sl2 (by rw [List.size_toArray, List.size_toArray]; omega)) ⟨ho, ho2, ?_⟩
 have ea : its.toArray ++ its2.toArray = (its ++ its2).toArray := by simp
 rw [ea]
 exact ⟨.ref _, _, I.lnew (t' := s.toks) (r.append r2) (by rw [List.length_append]; omega), rfl, q _ I.fresh⟩
def rAdd (K : PySem.W.Frag) : R2 := fun x y H Q => (rI0 fun i j => .int (i + j)) x y H Q ∨ ((fun x y H Q => ∃ i j, x = .str i ∧ y = .str j ∧ i.length + j.length ≤ sizeLine ∧ Q (.str (i ++ j)) H) x y H Q ∨ Y5 K x y H Q)
theorem Xo : OpR X (binaryOp .Add) (rAdd X.K) := Zr.or (QM.or Xn)
theorem Xp : Cz G (rAdd G.K) addD := by
 intro A H x y dx dy d Q lv rx ry h k
 unfold addD at h
 split at h
 ·cases h; exact .inl ⟨_, _, rx.int, ry.int, k _ H (Same.refl H) (.int _)⟩
 ·split at h
  ·rename_i hz; cases h; exact .inr (.inl ⟨_, _, rx.str, ry.str, hz, k _ H (Same.refl H) (.str _)⟩)
  ·cases h
 ·split at h
  ·rename_i hz
   cases h
   obtain ⟨l, xs, rfl, h1, r1⟩ := rx.lst
   obtain ⟨m, zs, rfl, h2, r2⟩ := ry.lst
   exact .inr (.inr ⟨l, m, xs, zs, rfl, rfl, h1, h2, by rw [r1.1, r2.1]; exact hz, fun p hp => k _ _ (BJ hp _) (Dc lv hp (r1.append r2))⟩)
  ·cases h
 ·cases h
theorem Va {op : BoolOp} (h : PF X G a fa) : PF X G (.BoolOp op [a] pos) fa := fun A => Zk (@h A)
theorem Ng {rest : List Expr} (ha : PF X G a fa) (hb : PF X G (.BoolOp .And (b :: rest) pos) fb) : PF X G (.BoolOp .And (a :: b :: rest) pos) (andF fa fb) := fun A => Bp (Zm (@ha A) (@hb A)) fun σ H Q ⟨ρ, d, o, e, k⟩ => by
 unfold andF at e
 split at e
 ·rename_i e1
  refine ⟨ρ, _, o, e1, fun v H1 s1 r1 => ?_⟩
  cases r1
  refine ⟨true, rfl, ?_⟩
  rw [if_pos rfl]
  exact ⟨ρ, d, o.mono s1, e, fun v H2 s2 r2 => k v H2 (s1.trans s2) r2⟩
 ·rename_i e1
  refine ⟨ρ, _, o, e1, fun v H1 s1 r1 => ?_⟩
  cases r1
  refine ⟨false, rfl, ?_⟩
  rw [if_neg Bool.false_ne_true]
  cases e
  exact k _ H1 s1 (.bl false)
 ·cases e
variable {ga gb : FT}
theorem PFW.pt (h : PFW X G a ga) : PFT X G a ga := fun A => (@h A).pt
theorem HD (h : PFT X G a ga) : PFW X G (.BoolOp .And [a] pos) ga := fun A => W7 (@h A)
theorem Eo (h : PFT X G a ga) : PFW X G (.BoolOp .Or [a] pos) ga := fun A => Ue (@h A)
theorem Nh {rest : List Expr} (ha : PFT X G a ga) (hb : PFW X G (.BoolOp .And (b :: rest) pos) gb) : PFW X G (.BoolOp .And (a :: b :: rest) pos) (andT ga gb) := fun A => VJ (Zi (@ha A) (@hb A)) fun σ H Q ⟨ρ, d, o, e, k⟩ => by
 unfold andT at e
 split at e
 ·rename_i e1
  exact ⟨ρ, _, o, e1, fun H1 s1 => iteT ⟨ρ, d, o.mono s1, e, fun H2 s2 => k H2 (s1.trans s2)⟩⟩
 ·rename_i e1
  cases e
  exact ⟨ρ, _, o, e1, fun H1 s1 => iteF (k H1 s1)⟩
 ·cases e
theorem GC {rest : List Expr} (ha : PFT X G a ga) (hb : PFW X G (.BoolOp .Or (b :: rest) pos) gb) : PFW X G (.BoolOp .Or (a :: b :: rest) pos) (orT ga gb) := fun A => VJ (Ys (@ha A) (@hb A)) fun σ H Q ⟨ρ, d, o, e, k⟩ => by
 unfold orT at e
 split at e
 ·rename_i e1
  cases e
  exact ⟨ρ, _, o, e1, fun H1 s1 => iteT (k H1 s1)⟩
 ·rename_i e1
  exact ⟨ρ, _, o, e1, fun H1 s1 => iteF ⟨ρ, d, o.mono s1, e, fun H2 s2 => k H2 (s1.trans s2)⟩⟩
 ·cases e
theorem Dk (ha : PFT X G a ga) : PFT X G (.UnaryOp .Not a pos) (notT ga) := fun A => VH (Zj (@ha A)) fun σ H Q ⟨ρ, d, o, e, k⟩ => by
 unfold notT at e
 cases e1 : ga ρ with
 | none => rw [e1] at e; cases e
 | some b => rw [e1] at e; cases e; exact ⟨ρ, b, o, e1, fun H1 s1 => k H1 s1⟩
theorem I_ {α β : Type} {xs : List α} {ys : List β} (h : xs.length = ys.length) : xs.isEmpty = ys.isEmpty := by
 cases xs <;> cases ys <;> simp at h ⊢
theorem CJ (ha : PU X G a fa) (hG : G.K = X.K) (he : ∀ whole, isTrue a X.env whole = (do let v ← whole; standAt a.pos; holding [v] (truthy v)) := by intro _; rfl) : PFT X G a (fun ρ => (fa ρ).bind truD) := fun A => VH (Ul (@ha A) he) fun σ H Q ⟨ρ, b, o, e, k⟩ => by
 cases e1 : fa ρ with
 | none => simp [e1] at e
 | some d =>
  have e' : truD d = some b := by simpa [e1] using e
  refine ⟨ρ, d, o, e1, fun v H1 s1 r1 => ⟨b, ?_, k H1 s1⟩⟩
  rw [← hG]
  cases d with
  | non => rw [r1.non]; exact (Option.some.inj e').symm
  | bl b' => rw [r1.bl]; exact (Option.some.inj e').symm
  | int i => rw [r1.int]; exact (Option.some.inj e').symm
  | str y =>
   rw [r1.str]
   simp only [truD] at e'
   split at e'
   ·rename_i hz; exact ⟨hz, (Option.some.inj e').symm⟩
   ·cases e'
  | lst ds =>
   obtain ⟨p, xs, rfl, h1, h2⟩ := r1.lst
   refine .inl ⟨xs, h1, ?_⟩
   rw [I_ h2.1]
   exact (Option.some.inj e').symm
  | tup ds =>
   obtain ⟨p, xs, rfl, h1, h2⟩ := r1.tup
   refine .inr (.inl ⟨xs, h1, ?_⟩)
   rw [I_ h2.1]
   exact (Option.some.inj e').symm
  | _ => cases e'
variable {es : List Expr} {fs : FA}
theorem Ah : PFA X G [] nilA := fun A => Y4 Ft fun σ H Q ⟨ρ, ds, o, e, k⟩ => by cases e; exact k [] H (Same.refl H) RepL.nil
theorem Ac (ha : PF X G a fa) (hr : PFA X G es fs) (hs : starEach (a :: es) X.env = (false, eval a X.env) :: starEach es X.env := by rfl) : PFA X G (a :: es) (Aa fa fs) := fun A => Y4 (Cp (@ha A) (@hr A) hs) fun σ H Q ⟨ρ, ds, o, e, k⟩ => by
 unfold Aa at e
 cases e1 : fa ρ with
 | none => simp [e1] at e
 | some d =>
  cases e2 : fs ρ with
  | none => simp [e1, e2] at e
  | some ds' =>
   simp [e1, e2] at e
   subst e
   exact ⟨ρ, d, o, e1, fun v H1 s1 r1 => ⟨ρ, ds', o.mono s1, e2, fun vs H2 s2 r2 => k _ H2 (s1.trans s2) (.cons (r1.mono (Aw s2)) r2)⟩⟩
theorem aB {x1} (h : PFA X G es fs) : PF X G (.Tuple es x1 pos) (tupF fs) := fun A => Bp (Lw (@h A)) fun σ H Q ⟨ρ, d, o, e, k⟩ => by
 unfold tupF at e
 cases e1 : fs ρ with
 | none => simp [e1] at e
 | some ds =>
  rw [e1] at e
  have e' : (if ds.length ≤ sizeLine then some (D.tup ds) else none) = some d := e
  split at e'
  ·rename_i hz
   cases e'
   exact ⟨ρ, ds, o, e1, fun vs H1 s1 r1 => ⟨by rw [r1.1]; exact hz, fun p hp => k _ _ (s1.trans (BJ hp _)) (F_ (o.mono s1).live hp r1)⟩⟩
  ·cases e'
theorem DG (h : PFA X G es fs) : PF X G (.List es pos) (lstF fs) := fun A => Bp (Zv (@h A)) fun σ H Q ⟨ρ, d, o, e, k⟩ => by
 unfold lstF at e
 cases e1 : fs ρ with
 | none => simp [e1] at e
 | some ds =>
  rw [e1] at e
  have e' : (if ds.length ≤ sizeLine then some (D.lst ds) else none) = some d := e
  split at e'
  ·rename_i hz
   cases e'
   exact ⟨ρ, ds, o, e1, fun vs H1 s1 r1 => ⟨by rw [r1.1]; exact hz, fun p hp => k _ _ (s1.trans (BJ hp _)) (Dc (o.mono s1).live hp r1)⟩⟩
  ·cases e'
theorem aC : Cz G (rIx G.K) ixD := by
 intro A H x y dx dy d Q lv rx ry h k
 unfold ixD at h
 split at h
 ·obtain ⟨p, xs, rfl, h1, r1⟩ := rx.lst
  obtain ⟨v, h2, r2⟩ := r1.atI h
  exact .inl ⟨p, xs, _, v, rfl, ry.int, h1, h2, k v H (Same.refl H) r2⟩
 ·obtain ⟨p, xs, rfl, h1, r1⟩ := rx.tup
  obtain ⟨v, h2, r2⟩ := r1.atI h
  exact .inr (.inl ⟨p, xs, _, v, rfl, ry.int, h1, h2, k v H (Same.refl H) r2⟩)
 ·split at h
  ·rename_i z i hz
   cases e : atI z.cps.toList i with
   | none => rw [e] at h; cases h
   | some c =>
    rw [e] at h
    cases h
    exact .inr (.inr ⟨z, i, c, rx.str, ry.int, hz, e, k _ H (Same.refl H) (.str _)⟩)
  ·cases h
 ·cases h
def tFO (G : Gx) (A : List Addr) (f : FO) : TO := fun σ H Q => ∃ ρ o, Okp G A σ H ρ ∧ f ρ = some o ∧ ∀ H', Same H H' → Q o H'
def PFO (X : Cx) (G : Gx) (e : Option Expr) (f : FO) : Prop := ∀ ⦃A⦄, PO X e (tFO G A f)
theorem Y6 {e : Option Expr} {t t' : TO} (h : PO X e t) (w : ∀ σ H Q, t' σ H Q → t σ H Q) : PO X e t' := fun pins s σ H Q I q => h pins s σ H Q I (w σ H Q q)
theorem Hj : PFO X G none noO := fun A => Y6 XQ fun σ H Q ⟨ρ, o, ok, e, k⟩ => by cases e; exact k H (Same.refl H)
theorem Hk (h : PU X G a fa) : PFO X G (some a) (someO fa) := fun A => Y6 (XR (@h A)) fun σ H Q ⟨ρ, o, ok, e, k⟩ => by
 unfold someO at e
 split at e
 ·rename_i i e1
  cases e
  exact ⟨ρ, _, ok, e1, fun v H1 s1 r1 => ⟨i, r1.int, k H1 s1⟩⟩
 ·cases e
theorem RepL.cut {H : Hp} {xs : List V} {ds : List D} (r : RepL G H xs ds) (lo hi : Option Int) : RepL G H (cutV xs lo hi) (cutD ds lo hi) := by
 unfold cutV cutD
 rw [r.1]
 exact (r.drop _).take _
end
end PV
theorem L2.Room.unitsW {k : Nat} {A : PySem.Around} (r : L2.Room k A) : A.units + 190 < PySem.cLine := by have := r.un; omega
namespace PV
open PySem PySem.Spec L2
open PyProof.Rows hiding St
section
variable {X : Cx} {G : Gx} {a b c : Expr} {fa fb fc : FE} {pos p2 : Pos}
section
open Builtin.Str
theorem O_ (n : Nat) (v : Option Int) (d : Nat) (hd : d ≤ n) : (match v with | none => (d : Int) | some i => max 0 (min (if i < 0 then i + (n : Int) else i) (n : Int))) = (HT.sIx n d v : Int) := by
 cases v with
 | none => rfl
 | some i =>
  simp only [HT.sIx]
  split <;> omega
theorem Xq (n d : Nat) (v : Option Int) (hd : d ≤ n) : HT.sIx n d v ≤ n := by
 cases v with
 | none => exact hd
 | some i => simp only [HT.sIx]; split <;> omega
theorem Qi (lo hi : Option Int) (n : Nat) : strSliceIndices lo hi 1 n = (List.range (HT.sIx n n hi - HT.sIx n 0 lo)).map (fun k => HT.sIx n 0 lo + k) := by
 have h1 := O_ n lo 0 (Nat.zero_le _)
 have h2 := O_ n hi n (Nat.le_refl _)
 have hp : ((1 : Int) > 0) := by decide
 have e : strSliceIndices lo hi 1 n = sliceRange (HT.sIx n 0 lo : Int) (HT.sIx n n hi : Int) 1 := by
  unfold strSliceIndices
  simp only [hp, if_true]
  exact congrFun (congr (congrArg sliceRange h1) h2) 1
 rw [e]
 unfold sliceRange
 simp only [hp, if_true]
 generalize HT.sIx n 0 lo = a
 generalize HT.sIx n n hi = b
 have hc : (if (a : Int) < (b : Int) then ((b : Int) - a + 1 - 1) / 1 else 0).toNat = b - a := by
  split
  ·rw [Int.ediv_one]; omega
  ·omega
 rw [hc]
 apply List.map_congr_left
 intro k _
 omega
theorem Tw (x : Str) (lo hi : Option Int) : Txt.slice x lo hi = cutS x lo hi := by
 have hb := Xq x.length x.length hi (Nat.le_refl _)
 have hn : x.cps.toList.length = x.length := by simp [Str.length]
 unfold Txt.slice cutS cutD
 rw [Qi, hn]
 generalize HT.sIx x.length 0 lo = a at *
 generalize HT.sIx x.length x.length hi = b at *
 rw [List.length_map, List.length_range]
 split
 ·rename_i h
  simp only [Bool.and_eq_true, beq_iff_eq] at h
  have hab : b - a = x.length := h.2
  by_cases h0 : x.length = 0
  ·have : x.cps.toList = [] := List.length_eq_zero_iff.mp (by omega)
   cases x with
   | mk c =>
    simp at this
    subst this
    simp
  ·have ha : a = 0 := by omega
   subst ha
   have : b = x.length := by omega
   subst this
   rw [List.drop_zero, Nat.sub_zero, List.take_of_length_le (by omega)]
 ·congr 1
  apply congrArg
  apply List.ext_getElem?
  intro i
  rw [List.filterMap_map]
  have key : ∀ m, m ≤ b - a → (List.filterMap ((fun k => x.cps[k]?) ∘ fun k => a + k) (List.range m)) = ((x.cps.toList.drop a).take m) := by
   intro m
   induction m with
   | zero => intro _; simp
   | succ m ih =>
    intro hm
    rw [List.range_succ, List.filterMap_append, ih (by omega)]
    have hlt : a + m < x.cps.size := by have : x.length = x.cps.size := rfl; omega
    rw [List.take_succ_eq_append_getElem (by simp; omega)]
    simp [hlt]
  rw [key _ (Nat.le_refl _)]
end
def rSlS : V → Option Int → Option Int → Hp → VK → Prop := fun x lo hi H Q => ∃ z, x = .str z ∧ z.length ≤ sizeLine ∧ Q (.str (Txt.slice z lo hi)) H
theorem aD : SlR X rSlS := by
 intro pins s σ H x v vl vu lo hi sl Q I rx hs pl pu h
 obtain ⟨z, rfl, hz, q⟩ := h
 obtain ⟨t, rfl⟩ := rx
 obtain ⟨o, e1, e2, e3⟩ := hs
 have fin : ∀ t' k, EP X pins σ Q (.str (Txt.slice z lo hi) t') { s with toks := k } := fun t' k => ⟨.str _, H, I.tok _, ⟨t', rfl⟩, q⟩
 have hl := Nat.le_trans (Txt.slice_le z lo hi) hz
 refine ⟨"str", _, PySem.F.slot_str_getitem.lookup, typeIs_str _ _ _, ?_⟩
 cases pl with
 | none =>
  cases pu with
  | none => exact wpAny_getItem_str_slice (l := none) (u := none) (st := none) ⟨o, e1, e2, e3⟩ rfl (post_val_or_str ⟨hl, fin⟩)
  | int j uj => exact wpAny_getItem_str_slice (l := none) (u := some (j, uj)) (st := none) ⟨o, e1, e2, e3⟩ rfl (post_val_or_str ⟨hl, fin⟩)
 | int i ui =>
  cases pu with
  | none => exact wpAny_getItem_str_slice (l := some (i, ui)) (u := none) (st := none) ⟨o, e1, e2, e3⟩ rfl (post_val_or_str ⟨hl, fin⟩)
  | int j uj => exact wpAny_getItem_str_slice (l := some (i, ui)) (u := some (j, uj)) (st := none) ⟨o, e1, e2, e3⟩ rfl (post_val_or_str ⟨hl, fin⟩)
def rSl (K : PySem.W.Frag) : V → Option Int → Option Int → Hp → VK → Prop := fun x lo hi H Q => rSlL K x lo hi H Q ∨ (rSlT K x lo hi H Q ∨ rSlS x lo hi H Q)
theorem aF : SlR X (rSl X.K) := Xa.or (Zx.or aD)
theorem Hl {lo hi : Option Expr} {gl gh : FO} (hG : G.K = X.K) (ha : PU X G a fa) (hl : PFO X G lo gl) (hh : PFO X G hi gh) : PF X G (.Subscript a (.Slice lo hi none p2) pos) (slF fa gl gh) := fun A => Bp (Uu (aF (X := X)) (@ha A) (@hl A) (@hh A)) fun σ H Q ⟨ρ, d, o, e, k⟩ => by
 unfold slF at e
 cases e1 : fa ρ with
 | none => simp [e1] at e
 | some x =>
  cases e2 : gl ρ with
  | none => simp [e1, e2] at e
  | some l =>
   cases e3 : gh ρ with
   | none => simp [e1, e2, e3] at e
   | some h =>
    have e' : slD x l h = some d := by simpa [e1, e2, e3] using e
    refine ⟨ρ, x, o, e1, fun v H1 s1 r1 => ⟨ρ, l, o.mono s1, e2, fun H2 s2 => ⟨ρ, h, (o.mono s1).mono s2, e3, fun H3 s3 => ?_⟩⟩⟩
    have r3 := (r1.mono s2).mono s3
    have o3 := ((o.mono s1).mono s2).mono s3
    have s0 := s1.trans (s2.trans s3)
    unfold slD at e'
    split at e'
    ·cases e'
     obtain ⟨p, xs, rfl, h1, r⟩ := r3.lst
     exact .inl ⟨p, xs, rfl, by rw [← hG]; exact h1, fun q hq => k _ _ (s0.trans (BJ hq _)) (Dc o3.live hq (r.cut _ _))⟩
    ·split at e'
     ·cases e'
     ·rename_i hw
      cases e'
      obtain ⟨p, xs, rfl, h1, r⟩ := r3.tup
      exact .inr (.inl ⟨p, xs, rfl, by rw [← hG]; exact h1, by rw [r.1]; exact hw, fun q hq => k _ _ (s0.trans (BJ hq _)) (F_ o3.live hq (r.cut _ _))⟩)
    ·split at e'
     ·rename_i hz
      cases e'
      refine .inr (.inr ⟨_, r3.str, hz, ?_⟩)
      rw [Tw]
      exact k _ _ s0 (.str _)
     ·cases e'
    ·cases e'
theorem Ni {A : List Addr} {H : Hp} {v u : V} {d : D} (r : RepT G A H v d) (h : flV d = some u) : v = u ∧ Fi v = true := by
 cases d with
 | non => cases h; rw [r.non]; exact ⟨rfl, rfl⟩
 | bl b => cases h; rw [r.bl]; exact ⟨rfl, rfl⟩
 | int b => cases h; rw [r.int]; exact ⟨rfl, rfl⟩
 | str b => cases h; rw [r.str]; exact ⟨rfl, rfl⟩
 | _ => cases h
theorem PB {H : Hp} : ∀ {ds : List D} {xs us : List V}, RepL G H xs ds → flVs ds = some us → xs = us ∧ xs.all Fi = true
 | [], xs, us, r, h => by cases h; rw [r.nil_inv]; exact ⟨rfl, rfl⟩
 | d :: ds, xs, us, r, h => by
  obtain ⟨x, ys, rfl, r1, r2⟩ := r.uncons
  unfold flVs at h
  cases e1 : flV d with
  | none => simp [e1] at h
  | some v =>
   cases e2 : flVs ds with
   | none => simp [e1, e2] at h
   | some vs =>
    simp [e1, e2] at h
    subst h
    have q : Rep G (hid [] H) x d := r1.mono fun b o z => z
    obtain ⟨z1, z2⟩ := Ni (A := []) (.inl q) e1
    obtain ⟨z3, z4⟩ := PB r2 e2
    subst z1
    subst z3
    exact ⟨rfl, by rw [List.all_cons, z2, z4]; rfl⟩
def rInA (K : PySem.W.Frag) (neg : Bool) : R2 := fun x y H Q => rIn K neg x y H Q ∨ ∃ i j, x = .str i ∧ y = .str j ∧ Q (.bl (if neg then !(!(Builtin.Str.occurrences j i 0 j.length 1).isEmpty) else !(Builtin.Str.occurrences j i 0 j.length 1).isEmpty)) H
theorem Vb : OpR X (compareOp .In) (rInA X.K false) := Tn.or Ti
theorem Tz : OpR X (compareOp .NotIn) (rInA X.K true) := L_.or Ls
theorem aG (neg : Bool) : Cz G (rInA G.K neg) (inD neg) := by
 intro A H x y dx dy d Q lv rx ry h k
 have seq : ∀ {ds : List D} {p : Addr} {xs : List V}, y = .ref p → (SqL G.K H p xs ∨ SqT G.K H p xs) → RepL G (hid A H) xs ds → ((flV dx).bind fun v => (flVs ds).map fun vs => D.bl (if neg then !inV v vs else inV v vs)) = some d → rIn G.K neg x y H Q := fun {ds p xs} ey hq r h => by
  cases e1 : flV dx with
  | none => simp [e1] at h
  | some v =>
   cases e2 : flVs ds with
   | none => simp [e1, e2] at h
   | some vs =>
    rw [e1, e2] at h
    cases h
    obtain ⟨z1, z2⟩ := Ni rx e1
    obtain ⟨z3, z4⟩ := PB r e2
    subst z1
    subst z3
    exact ⟨p, xs, ey, hq, z2, z4, k _ H (Same.refl H) (.bl _)⟩
 unfold inD at h
 split at h
 ·cases h; exact .inr ⟨_, _, rx.str, ry.str, k _ H (Same.refl H) (.bl _)⟩
 ·obtain ⟨p, xs, e, h1, r⟩ := ry.lst
  exact .inl (seq e (.inl h1) r h)
 ·obtain ⟨p, xs, e, h1, r⟩ := ry.tup
  exact .inl (seq e (.inr h1) r h)
 ·cases h
def eAt (f : D → D → Option Bool) (xs ys : List D) (j : Nat) : Bool := match xs[j]?, ys[j]? with | some x, some y => (f x y).getD false | _, _ => false
theorem Ig {f : D → D → Option Bool} : ∀ {xs ys : List D} {b : Bool}, allO f xs ys = some b → xs.length = ys.length ∧ (∀ (j : Nat) x y, xs[j]? = some x → ys[j]? = some y → f x y = some (eAt f xs ys j)) ∧ b = (List.range xs.length).all (eAt f xs ys)
 | [], [], b, h => by cases h; exact ⟨rfl, fun j x y h => by simp at h, rfl⟩
 | [], _ :: _, b, h => by cases h
 | _ :: _, [], b, h => by cases h
 | x :: xs, y :: ys, b, h => by
  unfold allO at h
  split at h
  ·rename_i a c e1 e2
   cases h
   obtain ⟨h1, h2, h3⟩ := Ig e2
   refine ⟨by simp [h1], fun j u v hu hv => ?_, ?_⟩
   ·cases j with
    | zero => simp at hu hv; subst hu; subst hv; rw [e1]; simp [eAt, e1]
    | succ j =>
     have := h2 j u v (by simpa using hu) (by simpa using hv)
     rw [this]
     simp [eAt]
   ·rw [List.length_cons, List.range_succ_eq_map, List.all_cons, List.all_map]
    have z : eAt f (x :: xs) (y :: ys) 0 = a := by simp [eAt, e1]
    rw [z, h3]
    rfl
  ·cases h
theorem Vc {u : V} (h : Fi u = true) : eqV u u = true := by
 cases u <;> simp [eqV] <;> cases h
theorem Jq {H : Hp} {v : V} {d : D} {u : V} (r : Rep G H v d) (h : flV d = some u) : v = u ∧ Fi v = true := Ni (A := []) (.inl (r.mono fun b o z => by rw [Bb List.not_mem_nil]; exact z)) h
section
variable {pins : List (Addr × Obj)} {σ : St} {H : Hp} {s : Shared}
theorem PJ (I : Inv X pins σ H s) (hG : G.K = X.K) : ∀ (n : Nat) {x y : D} {v : V} {b : Bool}, eqK n x y = some b → Rep G H v x → Rep G H v y → b = true := by
 have flat : ∀ {x y : D} {v : V} {b : Bool}, flD x y = some b → Rep G H v x → Rep G H v y → b = true := fun {x y v b} h rx ry => by
  unfold flD at h
  cases e1 : flV x with
  | none => simp [e1] at h
  | some u =>
   cases e2 : flV y with
   | none => simp [e1, e2] at h
   | some w =>
    simp [e1, e2] at h
    obtain ⟨z1, z2⟩ := Jq rx e1
    obtain ⟨z3, _⟩ := Jq ry e2
    rw [← h, ← z1, ← z3]
    exact Vc z2
 intro n
 induction n with
 | zero => intro x y v b h rx ry; exact flat h rx ry
 | succ n ih =>
  have items : ∀ {xs : List V} {ds es : List D} {b : Bool}, allO (eqK n) ds es = some b → RepL G H xs ds → RepL G H xs es → b = true := fun {xs ds es b} h r1 r2 => by
   obtain ⟨h1, h2, h3⟩ := Ig h
   rw [h3, List.all_eq_true]
   intro j hj
   have hj' : j < ds.length := List.mem_range.mp hj
   have hx : xs[j]? = some (xs[j]'(by rw [r1.1]; exact hj')) := by simp [r1.1, hj']
   have hd : ds[j]? = some ds[j] := by simp [hj']
   have he : es[j]? = some (es[j]'(by omega)) := List.getElem?_eq_getElem (by omega)
   exact ih (h2 j _ _ hd he) (r1.2 j _ _ hx hd) (r2.2 j _ _ hx he)
  intro x y v b h rx ry
  unfold eqK eqS at h
  split at h
  ·split at h
   ·cases rx with
    | lst h1 l1 r1 =>
     cases ry with
     | lst h2 l2 r2 =>
      have e := I.list_inj (by rw [← hG]; exact h1) (by rw [← hG]; exact h2)
      subst e
      exact items h ⟨l1, r1⟩ ⟨l2, r2⟩
   ·rename_i hne
    cases rx with
    | lst h1 l1 r1 =>
     cases ry with
     | lst h2 l2 r2 =>
      have e := I.list_inj (by rw [← hG]; exact h1) (by rw [← hG]; exact h2)
      subst e
      exact absurd (l1.symm.trans l2) hne
  ·split at h
   ·cases rx with
    | tup h1 l1 r1 =>
     cases ry with
     | tup h2 l2 r2 =>
      have e := I.tuple_inj (by rw [← hG]; exact h1) (by rw [← hG]; exact h2)
      subst e
      exact items h ⟨l1, r1⟩ ⟨l2, r2⟩
   ·cases h
  ·exact flat h rx ry
theorem Ep {A : Around} {n : Nat} {ds es : List D} {b : Bool} {xs ys : List V} {its jts : List Value} (ih : ∀ {x y : D} {v w : V} {u1 u2 : Value} {b : Bool}, eqK n x y = some b → Rep G H v x → Rep G H w y → RelV v u1 → RelV w u2 → SeqAt.EqAt A s u1 u2 b)
  (h : allO (eqK n) ds es = some b) (r1 : RepL G H xs ds) (r2 : RepL G H ys es) (v1 : Vals xs its) (v2 : Vals ys jts) :
  its.toArray.size = jts.toArray.size ∧ b = (List.range its.toArray.size).all (eAt (eqK n) ds es) ∧ ∀ j (h1 : j < its.toArray.size) (h2 : j < jts.toArray.size), SeqAt.EqAt A s its.toArray[j] jts.toArray[j] (eAt (eqK n) ds es j) := by
 obtain ⟨h1, h2, h3⟩ := Ig h
 have l1 := v1.length
 have l2 := v2.length
 have q1 := r1.1
 have q2 := r2.1
 have z1 : its.toArray.size = ds.length := by rw [List.size_toArray]; omega
 refine ⟨by rw [List.size_toArray, List.size_toArray]; omega, by rw [z1]; exact h3, fun j j1 j2 => ?_⟩
 rw [List.size_toArray] at j1 j2
 have jx : j < xs.length := by omega
 have jy : j < ys.length := by omega
 have hx : xs[j]? = some xs[j] := by simp [jx]
 have hy : ys[j]? = some ys[j] := by simp [jy]
 have hd : ds[j]? = some (ds[j]'(by omega)) := List.getElem?_eq_getElem (by omega)
 have he : es[j]? = some (es[j]'(by omega)) := List.getElem?_eq_getElem (by omega)
 obtain ⟨u, eu, ru⟩ := v1.get hx
 obtain ⟨w, ew, rw'⟩ := v2.get hy
 have a1 : its.toArray[j] = u := by simpa [List.getElem?_eq_getElem j1] using eu
 have a2 : jts.toArray[j] = w := by simpa [List.getElem?_eq_getElem j2] using ew
 rw [a1, a2]
 exact ih (h2 j _ _ hd he) (r1.2 j _ _ hx hd) (r2.2 j _ _ hy he) ru rw'
theorem Nj {ds es : List D} {xs ys : List V} {its jts : List Value} (h : ds.length ≠ es.length) (r1 : RepL G H xs ds) (r2 : RepL G H ys es) (v1 : Vals xs its) (v2 : Vals ys jts) : (its.toArray.size != jts.toArray.size) = true := by
 have l1 := v1.length
 have l2 := v2.length
 have q1 := r1.1
 have q2 := r2.1
 rw [List.size_toArray, List.size_toArray]
 exact bne_iff_ne.mpr (by omega)
theorem KH (I : Inv X pins σ H s) (hG : G.K = X.K) : ∀ (n : Nat) (A : Around), A.units + n < cLine → ∀ {x y : D} {v w : V} {u1 u2 : Value} {b : Bool}, eqK n x y = some b → Rep G H v x → Rep G H w y → RelV v u1 → RelV w u2 → SeqAt.EqAt A s u1 u2 b := by
 have flat : ∀ {A : Around} {x y : D} {v w : V} {u1 u2 : Value} {b : Bool}, flD x y = some b → Rep G H v x → Rep G H w y → RelV v u1 → RelV w u2 → SeqAt.EqAt A s u1 u2 b := fun {A x y v w u1 u2 b} h rx ry q1 q2 => by
  unfold flD at h
  cases e1 : flV x with
  | none => simp [e1] at h
  | some u =>
   cases e2 : flV y with
   | none => simp [e1, e2] at h
   | some w =>
    simp [e1, e2] at h
    obtain ⟨z1, z2⟩ := Jq rx e1
    obtain ⟨z3, z4⟩ := Jq ry e2
    rw [← h, ← z1, ← z3]
    exact Uv q1 q2 z2 z4
 intro n
 induction n with
 | zero => intro A hu x y v w u1 u2 b h rx ry q1 q2; exact flat h rx ry q1 q2
 | succ n ih =>
  intro A hu x y v w u1 u2 b h rx ry q1 q2
  have h' := h
  have hu1 : A.in1.units + n < cLine := by show A.units + 1 + n < cLine; omega
  have hu0 : A.units < cLine := by omega
  unfold eqK eqS at h
  split at h
  ·cases rx with
   | @lst a _ _ h1 l1 r1 =>
    cases ry with
    | @lst c _ _ h2 l2 r2 =>
     obtain rfl : u1 = .ref a := q1
     obtain rfl : u2 = .ref c := q2
     obtain ⟨its, v1, p1, _⟩ := I.list (by rw [← hG]; exact h1)
     obtain ⟨jts, v2, p2, _⟩ := I.list (by rw [← hG]; exact h2)
     by_cases hac : a = c
     ·subst hac
      have := PJ I hG (n + 1) h' (.lst h1 l1 r1) (.lst h2 l2 r2)
      subst this
      exact SeqAt.EqAt.same _
     ·split at h
      ·obtain ⟨z1, z2, z3⟩ := Ep (fun q => ih A.in1 hu1 q) h ⟨l1, r1⟩ ⟨l2, r2⟩ v1 v2
       rw [z2]
       exact SeqAt.EqAt.of_refs hac (SeqAt.RcAt.lists p1.isList p2.isList z1 hu0 z3)
      ·rename_i hne
       cases h
       exact SeqAt.EqAt.of_refs hac (SeqAt.RcAt.lists_lengths p1.isList p2.isList (Nj hne ⟨l1, r1⟩ ⟨l2, r2⟩ v1 v2) hu0)
  ·cases rx with
   | @tup a _ _ h1 l1 r1 =>
    cases ry with
    | @tup c _ _ h2 l2 r2 =>
     obtain rfl : u1 = .ref a := q1
     obtain rfl : u2 = .ref c := q2
     obtain ⟨its, v1, p1, _⟩ := I.tuple (by rw [← hG]; exact h1)
     obtain ⟨jts, v2, p2, _⟩ := I.tuple (by rw [← hG]; exact h2)
     by_cases hac : a = c
     ·subst hac
      have := PJ I hG (n + 1) h' (.tup h1 l1 r1) (.tup h2 l2 r2)
      subst this
      exact SeqAt.EqAt.same _
     ·split at h
      ·obtain ⟨z1, z2, z3⟩ := Ep (fun q => ih A.in1 hu1 q) h ⟨l1, r1⟩ ⟨l2, r2⟩ v1 v2
       have q := SeqAt.RcAt.tuples (show s.heap.IsTuple a its.toArray from p1) (show s.heap.IsTuple c jts.toArray from p2) hu0 z3
       rw [z1, Nat.min_self, beq_self_eq_true, Bool.and_true, ← z1, ← z2] at q
       exact SeqAt.EqAt.of_refs hac q
      ·cases h
  ·exact flat h rx ry q1 q2
end
def rEqP (G : Gx) (neg : Bool) : R2 := fun x y H Q => ∃ (A : List Addr) (ds es : List D) (b : Bool), eqvD (.lst ds) (.lst es) = some b ∧ ((RepT G A H x (.lst ds) ∧ RepT G A H y (.lst es)) ∨ (ds.length = es.length ∧ RepT G A H x (.tup ds) ∧ RepT G A H y (.tup es))) ∧ Q (.bl (if neg then !b else b)) H
theorem aH (hG : G.K = X.K) (hu : X.A.units + 190 < cLine) : OpR X (compareOp .Eq) (rEqP G false) := by
 intro pins s σ H x y v u Q I rx ry h
 obtain ⟨A, ds, es, b, e, hr, k⟩ := h
 have fin : EP X pins σ Q (.bool b) s := ⟨.bl b, H, I, rfl, k⟩
 simp only [eqvD] at e
 rcases hr with ⟨r1, r2⟩ | ⟨hl, r1, r2⟩
 ·obtain ⟨a, xs, rfl, h1, q1⟩ := r1.lst
  obtain ⟨c, ys, rfl, h2, q2⟩ := r2.lst
  cases rx
  cases ry
  obtain ⟨its, v1, p1, _⟩ := I.list (by rw [← hG]; exact h1)
  obtain ⟨jts, v2, p2, _⟩ := I.list (by rw [← hG]; exact h2)
  split at e
  ·obtain ⟨z1, z2, z3⟩ := Ep (fun q => KH I hG 180 X.A.in1 (by show X.A.units + 1 + 180 < cLine; omega) q) e (q1.mono Al) (q2.mono Al) v1 v2
   exact SeqAt.RcAt.lists p1.isList p2.isList z1 (by omega) z3 _ _ _ _ (by rw [← z2]; exact fin)
  ·rename_i hne
   cases e
   exact SeqAt.RcAt.lists_lengths p1.isList p2.isList (Nj hne q1 q2 v1 v2) (by omega) _ _ _ _ fin
 ·obtain ⟨a, xs, rfl, h1, q1⟩ := r1.tup
  obtain ⟨c, ys, rfl, h2, q2⟩ := r2.tup
  cases rx
  cases ry
  obtain ⟨its, v1, p1, _⟩ := I.tuple (by rw [← hG]; exact h1)
  obtain ⟨jts, v2, p2, _⟩ := I.tuple (by rw [← hG]; exact h2)
  rw [if_pos hl] at e
  obtain ⟨z1, z2, z3⟩ := Ep (fun q => KH I hG 180 X.A.in1 (by show X.A.units + 1 + 180 < cLine; omega) q) e (q1.mono Al) (q2.mono Al) v1 v2
  have q := SeqAt.RcAt.tuples (show s.heap.IsTuple a its.toArray from p1) (show s.heap.IsTuple c jts.toArray from p2) (by omega) z3
  rw [z1, Nat.min_self, beq_self_eq_true, Bool.and_true, ← z1, ← z2] at q
  exact q _ _ _ _ fin
theorem aJ (hG : G.K = X.K) (hu : X.A.units + 190 < cLine) : OpR X (compareOp .NotEq) (rEqP G true) := by
 intro pins s σ H x y v u Q I rx ry h
 obtain ⟨A, ds, es, b, e, hr, k⟩ := h
 have fin : EP X pins σ Q (.bool (!b)) s := ⟨.bl (!b), H, I, rfl, k⟩
 simp only [eqvD] at e
 rcases hr with ⟨r1, r2⟩ | ⟨hl, r1, r2⟩
 ·obtain ⟨a, xs, rfl, h1, q1⟩ := r1.lst
  obtain ⟨c, ys, rfl, h2, q2⟩ := r2.lst
  cases rx
  cases ry
  obtain ⟨its, v1, p1, _⟩ := I.list (by rw [← hG]; exact h1)
  obtain ⟨jts, v2, p2, _⟩ := I.list (by rw [← hG]; exact h2)
  split at e
  ·obtain ⟨z1, z2, z3⟩ := Ep (fun q => KH I hG 180 X.A.in1 (by show X.A.units + 1 + 180 < cLine; omega) q) e (q1.mono Al) (q2.mono Al) v1 v2
   exact SeqAt.RcNeAt.lists p1.isList p2.isList z1 (by omega) z3 _ _ _ _ (by rw [← z2]; exact fin)
  ·rename_i hne
   cases e
   exact SeqAt.RcNeAt.lists_lengths p1.isList p2.isList (Nj hne q1 q2 v1 v2) (by omega) _ _ _ _ fin
 ·obtain ⟨a, xs, rfl, h1, q1⟩ := r1.tup
  obtain ⟨c, ys, rfl, h2, q2⟩ := r2.tup
  cases rx
  cases ry
  obtain ⟨its, v1, p1, _⟩ := I.tuple (by rw [← hG]; exact h1)
  obtain ⟨jts, v2, p2, _⟩ := I.tuple (by rw [← hG]; exact h2)
  rw [if_pos hl] at e
  obtain ⟨z1, z2, z3⟩ := Ep (fun q => KH I hG 180 X.A.in1 (by show X.A.units + 1 + 180 < cLine; omega) q) e (q1.mono Al) (q2.mono Al) v1 v2
  have q := SeqAt.RcNeAt.tuples (show s.heap.IsTuple a its.toArray from p1) (show s.heap.IsTuple c jts.toArray from p2) (by omega) z3
  rw [z1, Nat.min_self, beq_self_eq_true, Bool.and_true, ← z1, ← z2] at q
  exact q _ _ _ _ fin
def rEqA (G : Gx) (neg : Bool) : R2 := fun x y H Q => (fun x y H Q => scal x y = true ∧ Q (.bl (if neg then !decide (x = y) else decide (x = y))) H) x y H Q ∨ rEqP G neg x y H Q
theorem Vd (hG : G.K = X.K) (hu : X.A.units + 190 < cLine) : OpR X (compareOp .Eq) (rEqA G false) := bu.or (aH hG hu)
theorem aK (hG : G.K = X.K) (hu : X.A.units + 190 < cLine) : OpR X (compareOp .NotEq) (rEqA G true) := bw.or (aJ hG hu)
theorem Nk {α β : Type} [DecidableEq α] [DecidableEq β] {f : α → β} (h : ∀ a b, f a = f b → a = b) (a b : α) : decide (f a = f b) = decide (a = b) := by
 by_cases e : a = b
 ·subst e; simp
 ·rw [decide_eq_false e, decide_eq_false fun z => e (h a b z)]
theorem Qj (neg : Bool) : Cz G (rEqA G neg) (eqD neg) := by
 intro A H x y dx dy d Q lv rx ry h k
 unfold eqD at h
 cases e : eqvD dx dy with
 | none => simp [e] at h
 | some b =>
  simp only [e, Option.map_some] at h
  cases h
  unfold eqvD at e
  split at e
  ·cases e
   rw [rx.int, ry.int]
   refine .inl ⟨rfl, ?_⟩
   rw [Nk (f := V.int) (fun a b z => by cases z; rfl)]
   exact k _ H (Same.refl H) (.bl _)
  ·cases e
   rw [rx.str, ry.str]
   refine .inl ⟨rfl, ?_⟩
   rw [Nk (f := V.str) (fun a b z => by cases z; rfl)]
   exact k _ H (Same.refl H) (.bl _)
  ·cases e
   rw [rx.bl, ry.bl]
   refine .inl ⟨rfl, ?_⟩
   rw [Nk (f := V.bl) (fun a b z => by cases z; rfl)]
   exact k _ H (Same.refl H) (.bl _)
  ·exact .inr ⟨A, _, _, b, e, .inl ⟨rx, ry⟩, k _ H (Same.refl H) (.bl _)⟩
  ·split at e
   ·rename_i hl
    exact .inr ⟨A, _, _, b, (by simp only [eqvD]; rw [if_pos hl]; exact e), .inr ⟨hl, rx, ry⟩, k _ H (Same.refl H) (.bl _)⟩
   ·cases e
  ·cases e
def SndC (G : Gx) (r : List V → Hp → VK → Prop) (g : D → Option D) : Prop := ∀ (A : List Addr) (H : Hp) (x : V) (dx d : D) (Q : VK), (∀ a ∈ A, Nt (H a)) → RepT G A H x dx → g dx = some d → (∀ v H', Same H H' → Rep G (hid A H') v d → Q v H') → r [x] H Q
theorem Rr {g : D → Option D} {ρ : Rho} {d : D} (h : uF g fa ρ = some d) : ∃ x, fa ρ = some x ∧ g x = some d := by
 unfold uF at h
 cases e : fa ρ with
 | none => simp [e] at h
 | some x => exact ⟨x, rfl, by simpa [e] using h⟩
theorem aL {r : List V → Hp → VK → Prop} {g : D → Option D} (s : SndC G r g) {A : List Addr} {σ : St} {H : Hp} {Q : VK} (h : tF G A (uF g fa) σ H Q) : tCB r (Q_ (tT G A fa) tNil) σ H Q := by
 obtain ⟨ρ, d, o, e, k⟩ := h
 obtain ⟨x, e1, e2⟩ := Rr e
 exact ⟨ρ, x, o, e1, fun v H1 s1 r1 => s A H1 v x d Q (o.mono s1).live r1 e2 fun w H2 s2 r2 => k w H2 (s1.trans s2) r2⟩
theorem Bo {x : Str} {p : Pos} {id : String} {r : List V → Hp → VK → Prop} {g : D → Option D} (hc : D_ X (.builtin id) r) (s : SndC G r g) (hg : Gl X x) (hm : X.mg x = none) (hv : bootBuiltins x = some (.builtin id)) (ha : PU X G a fa)
  (hn : x ≠ "__name__" := by decide) (hdb : (x == ("__debug__" : Str)) = false := by decide) (he : starEach [a] X.env = [(false, eval a X.env)] := by rfl) : PF X G (.Call (.Name x p) [a] [] pos) (uF g fa) :=
 fun A => Bp (J2 hc hg hm hv (Cp (@ha A) Ft he) hn hdb he rfl) fun _ _ _ h => aL s h
theorem Xr : SndC G (fun xs H Q => ∃ x n, xs = [x] ∧ LenV G.K x H n ∧ Q (.int n) H) lenD := by
 intro A H x dx d Q lv rx h k
 unfold lenD at h
 split at h
 ·split at h
  ·rename_i hz; cases h; rw [rx.str]; exact ⟨_, _, rfl, ⟨hz, rfl⟩, k _ H (Same.refl H) (.int _)⟩
  ·cases h
 ·cases h
  obtain ⟨p, xs, rfl, h1, r⟩ := rx.lst
  exact ⟨_, _, rfl, .inl ⟨xs, h1, rfl⟩, by rw [r.1]; exact k _ H (Same.refl H) (.int _)⟩
 ·cases h
  obtain ⟨p, xs, rfl, h1, r⟩ := rx.tup
  exact ⟨_, _, rfl, .inr ⟨xs, h1, rfl⟩, by rw [r.1]; exact k _ H (Same.refl H) (.int _)⟩
 ·cases h
theorem Ce (hG : G.K = X.K) : D_ X (.builtin "len") (fun xs H Q => ∃ x n, xs = [x] ∧ LenV G.K x H n ∧ Q (.int n) H) := by rw [hG]; exact Um
end
end PV
namespace PV
open PySem PySem.Spec L2
open PyProof.Rows hiding St
def Y7 (G : Gx) (F2 H H' : Hp) (x : V) (d : D) : Prop := Same H H' ∧ ∀ B : List Addr, (∀ a ∈ B, Nt (H a)) → Same F2 (hid B H) → Rep G (hid B H') x d
theorem KJ {G : Gx} {F2 H H' : Hp} {x : V} {d : D} (h : H' = H ∧ Rep G F2 x d) : Y7 G F2 H H' x d := by
 obtain ⟨rfl, r⟩ := h
 exact ⟨Same.refl _, fun B _ sm => r.mono sm⟩
structure Src (G : Gx) (J : It) (ds : List D) (F1 F2 : Hp) : Prop where
 go : ∀ i H, Same F1 H → i < ds.length → J.go i H
 yld : ∀ i H x H' d, Same F1 H → ds[i]? = some d → J.yld i H x H' → Y7 G F2 H H' x d
 stop : ∀ i H, Same F1 H → ds.length ≤ i → J.stop i H
def tI (G : Gx) (A : List Addr) (top : Bool) (f : FI) : TI := fun σ H R => ∃ ρ ds, Okp G A σ H ρ ∧ f ρ = some ds ∧ ∀ J H1, Same H H1 → Src G J ds (if top then H1 else hid A H1) (hid A H1) → R J H1
def PFI (X : Cx) (G : Gx) (top : Bool) (tg e : Expr) (f : FI) : Prop := ∀ ⦃A⦄, PI X tg e (tI G A top f)
theorem K_ {X : Cx} {tg e : Expr} {t t' : TI} (h : PI X tg e t) (w : ∀ σ H Q, t' σ H Q → t σ H Q) : PI X tg e t' := fun pins s σ H Q I q => h pins s σ H Q I (w σ H Q q)
theorem piOr {X : Cx} {tg e : Expr} {t t' : TI} (h : PI X tg e t) (h' : PI X tg e t') : PI X tg e (fun σ H R => t σ H R ∨ t' σ H R) := fun pins s σ H Q I q => by
 rcases q with q | q
 ·exact h pins s σ H Q I q
 ·exact h' pins s σ H Q I q
section
variable {X : Cx} {G : Gx} {a b c tg : Expr} {fa fb fc : FE} {pos p2 : Pos}
theorem Xu {F1 F2 : Hp} {p : Addr} {xs : List V} {ds : List D} (h : SqT G.K F1 p xs) (r : RepL G F2 xs ds) : Src G (Itt G.K p) ds F1 F2 where
 go := fun i H s hi => ⟨xs, xs[i]'(by rw [r.1]; exact hi), Dq s h, by simp [r.1, hi]⟩
 yld := fun i H x H' d s hd y => KJ ⟨y.1, r.2 i x d (y.2 xs (Dq s h)) hd⟩
 stop := fun i H s hi => ⟨xs, Dq s h, by rw [r.1]; exact hi⟩
theorem Xv (hG : G.K = X.K) (h : PF X G a fa) : PFI X G false tg a (seqI fa) := fun A => K_ (piOr (W_ (@h A)) (Zq (@h A))) fun σ H R ⟨ρ, ds, o, e, k⟩ => by
 unfold seqI at e
 split at e
 ·rename_i ds' e1
  cases e
  refine .inl ⟨ρ, _, o, e1, fun v H1 s1 r1 => ?_⟩
  cases r1 with
  | lst h l r => exact ⟨_, rfl, ⟨_, by rw [← hG]; exact Al.seq h⟩, by rw [← hG]; exact k _ H1 s1 { go := fun i H s hi => ⟨_, _, s.seq h, by simp [l, hi]; rfl⟩, yld := fun i H x H' d s hd y => KJ ⟨y.1, r i x d (y.2 _ (s.seq h)) hd⟩, stop := fun i H s hi => ⟨_, s.seq h, by rw [l]; exact hi⟩ }⟩
 ·rename_i ds' e1
  cases e
  refine .inr ⟨ρ, _, o, e1, fun v H1 s1 r1 => ?_⟩
  cases r1 with
  | tup h l r => exact ⟨_, rfl, ⟨_, by rw [← hG]; exact Dq Al h⟩, by rw [← hG]; exact k _ H1 s1 (Xu h ⟨l, r⟩)⟩
 ·cases e
theorem Ve {n i : Nat} {d : D} (h : (rngD n)[i]? = some d) : d = .int i := by
 unfold rngD at h
 rw [List.getElem?_map] at h
 cases e : (List.range n)[i]? with
 | none => rw [e] at h; cases h
 | some j =>
  rw [e] at h
  have := (List.getElem?_eq_some_iff.mp e)
  obtain ⟨hi, ej⟩ := this
  rw [List.getElem_range] at ej
  subst ej
  exact (Option.some.inj h).symm
theorem Xw {n : Nat} {F1 F2 : Hp} : Src G (Itr 0 n) (rngD n) F1 F2 where
 go := fun i H s hi => by unfold rngD at hi; show i < n; simpa using hi
 yld := fun i H x H' d s hd y => by
  obtain ⟨y1, y2⟩ := y
  rw [Ve hd, y2, Int.zero_add]
  exact KJ ⟨y1, .int _⟩
 stop := fun i H s hi => by unfold rngD at hi; show n ≤ i; simpa using hi
theorem Xy {top : Bool} {p : Pos} (hg : Gl X "range") (hm : X.mg "range" = none) (h : PU X G a fa) (hs : starEach [a] X.env = [(false, eval a X.env)] := by rfl) : PFI X G top tg (.Call (.Name "range" p) [a] [] pos) (rngI fa) := fun A => K_ (Tg hg hm (Cp (@h A) Ft hs) hs) fun σ H R ⟨ρ, ds, o, e, k⟩ => by
 unfold rngI at e
 split at e
 ·rename_i j e1
  split at e
  ·rename_i hj
   cases e
   exact ⟨ρ, _, o, e1, fun v H1 s1 r1 => ⟨j, by rw [r1.int], hj.1, hj.2, k _ H1 s1 Xw⟩⟩
  ·cases e
 ·cases e
end
structure OkW (G : Gx) (A0 : List Addr) (He : Hp) (A : List Addr) (σ : St) (H : Hp) (ρ : Rho) : Prop where
 same : Same He H
 sub : ∀ a ∈ A0, a ∈ A
 fr : ∀ a ∈ A, a ∈ A0 ∨ He a = none
 l0 : ∀ a ∈ A0, He a ≠ none
 ok : Okp G A σ H ρ
 ow0 : ∀ (i : Nat) (d : D) (a : Addr), ρ[i]? = some (.ow d) → σ[i]? = some (some (.ref a)) → a ∉ A0
 lt : ∀ (x : Addr) (d : D), G.lent = some x → ρ[0]? = some (.ow d) → σ[0]? = some (some (.ref x))
def OkS (G : Gx) (A0 : List Addr) (He : Hp) (σ : St) (H : Hp) (ρ : Rho) : Prop := ∃ A, OkW G A0 He A σ H ρ
def KN (G : Gx) (A0 : List Addr) (He : Hp) (D : Ends) : Out → Prop
 | .nx ρ => ∀ σ H, OkS G A0 He σ H ρ → D.nx σ H
 | .rt d ρ => ∀ v σ H A, OkW G A0 He A σ H ρ → Rep G (hid A H) v d → D.rt v H
 | .bk ρ => ∀ σ H, OkS G A0 He σ H ρ → D.bk σ H
 | .ct ρ => ∀ σ H, OkS G A0 He σ H ρ → D.ct σ H
def tS (G : Gx) (A0 : List Addr) (He : Hp) (g : FS) : TS := fun D σ H => ∃ ρ o, OkS G A0 He σ H ρ ∧ g ρ = some o ∧ KN G A0 He D o
def PSD (X : Cx) (G : Gx) (st : Stmt) (g : FS) : Prop := ∀ ⦃A0⦄ He, PS X st (tS G A0 He g)
def PSDs (X : Cx) (G : Gx) (st : List Stmt) (g : FS) : Prop := ∀ ⦃A0⦄ He, PSs X st (tS G A0 He g)
theorem Okp.set {G : Gx} {A : List Addr} {σ : St} {H : Hp} {ρ : Rho} {v : V} {d : D} (o : Okp G A σ H ρ) (r : Rep G (hid A H) v d) (i : Nat) : Okp G A (σ.set i (some v)) H (ρ.set i (.fz d)) := by
 have key : ∀ (j : Nat) (z : Slot), (ρ.set i (.fz d))[j]? = some z → (j = i ∧ z = .fz d ∧ i < ρ.length) ∨ (j ≠ i ∧ ρ[j]? = some z) := fun j z h => by
  by_cases hj : j = i
  ·subst hj
   by_cases hl : j < ρ.length
   ·rw [List.getElem?_set_self hl] at h
    exact .inl ⟨rfl, (Option.some.inj h).symm, hl⟩
   ·rw [List.getElem?_eq_none (by simpa using Nat.not_lt.mp hl)] at h
    cases h
  ·rw [List.getElem?_set_ne (Ne.symm hj)] at h
   exact .inr ⟨hj, h⟩
 have keyS : ∀ (j : Nat), j ≠ i → (σ.set i (some v))[j]? = σ[j]? := fun j hj => List.getElem?_set_ne (Ne.symm hj)
 refine ⟨by rw [List.length_set, List.length_set]; exact o.len, o.live, fun j e h => ?_, fun j e h => ?_, fun j k e f p h1 h2 h3 h4 => ?_⟩
 ·rcases key j _ h with ⟨hj, hz, hl⟩ | ⟨hj, hz⟩
  ·cases hz
   subst hj
   exact ⟨v, by rw [List.getElem?_set_self (by rw [o.len]; exact hl)], r⟩
  ·obtain ⟨u, q1, q2⟩ := o.fz j e hz
   exact ⟨u, by rw [keyS j hj]; exact q1, q2⟩
 ·rcases key j _ h with ⟨hj, hz, hl⟩ | ⟨hj, hz⟩
  ·cases hz
  ·obtain ⟨u, q1, q2⟩ := o.ow j e hz
   exact ⟨u, by rw [keyS j hj]; exact q1, q2⟩
 ·rcases key j _ h1 with ⟨_, hz, _⟩ | ⟨hj, hz⟩
  ·cases hz
  ·rcases key k _ h2 with ⟨_, hz', _⟩ | ⟨hk, hz'⟩
   ·cases hz'
   ·rw [keyS j hj] at h3
    rw [keyS k hk] at h4
    exact o.inj j k e f p hz hz' h3 h4
theorem OkW.mono {G : Gx} {A0 : List Addr} {He : Hp} {A : List Addr} {σ : St} {H H' : Hp} {ρ : Rho} (o : OkW G A0 He A σ H ρ) (s : Same H H') : OkW G A0 He A σ H' ρ := ⟨o.same.trans s, o.sub, o.fr, o.l0, o.ok.mono s, o.ow0, o.lt⟩
theorem OkW.set {G : Gx} {A0 : List Addr} {He : Hp} {A : List Addr} {σ : St} {H : Hp} {ρ : Rho} {v : V} {d : D} (o : OkW G A0 He A σ H ρ) (r : Rep G (hid A H) v d) (i : Nat) : OkW G A0 He A (σ.set i (some v)) H (ρ.set i (.fz d)) := ⟨o.same, o.sub, o.fr, o.l0, o.ok.set r i, fun j e a h1 h2 => by
  have hj : j ≠ i := by
   intro z
   subst z
   by_cases hl : j < ρ.length
   ·rw [List.getElem?_set_self hl] at h1; cases h1
   ·rw [List.getElem?_eq_none (by simpa using Nat.not_lt.mp hl)] at h1; cases h1
  rw [List.getElem?_set_ne (Ne.symm hj)] at h1 h2
  exact o.ow0 j e a h1 h2, fun x e hx h0 => by
  by_cases hi : i = 0
  ·subst hi
   cases ρ with
   | nil => cases h0
   | cons a r => cases h0
  ·rw [List.getElem?_set_ne hi] at h0 ⊢
   exact o.lt x e hx h0⟩
theorem OkW.base {G : Gx} {A0 : List Addr} {He Hf : Hp} {A : List Addr} {σ : St} {H : Hp} {ρ : Rho} (o : OkW G A0 Hf A σ H ρ) (s : Same He Hf) (l0 : ∀ a ∈ A0, He a ≠ none) : OkW G A0 He A σ H ρ :=
 ⟨s.trans o.same, o.sub, fun a ha => (o.fr a ha).imp id fun z => s.free z, l0, o.ok, o.ow0, o.lt⟩
theorem OkW.here {G : Gx} {A0 : List Addr} {He : Hp} {A : List Addr} {σ : St} {H : Hp} {ρ : Rho} (o : OkW G A0 He A σ H ρ) : Same He (hid (A.filter fun a => decide (a ∉ A0)) H) ∧ OkW G A0 (hid (A.filter fun a => decide (a ∉ A0)) H) A σ H ρ := by
 have hb : ∀ b, b ∈ (A.filter fun a => decide (a ∉ A0)) ↔ b ∈ A ∧ b ∉ A0 := fun b => by simp [List.mem_filter]
 have s1 : Same He (hid (A.filter fun a => decide (a ∉ A0)) H) := fun b u h => by
  rw [Bb]
  ·exact o.same b u h
  ·intro z
   obtain ⟨z1, z2⟩ := (hb b).mp z
   rcases o.fr b z1 with q | q
   ·exact z2 q
   ·rw [q] at h; cases h
 refine ⟨s1, Al, o.sub, fun a ha => ?_, fun a ha h => ?_, o.ok, o.ow0, o.lt⟩
 ·by_cases hz : a ∈ A0
  ·exact .inl hz
  ·right
   unfold hid
   rw [if_pos ((hb a).mpr ⟨ha, hz⟩)]
 ·rw [Bb (fun z => ((hb a).mp z).2 ha)] at h
  exact (o.ok.live a (o.sub a ha)).ne h
theorem OkW.plain {G : Gx} {A0 : List Addr} {A B : List Addr} {σ : St} {H1 H : Hp} {ρ : Rho} (sub : ∀ a ∈ A0, a ∈ B) (o : OkW G A0 (hid (B.filter fun a => decide (a ∉ A0)) H1) A σ H ρ) : Same (hid B H1) (hid A H) := fun b u h => by
 unfold hid at h
 split at h
 ·cases h
 ·rename_i hb
  have e : hid (B.filter fun a => decide (a ∉ A0)) H1 b = some u := by
   rw [Bb (fun z => hb (List.mem_filter.mp z).1)]; exact h
  rw [Bb]
  ·exact o.same b u e
  ·intro z
   rcases o.fr b z with q | q
   ·exact hb (sub b q)
   ·rw [q] at e; cases e
section
variable {X : Cx} {G : Gx} {a b c tg : Expr} {fa fb fc : FE} {ga : FT} {pos p2 : Pos} {st : Stmt} {rest body : List Stmt} {g gs gb : FS}
theorem Bm : PSDs X G [] nxF := fun A0 He pins s σ H D I ⟨ρ, o, ok, e, k⟩ => by
 cases e
 exact Lr pins s σ H D I (k σ H ok)
theorem Af (h1 : PSD X G st g) (h2 : PSDs X G rest gs) : PSDs X G (st :: rest) (seqF g gs) := fun A0 He pins s σ H D I ⟨ρ, o, ok, e, k⟩ => by
 refine Fq (@h1 A0 He) (@h2 A0 He) pins s σ H D I ?_
 unfold seqF at e
 split at e
 ·rename_i ρ' e1
  exact ⟨ρ, _, ok, e1, fun σ' H' ok' => ⟨ρ', o, ok', e, k⟩⟩
 ·rename_i hno
  refine ⟨ρ, o, ok, e, ?_⟩
  cases o with
  | nx ρ' => exact absurd e (hno ρ')
  | rt d ρ' => exact k
  | bk ρ' => exact k
  | ct ρ' => exact k
theorem Ak (h1 : PSD X G st g) : PSDs X G [st] g := fun A0 He => Ja (@h1 A0 He)
theorem CP {s1 s2 : List Stmt} (ht : PFT X G c ga) (h1 : PSDs X G s1 g) (h2 : PSDs X G s2 gs) : PSD X G (.If c s1 s2 pos) (ifS ga g gs) := fun A0 He pins s σ H D I ⟨ρ, o, ⟨A, w⟩, e, k⟩ => by
 refine Ug (@ht A) (@h1 A0 He) (@h2 A0 He) pins s σ H D I ?_
 unfold ifS at e
 split at e
 ·rename_i e1
  exact ⟨ρ, _, w.ok, e1, fun H1 s1 => iteT ⟨ρ, o, ⟨A, w.mono s1⟩, e, k⟩⟩
 ·rename_i e1
  exact ⟨ρ, _, w.ok, e1, fun H1 s1 => iteF ⟨ρ, o, ⟨A, w.mono s1⟩, e, k⟩⟩
 ·cases e
theorem aM {A0 : List Addr} {He : Hp} {A : List Addr} {σ : St} {H : Hp} {ρ : Rho} {o : Out} {D : Ends} {i : Nat} (w : OkW G A0 He A σ H ρ) (e : setF i fa ρ = some o) (k : KN G A0 He D o) : tAsg (tF G A fa) (Gu i) D σ H := by
 unfold setF at e
 cases e1 : fa ρ with
 | none => simp [e1] at e
 | some d =>
  simp only [e1, Option.map_some] at e
  cases e
  exact ⟨ρ, d, w.ok, e1, fun v H1 s1 r1 => k _ _ ⟨A, (w.mono s1).set r1 i⟩⟩
theorem Xz {i : Nat} {x : Str} {p : Pos} (h : ∀ te, PE X a te → PS X (.Assign [.Name x p] a pos) (tAsg te (Gu i))) (ha : PF X G a fa) : PSD X G (.Assign [.Name x p] a pos) (setF i fa) := fun A0 He pins s σ H D I ⟨ρ, o, ⟨A, w⟩, e, k⟩ =>
 h _ (@ha A) pins s σ H D I (aM w e k)
theorem BK (ha : PF X G a fa) : PSD X G (.Return (some a) pos) (retF fa) := fun A0 He pins s σ H D I ⟨ρ, o, ⟨A, w⟩, e, k⟩ => by
 refine Zn (@ha A) pins s σ H D I ?_
 unfold retF at e
 cases e1 : fa ρ with
 | none => simp [e1] at e
 | some d =>
  simp only [e1, Option.map_some] at e
  cases e
  exact ⟨ρ, d, w.ok, e1, fun v H1 s1 r1 => k v σ H1 A (w.mono s1) r1⟩
theorem Cr (ha : PF X G a fa) (hs : swapsWith a none pos.line X.env = pure false := by rfl) : PSD X G (.Expr a pos) (DX fa) := fun A0 He pins s σ H D I ⟨ρ, o, ⟨A, w⟩, e, k⟩ => by
 refine Q3 (@ha A) hs pins s σ H D I ?_
 unfold DX at e
 cases e1 : fa ρ with
 | none => simp [e1] at e
 | some d =>
  simp only [e1, Option.map_some] at e
  cases e
  exact ⟨ρ, d, w.ok, e1, fun v H1 s1 r1 => k _ _ ⟨A, w.mono s1⟩⟩
theorem LC : PSD X G st badF := fun A0 He pins s σ H D I ⟨ρ, o, ok, e, k⟩ => by cases e
def tGD (G : Gx) (A0 : List Addr) (He : Hp) (g : FG) : TG := fun v σ H Q => ∃ A ρ d ρ', OkW G A0 He A σ H ρ ∧ Rep G (hid A H) v d ∧ g d ρ = some ρ' ∧ ∀ σ' H', OkS G A0 He σ' H' ρ' → Q σ' H'
def PGD (X : Cx) (G : Gx) (tg : Expr) (g : FG) : Prop := ∀ ⦃A0⦄ He, PG X tg (tGD G A0 He g)
theorem GD {i : Nat} (h : PG X tg (Gu i)) : PGD X G tg (Dg i) := fun A0 He pins s σ H v u Q I r ⟨A, ρ, d, ρ', w, rv, e, k⟩ => by
 cases e
 exact h pins s σ H v u Q I r (k _ _ ⟨A, w.set rv i⟩)
theorem KN.base {A0 : List Addr} {He Hf : Hp} {D : Ends} {o : Out} (k : KN G A0 He D o) (s : Same He Hf) (l0 : ∀ a ∈ A0, He a ≠ none) : KN G A0 Hf D o := by
 cases o with
 | nx ρ => exact fun σ H ⟨A, w⟩ => k σ H ⟨A, w.base s l0⟩
 | rt d ρ => exact fun v σ H A w r => k v σ H A (w.base s l0) r
 | bk ρ => exact fun σ H ⟨A, w⟩ => k σ H ⟨A, w.base s l0⟩
 | ct ρ => exact fun σ H ⟨A, w⟩ => k σ H ⟨A, w.base s l0⟩
theorem Gk {it : Expr} {src : FI} {fg : FG} (hp : PassesOwn (model X.prog X.w) X.A X.env X.xe) (hc : X.calm = true) (hi : PFI X G false tg it src) (hg : PGD X G tg fg) (hb : PSDs X G body gb)
  (hs : ∀ x, foldedSetIterable it X.env x = pure x := by intro _; rfl) : PSD X G (.For tg it body [] pos) (forS src fg gb) := fun A0 He pins s σ H D I ⟨ρ, o, ⟨A, w⟩, e, k⟩ => by
 cases e1 : src ρ with
 | none => simp [forS, e1] at e
 | some ds =>
  have e' : forF (fun d ρ => (fg d ρ).bind gb) ds ρ = some o := by
   have e2 : forF (tgB fg gb) ds ρ = some o := by simpa [forS, e1] using e
   exact e2
  have hb' : PSs X body (fun D σ H => ∃ A0 He, tS G A0 He gb D σ H) := fun pins s σ H D I ⟨A0, He, q⟩ => @hb A0 He pins s σ H D I q
  have hg' : PG X tg (fun v σ H Q => ∃ A0 He, tGD G A0 He fg v σ H Q) := fun pins s σ H v u Q I r ⟨A0, He, q⟩ => @hg A0 He pins s σ H v u Q I r q
  refine Uj hp hc (@hi A) hg' hb' hs pins s σ H D I ⟨ρ, ds, w.ok, e1, fun J H1 s1 sr => ?_⟩
  obtain ⟨sHe, w2⟩ := (w.mono s1).here
  have k2 := k.base sHe w.l0
  generalize hHf : hid (A.filter fun a => decide (a ∉ A0)) H1 = Hf at sHe w2 k2
  refine ⟨fun i m σ' H' => m = ds.length - i ∧ i ≤ ds.length ∧ ∃ ρ', OkS G A0 Hf σ' H' ρ' ∧ forF (fun d ρ => (fg d ρ).bind gb) (ds.drop i) ρ' = some o, ⟨ds.length, by simp, Nat.zero_le _, ρ, ⟨A, w2⟩, by simpa using e'⟩, ?_⟩
  rintro i m σ3 H3 ⟨rfl, hil, ρ3, ⟨B, w3⟩, e3⟩
  have pl : Same (hid A H1) (hid B H3) := by rw [← hHf] at w3; exact OkW.plain w.sub w3
  by_cases hlt : i < ds.length
  ·right
   have hd : ds[i]? = some ds[i] := by simp [hlt]
   have ed : ds.drop i = ds[i] :: ds.drop (i + 1) := List.drop_eq_getElem_cons hlt
   rw [ed] at e3
   unfold forF at e3
   refine ⟨sr.go i H3 (pl.trans Al) hlt, fun σ' H' => ∃ ρ', OkS G A0 Hf σ' H' ρ' ∧ forF (fun d ρ => (fg d ρ).bind gb) (ds.drop (i + 1)) ρ' = some o, fun σ' H' q => ⟨ds.length - (i + 1), by omega, rfl, hlt, q⟩, fun x H' y => ?_⟩
   obtain ⟨sy, rx⟩ := sr.yld i H3 x H' _ (pl.trans Al) hd y
   refine ⟨A0, Hf, B, ρ3, ds[i], ?_⟩
   cases e4 : fg ds[i] ρ3 with
   | none => simp [e4] at e3
   | some ρ4 =>
    refine ⟨ρ4, w3.mono sy, rx B w3.ok.live pl, rfl, fun σ5 H5 ok5 => ⟨A0, Hf, ρ4, ?_⟩⟩
    cases e5 : gb ρ4 with
    | none => simp [e4, e5] at e3
    | some o5 =>
     refine ⟨o5, ok5, rfl, ?_⟩
     cases o5 with
     | nx ρ5 =>
      simp only [e4, e5, Option.bind_some] at e3
      exact fun σ' H' ok' => ⟨ρ5, ok', e3⟩
     | ct ρ5 =>
      simp only [e4, e5, Option.bind_some] at e3
      exact fun σ' H' ok' => ⟨ρ5, ok', e3⟩
     | bk ρ5 =>
      simp only [e4, e5, Option.bind_some] at e3
      cases e3
      exact fun σ' H' ok' => k2 σ' H' ok'
     | rt d5 ρ5 =>
      simp only [e4, e5, Option.bind_some] at e3
      cases e3
      exact k2
  ·left
   have ei : i = ds.length := by omega
   subst ei
   rw [List.drop_length] at e3
   cases e3
   exact ⟨sr.stop _ H3 (pl.trans Al) (Nat.le_refl _), k2 σ3 H3 ⟨B, w3⟩⟩
end
def spD (G : Gx) (g : List D → Option D) : Sp := fun vs H Q _ => ∃ A ds d, (∀ a ∈ A, Nt (H a)) ∧ RepL G (hid A H) vs ds ∧ g ds = some d ∧ ∀ v H', Same H H' → Rep G (hid A H') v d → Q v H'
section
variable {X : Cx} {G : Gx} {a : Expr} {es : List Expr} {fs : FA} {pos p : Pos}
theorem cL {k : Nat} {f : Addr} {fd : FuncData} {ps : List Str} {g : List D → Option D} {x : Str} (F : FnOk X.prog X.w X.K X.mg X.base CX0 k f fd ps (spD G g)) (hr : Room k X.A) (hg : Gl X x) (hm : X.mg x = some (.ref f)) (hk : PySem.W.keepIn X.K (.ref f) = true)
  (hb : Binds X.K fd ps []) (ha : PFA X G (a :: es) fs) (hdb : (x == ("__debug__" : Str)) = false := by decide) (he : starEach (a :: es) X.env = (false, eval a X.env) :: starEach es X.env := by rfl) (hpl : (backTo pos (starEach es X.env)).any (·.1) = false := by rfl) :
  PF X G (.Call (.Name x p) (a :: es) [] pos) (BR g fs) := fun A => Bp (XJ F hr hg hm hk hb .nil U6 (@ha A) hdb he hpl) fun σ H Q ⟨ρ, d, o, e, k⟩ => by
 unfold BR at e
 cases e1 : fs ρ with
 | none => simp [e1] at e
 | some ds =>
  have e' : g ds = some d := by simpa [e1] using e
  refine ⟨ρ, ds, o, e1, fun vs H1 s1 r1 => ⟨A, ds, d, (o.mono s1).live, by rw [List.append_nil]; exact r1, e', fun v H2 s2 r2 => k v H2 (s1.trans s2) r2⟩⟩
end
theorem Hm {G : Gx} {A : List Addr} {H : Hp} {N : List Str} {vs : List V} {ds : List D} (live : ∀ a ∈ A, Nt (H a)) (r : RepL G (hid A H) vs ds) (hn : vs.length ≤ N.length) : OkS G A H (start N vs) H (CN N.length ds) := by
 have key : ∀ (i : Nat) (z : Slot), (CN N.length ds)[i]? = some z → (∃ d, z = .fz d ∧ ds[i]? = some d) ∨ z = .un := fun i z h => by
  unfold CN at h
  by_cases hi : i < ds.length
  ·rw [List.getElem?_append_left (by simpa using hi), List.getElem?_map] at h
   cases e : ds[i]? with
   | none => rw [e] at h; cases h
   | some d => rw [e] at h; exact .inl ⟨d, (Option.some.inj h).symm, rfl⟩
  ·rw [List.getElem?_append_right (by simpa using Nat.not_lt.mp hi), List.getElem?_replicate] at h
   split at h
   ·exact .inr (Option.some.inj h).symm
   ·cases h
 refine ⟨A, Same.refl H, fun _ h => h, fun a h => .inl h, fun a ha => (live a ha).ne, ⟨?_, live, fun i d h => ?_, fun i d h => ?_, fun i j d e a h _ _ _ => ?_⟩, fun i d a h _ => ?_, fun x d _ h => ?_⟩
 ·unfold L2.start CN
  rw [List.length_append, List.length_append, List.length_map, List.length_map, List.length_replicate, List.length_replicate, r.1]
 ·rcases key i _ h with ⟨d', e, hd⟩ | e
  ·cases e
   obtain ⟨v, h1, h2⟩ := r.get hd
   refine ⟨v, ?_, h2⟩
   unfold L2.start
   rw [List.getElem?_append_left (by rw [List.length_map]; exact (List.getElem?_eq_some_iff.mp h1).1), List.getElem?_map, h1]
   rfl
  ·cases e
 ·rcases key i _ h with ⟨d', e, hd⟩ | e
  ·cases e
  ·cases e
 ·rcases key i _ h with ⟨d', e, hd⟩ | e
  ·cases e
  ·cases e
 ·rcases key i _ h with ⟨d', e, hd⟩ | e
  ·cases e
  ·cases e
 ·rcases key 0 _ h with ⟨d', e, hd⟩ | e
  ·cases e
  ·cases e
theorem fn_D {P : Program} {w : World} {G : Gx} {mg : Str → Option Value} {base : Heap} {x qual : Str} {st : Stmt} {f : Addr} {fd : FuncData} {N ps : List Str} {k : Nat} {b : FS} (F : Fun G.K x qual st f fd) (S : FnScope N ps (Ab st)) (hl : ps.length ≤ N.length)
  (hb : ∀ (cdv : Value) (A : Around) (outer : List Env) (s : Shared) (H : Hp) (E : XK), Room k (A.deeper (envOfC qual (Ab st) s.heap.objs.size f cdv)) → PSDs (cxOf CX0 P w G.K mg base N qual (Ab st) f cdv A outer s H E).nox G (BV st) b) :
  FnOk P w G.K mg base CX0 (k + 1) f fd ps (spD G (runF N.length ps.length b)) := by
 refine F.ok S (fun vs H Q E h => ?_) (fun cdv A outer s H vs Q E hr h => ?_)
 ·obtain ⟨A, ds, d, lv, r, e, _⟩ := h
  unfold runF at e
  split at e
  ·rename_i hz; rw [r.1]; exact hz
  ·cases e
 ·obtain ⟨A0, ds, d, lv, r, e, k⟩ := h
  unfold runF at e
  split at e
  ·rename_i hz
   have hzz := hb cdv A outer s H E hr
   refine ⟨_, @hzz A0 H, CN N.length ds, ?_⟩
   cases e1 : b (CN N.length ds) with
   | none => simp [e1] at e
   | some o =>
    refine ⟨o, Hm lv r (by rw [r.1, hz]; exact hl), rfl, ?_⟩
    cases o with
    | nx ρ =>
     simp only [e1] at e
     cases e
     exact fun σ H' ⟨A, w⟩ => k _ H' w.same .non
    | rt d' ρ' =>
     simp only [e1] at e
     cases e
     exact fun v σ H' A w r' => k v H' w.same (r'.mono (CT w.sub))
    | bk ρ => simp [e1] at e
    | ct ρ => simp [e1] at e
  ·cases e
end PV
namespace PV
open PySem PySem.Spec L2
open PyProof.Rows hiding St
section
variable {X : Cx} {G : Gx} {a b c : Expr} {fa fb fc : FE} {pos p2 px : Pos} {scope : Scope} {t : Str} {elt iter : Expr} {ifs : List Expr} {ga : FT} {fe : FE} {src : FI}
def PFTs (X : Cx) (G : Gx) (ifs : List Expr) (f : FT) : Prop := ∀ ⦃A⦄, PTs X ifs (tFT G A f)
theorem Vf : PFTs X G [] allT := fun A pins s σ H Q I ⟨ρ, b, o, e, k⟩ => by
 cases e
 exact Xj pins s σ H Q I (k H (Same.refl H))
theorem Okp.fill {A : List Addr} {σ : St} {H Hc : Hp} {ρ : Rho} {p : Addr} (o : Okp G A σ H ρ) (s : Same H Hc) (hp : H p = none) (hc : Nt (Hc p)) : Okp G (p :: A) σ Hc ρ := by
 have sm : Same (hid A H) (hid (p :: A) Hc) := fun b u h => by
  unfold hid at h
  split at h
  ·cases h
  ·rename_i hb
   rw [Bb]
   ·exact s b u h
   ·intro z
    rcases List.mem_cons.mp z with z | z
    ·rw [z, hp] at h; cases h
    ·exact hb z
 refine ⟨o.len, fun a ha => ?_, fun i d h => ?_, fun i d h => ?_, o.inj⟩
 ·rcases List.mem_cons.mp ha with z | z
  ·rw [z]; exact hc
  ·exact (o.mono s).live a z
 ·obtain ⟨v, h1, h2⟩ := o.fz i d h
  exact ⟨v, h1, h2.mono sm⟩
 ·obtain ⟨a, h1, h2, h3⟩ := o.ow i d h
  refine ⟨a, h1, List.mem_cons_of_mem _ h2, ?_⟩
  cases d with
  | lst ds => obtain ⟨xs, q1, q2⟩ := h3; exact ⟨xs, s _ _ q1, q2.mono sm⟩
  | dk ds => obtain ⟨xs, q1, q2, q3⟩ := h3; exact ⟨xs, s _ _ q1, q2, q3.mono sm⟩
  | dt ds => obtain ⟨xs, q1, q2, q3⟩ := h3; exact ⟨xs, s _ _ q1, q2, q3.mono sm⟩
  | ob c gs => obtain ⟨C, dx, xs, q1, q2, q3⟩ := h3; exact ⟨C, dx, xs, s _ _ q1, q2, q3.mono sm⟩
  | _ => exact h3.elim
theorem Okp.snoc {A : List Addr} {σ : St} {H : Hp} {ρ : Rho} {v : V} {d : D} (o : Okp G A σ H ρ) (r : Rep G (hid A H) v d) : Okp G A (σ ++ [some v]) H (ρ ++ [.fz d]) := by
 have key : ∀ (j : Nat) (z : Slot), (ρ ++ [.fz d])[j]? = some z → (j = ρ.length ∧ z = .fz d) ∨ (j < ρ.length ∧ ρ[j]? = some z) := fun j z h => by
  by_cases hj : j < ρ.length
  ·rw [List.getElem?_append_left hj] at h; exact .inr ⟨hj, h⟩
  ·rw [List.getElem?_append_right (Nat.not_lt.mp hj)] at h
   cases q : j - ρ.length with
   | zero => rw [q] at h; exact .inl ⟨by omega, (Option.some.inj h).symm⟩
   | succ n => rw [q] at h; cases h
 have keyS : ∀ (j : Nat), j < ρ.length → (σ ++ [some v])[j]? = σ[j]? := fun j hj => List.getElem?_append_left (by rw [o.len]; exact hj)
 refine ⟨by rw [List.length_append, List.length_append, o.len]; rfl, o.live, fun j e h => ?_, fun j e h => ?_, fun j k e f p h1 h2 h3 h4 => ?_⟩
 ·rcases key j _ h with ⟨hj, hz⟩ | ⟨hj, hz⟩
  ·cases hz
   subst hj
   exact ⟨v, by rw [List.getElem?_append_right (by rw [o.len]; exact Nat.le_refl _), o.len, Nat.sub_self]; rfl, r⟩
  ·obtain ⟨u, q1, q2⟩ := o.fz j e hz
   exact ⟨u, by rw [keyS j hj]; exact q1, q2⟩
 ·rcases key j _ h with ⟨hj, hz⟩ | ⟨hj, hz⟩
  ·cases hz
  ·obtain ⟨u, q1, q2⟩ := o.ow j e hz
   exact ⟨u, by rw [keyS j hj]; exact q1, q2⟩
 ·rcases key j _ h1 with ⟨_, hz⟩ | ⟨hj, hz⟩
  ·cases hz
  ·rcases key k _ h2 with ⟨_, hz'⟩ | ⟨hk, hz'⟩
   ·cases hz'
   ·rw [keyS j hj] at h3
    rw [keyS k hk] at h4
    exact o.inj j k e f p hz hz' h3 h4
theorem X3 {A : List Addr} {σ : St} {H : Hp} {Q : VK} (h : tF G A (J8 src ga fe) σ H Q) : Y0 (tI G A true src) (fun σ H Q => ∃ A, tFT G A ga σ H Q) (fun σ H Q => ∃ A, tF G A fe σ H Q) σ H Q := by
 obtain ⟨ρ, d, o, e, k⟩ := h
 unfold J8 at e
 cases e1 : src ρ with
 | none => simp [e1] at e
 | some ds =>
  rw [e1] at e
  have e' : (if ds.length ≤ sizeLine then (EY ρ ga fe ds).map D.lst else none) = some d := e
  split at e'
  ·rename_i hz
   cases e2 : EY ρ ga fe ds with
   | none => simp [e2] at e'
   | some out =>
    simp only [e2, Option.map_some] at e'
    cases e'
    refine ⟨ρ, ds, o, e1, fun J H1 s1 sr p hp => ?_⟩
    have o1 := o.mono s1
    have npA : p ∉ A := fun z => (o1.live p z).ne hp
    refine ⟨fun i m ys Hc => m = ds.length - i ∧ i ≤ ds.length ∧ Hc p = some (.lst ys) ∧ Same H1 Hc ∧ ys.length ≤ i ∧ ∃ es rest, RepL G (hid (p :: A) Hc) ys es ∧ EY ρ ga fe (ds.drop i) = some rest ∧ es ++ rest = out,
     ⟨ds.length, by simp, Nat.zero_le _, Ae, BJ hp _, Nat.le_refl _, [], out, RepL.nil, by simpa using e2, rfl⟩, ?_⟩
    rintro i m ys Hc ⟨rfl, hil, hpc, sc, hy, es, rest, rr, er, eo⟩
    by_cases hlt : i < ds.length
    ·right
     have hd : ds[i]? = some ds[i] := by simp [hlt]
     have ed : ds.drop i = ds[i] :: ds.drop (i + 1) := List.drop_eq_getElem_cons hlt
     rw [ed] at er
     unfold EY at er
     refine ⟨sr.go i Hc sc hlt, fun x H' y => ?_⟩
     obtain ⟨sy, rx⟩ := sr.yld i Hc x H' _ sc hd y
     have okc : Okp G (p :: A) σ Hc ρ := o1.fill sc hp (by rw [hpc]; exact Nt.lst)
     have sm : Same (hid A H1) (hid (p :: A) Hc) := fun b u h => by
      unfold hid at h
      split at h
      ·cases h
      ·rename_i hb
       rw [Bb]
       ·exact sc b u h
       ·intro z
        rcases List.mem_cons.mp z with z | z
        ·rw [z, hp] at h; cases h
        ·exact hb z
     have ok2 := (okc.mono sy).snoc (rx _ okc.live sm)
     have hpc := sy _ _ hpc
     have rr := rr.mono (Aw sy)
     have sc := sc.trans sy
     cases eg : ga (ρ ++ [.fz ds[i]]) with
     | none => simp [eg] at er
     | some b =>
      refine ⟨p :: A, _, b, ok2, eg, fun H2 s2 => ?_⟩
      cases b with
      | false =>
       refine iteF ⟨ds.length - (i + 1), by omega, rfl, hlt, s2 _ _ hpc, sc.trans s2, Nat.le_succ_of_le hy, es, rest, rr.mono (Aw s2), by simpa [eg] using er, eo⟩
      | true =>
       simp only [eg] at er
       cases ee : fe (ρ ++ [.fz ds[i]]) with
       | none => simp [ee] at er
       | some yd =>
        cases ec : EY ρ ga fe (ds.drop (i + 1)) with
        | none => simp [ee, ec] at er
        | some rest' =>
         simp only [ee, ec, Option.bind_some, Option.map_some] at er
         cases er
         refine iteT ⟨p :: A, _, yd, ok2.mono s2, ee, fun yv H3 s3 r3 => ?_⟩
         have hp3 := s3 _ _ (s2 _ _ hpc)
         refine ⟨hp3, by omega, ds.length - (i + 1), by omega, rfl, hlt, Ae, fun b u q => ?_, by rw [List.length_append]; simp; omega, es ++ [yd], rest', ?_, ec, by rw [List.append_assoc]; exact eo⟩
         ·have hb : b ≠ p := An q hp
          rw [Ad hb]
          exact s3 _ _ (s2 _ _ (sc _ _ q))
         ·rw [Ca List.mem_cons_self]
          exact (rr.mono (Aw (s2.trans s3))).append (.cons r3 .nil)
    ·left
     have ei : i = ds.length := by omega
     subst ei
     rw [List.drop_length] at er
     simp only [EY] at er
     cases er
     rw [List.append_nil] at eo
     subst eo
     refine ⟨sr.stop _ Hc sc (Nat.le_refl _), k _ Hc (s1.trans sc) ?_⟩
     have q := rr.mono (CT (A := A) fun a ha => List.mem_cons_of_mem _ ha)
     exact .lst (.of (by rw [Bb npA]; exact hpc)) q.1 q.2
  ·cases e'
theorem X4 (N' : List Str) (eN : DY t X.N ++ [t] = N') (c : CompOk X scope t) (hc : X.calm = true) (hi : PFI X G true (.Name t px) iter src) (hI : ∀ s2 H2 fp, PFTs { FN X scope t s2 H2 fp with N := N' } G ifs ga) (hE : ∀ s2 H2 fp, PF { FN X scope t s2 H2 fp with N := N' } G elt fe)
  (hs : ∀ x, foldedSetIterable iter X.env x = pure x := by intro _; rfl) : PF X G (.ListComp elt [⟨.Name t px, iter, ifs, 0⟩] scope pos) (J8 src ga fe) := by
 subst eN
 intro A
 refine Bp (Xk (tc := fun σ H Q => ∃ A, tFT G A ga σ H Q) (te := fun σ H Q => ∃ A, tF G A fe σ H Q) c hc (@hi A) (fun s2 H2 fp => ?_) (fun s2 H2 fp => ?_) hs) fun _ _ _ h => X3 h
 ·exact fun pins s σ H Q I ⟨A, q⟩ => hI s2 H2 fp pins s σ H Q I q
 ·exact fun pins s σ H Q I ⟨A, q⟩ => hE s2 H2 fp pins s σ H Q I q
end
end PV
namespace PV
open PySem PySem.Spec L2
open PyProof.Rows hiding St
section
variable {prog : Program} {w : World} {A : Around} {R : Result → Shared → Prop} {I : Addr} {fp wr : List Addr} {n : Nat} {P : Nat → Value → Prop} {Sx : Nat → Heap → Prop} {kw : List (Str × Value)}
end
section
variable {prog : Program} {w : World} {A : Around} {E : Value → Shared → Prop} {s : Shared} {l : Addr} {xs : Array (Int × Tok)}
end
section
variable {X : Cx} {G : Gx} {a b : Expr} {fa fb : FE} {pos p kpos : Pos}
theorem KQ {H : Hp} : ∀ {ds : List D} {xs : List V} {ns : List Str}, RepL G H xs ds → Fj ds = some ns → xs = ns.map V.str
 | [], xs, ns, r, h => by cases h; rw [r.nil_inv]; rfl
 | d :: ds, xs, ns, r, h => by
  obtain ⟨x, ys, rfl, r1, r2⟩ := r.uncons
  cases d with
  | str i =>
   simp only [Fj] at h
   cases e : Fj ds with
   | none => simp [e] at h
   | some ms =>
    simp only [e, Option.map_some] at h
    cases h
    cases r1
    rw [KQ r2 e]
    rfl
  | _ => simp [Fj] at h
end
end PV
namespace PV
open PySem PySem.Spec L2
open PyProof.Rows hiding St
theorem GF : bootBuiltins "len" = some (.builtin "len") := by decide +kernel
theorem DQ : bootBuiltins "isinstance" = some (.builtin "isinstance") := by decide +kernel
theorem Gm : bootBuiltins "sorted" = some (.builtin "sorted") := by decide +kernel
def Np (N : List Str) (sc scope : Scope) (t : Str) : Bool :=
 scope.names.all (fun y => y.2 != .cell) && scope.kind == .function && scope.names.all (fun y => y.2 != .local || scope.names.lookup y.1 == some .local) && scope.names.lookup t == some .local
  && scope.names.all (fun y => y.2 != .local || y.1 == t || !N.contains y.1) && scope.names.all (fun y => y.2 != .free || sc.names.lookup y.1 == some .cell || sc.names.lookup y.1 == some .free) && scope.names.all (fun y => y.1 != Str.empty) && decide (DY t N ++ [t]).Nodup
theorem T3 {X : Cx} {N : List Str} {sc scope : Scope} {t : Str} (hN : X.N = N) (hs : X.env.scope = sc) (h : Np N sc scope t = true) : CompOk X scope t := by
 unfold Np at h
 simp only [Bool.and_eq_true, List.all_eq_true, decide_eq_true_eq, beq_iff_eq, bne_iff_ne, Bool.or_eq_true, ne_eq] at h
 obtain ⟨⟨⟨⟨⟨⟨⟨h1, h2⟩, h3⟩, h4⟩, h5⟩, h6⟩, h7⟩, h8⟩ := h
 refine ⟨h1, h2, fun y hy e => ?_, h4, fun y hy e => ?_, fun y hy e => ?_, h7, by rw [hN]; exact h8⟩
 ·rcases h3 y hy with z | z
  ·exact absurd e z
  ·exact z
 ·rcases h5 y hy with (z | z) | z
  ·exact absurd e z
  ·exact .inl z
  ·right
   rw [hN]
   simpa using z
 ·have hk : ∀ x, X.env.kindOf x = sc.names.lookup x := fun x => by rw [← hs]; rfl
  rw [hk]
  rcases h6 y hy with (z | z) | z
  ·exact absurd e z
  ·exact .inl z
  ·exact .inr z
theorem LK {G : Gx} {a : Addr} {od : Option Addr} {n : Nat} {sl : Array (Option Value)} {its : Array Value} {xs : List Str} (h : G.K.lookup a = some ⟨.type "tuple", od, .seq its n, sl⟩) (hz : its.size ≤ sizeLine) (r : Vals (xs.map V.str) its.toList) : Rep G (fun _ => none) (.ref a) (.tup (xs.map .str)) := by
 refine .tup (xs := xs.map V.str) (.inr ⟨_, its, n, h, rfl, rfl, hz, r⟩) (by simp) fun i x d h1 h2 => ?_
 rw [List.getElem?_map] at h1 h2
 cases e : xs[i]? with
 | none => rw [e] at h1; cases h1
 | some z => rw [e] at h1 h2; cases h1; cases h2; exact .str z
end PV
namespace PySem
end PySem
namespace PV
open PySem PySem.Spec L2
open PyProof.Rows hiding St
section
variable {X : Cx} {G : Gx} {a b c : Expr} {fa fb fc : FE} {pos p2 px : Pos} {es : List Expr} {fs : FA}
def tN (G : Gx) (A : List Addr) (f : FE) : TE := fun σ H Q => ∃ ρ d, Okp G A σ H ρ ∧ f ρ = some d ∧ ∀ p H', Same H H' → H p = none → Top G (p :: A) H' p d → Q (.ref p) H'
def PN (X : Cx) (G : Gx) (e : Expr) (f : FE) : Prop := ∀ ⦃A⦄, PE X e (tN G A f)
theorem Ih {A : List Addr} {H H' : Hp} {p : Addr} (s : Same H H') (hp : H p = none) : Same (hid A H) (hid (p :: A) H') := fun b u h => by
 unfold hid at h
 split at h
 ·cases h
 ·rename_i hb
  rw [Bb]
  ·exact s b u h
  ·intro z
   rcases List.mem_cons.mp z with z | z
   ·rw [z, hp] at h; cases h
   ·exact hb z
theorem Top.fill {A : List Addr} {H H' : Hp} {p q : Addr} {d : D} (t : Top G A H q d) (s : Same H H') (hp : H p = none) : Top G (p :: A) H' q d := by
 have sm := Ih (A := A) s hp
 cases d with
 | lst ds => obtain ⟨xs, q1, q2⟩ := t; exact ⟨xs, s _ _ q1, q2.mono sm⟩
 | dk ds => obtain ⟨xs, q1, q2, q3⟩ := t; exact ⟨xs, s _ _ q1, q2, q3.mono sm⟩
 | dt ds => obtain ⟨xs, q1, q2, q3⟩ := t; exact ⟨xs, s _ _ q1, q2, q3.mono sm⟩
 | ob c gs => obtain ⟨C, dx, xs, q1, q2, q3⟩ := t; exact ⟨C, dx, xs, s _ _ q1, q2, q3.mono sm⟩
 | _ => exact t.elim
theorem Top.live {A : List Addr} {H : Hp} {q : Addr} {d : D} (t : Top G A H q d) : Nt (H q) := by
 cases d with
 | lst ds => obtain ⟨xs, q1, q2⟩ := t; rw [q1]; exact Nt.lst
 | dk ds => obtain ⟨xs, q1, q2, q3⟩ := t; rw [q1]; exact Nt.dK
 | dt ds => obtain ⟨xs, q1, q2, q3⟩ := t; rw [q1]; exact Nt.dT
 | ob c gs => obtain ⟨C, dx, xs, q1, q2, q3⟩ := t; rw [q1]; exact Nt.ins
 | _ => exact t.elim
theorem Bf {α : Type} {l : List α} {i j : Nat} {x z : α} (h : (l.set i x)[j]? = some z) : (j = i ∧ z = x ∧ i < l.length) ∨ (j ≠ i ∧ l[j]? = some z) := by
 by_cases hj : j = i
 ·subst hj
  by_cases hl : j < l.length
  ·rw [List.getElem?_set_self hl] at h
   exact .inl ⟨rfl, (Option.some.inj h).symm, hl⟩
  ·rw [List.getElem?_eq_none (by simpa using Nat.not_lt.mp hl)] at h
   cases h
 ·rw [List.getElem?_set_ne (Ne.symm hj)] at h
  exact .inr ⟨hj, h⟩
theorem OkW.setW {A0 : List Addr} {He : Hp} {A : List Addr} {σ : St} {H H' : Hp} {ρ : Rho} {p : Addr} {d : D} (w : OkW G A0 He A σ H ρ) (s : Same H H') (hp : H p = none) (t : Top G (p :: A) H' p d) (i : Nat) (hi0 : i ≠ 0) : OkW G A0 He (p :: A) (σ.set i (some (.ref p))) H' (ρ.set i (.ow d)) := by
 have hf := w.ok.fill (Hc := H') s hp t.live
 have hep : He p = none := w.same.free hp
 have npA : p ∉ A := fun z => (w.ok.live p z).ne hp
 refine ⟨w.same.trans s, fun a ha => List.mem_cons_of_mem _ (w.sub a ha), fun a ha => ?_, w.l0, ⟨by rw [List.length_set, List.length_set]; exact hf.len, hf.live, fun j e h => ?_, fun j e h => ?_, fun j k e f q h1 h2 h3 h4 => ?_⟩, fun j e q h1 h2 => ?_, fun x e hx h0 => by rw [List.getElem?_set_ne hi0] at h0 ⊢; exact w.lt x e hx h0⟩
 ·rcases List.mem_cons.mp ha with z | z
  ·rw [z]; exact .inr hep
  ·exact w.fr a z
 ·rcases Bf h with ⟨_, hz, _⟩ | ⟨hj, hz⟩
  ·cases hz
  ·obtain ⟨v, q1, q2⟩ := hf.fz j e hz
   exact ⟨v, by rw [List.getElem?_set_ne (Ne.symm hj)]; exact q1, q2⟩
 ·rcases Bf h with ⟨hj, hz, hl⟩ | ⟨hj, hz⟩
  ·cases hz
   subst hj
   exact ⟨p, by rw [List.getElem?_set_self (by rw [w.ok.len]; exact hl)], List.mem_cons_self, t⟩
  ·obtain ⟨v, q1, q2, q3⟩ := hf.ow j e hz
   exact ⟨v, by rw [List.getElem?_set_ne (Ne.symm hj)]; exact q1, q2, q3⟩
 ·have no : ∀ (m : Nat) (g : D), ρ[m]? = some (.ow g) → σ[m]? = some (some (.ref q)) → q ≠ p := fun m g a1 a2 z => by
   obtain ⟨v, b1, b2, _⟩ := w.ok.ow m g a1
   rw [a2] at b1
   cases b1
   exact npA (z ▸ b2)
  rcases Bf h1 with ⟨hj, _, hl⟩ | ⟨hj, hz⟩
  ·rcases Bf h2 with ⟨hk, _, _⟩ | ⟨hk, hz'⟩
   ·rw [hj, hk]
   ·exfalso
    subst hj
    rw [List.getElem?_set_self (by rw [w.ok.len]; exact hl)] at h3
    cases h3
    rw [List.getElem?_set_ne (Ne.symm hk)] at h4
    exact no k f hz' h4 rfl
  ·rcases Bf h2 with ⟨hk, _, hl⟩ | ⟨hk, hz'⟩
   ·exfalso
    subst hk
    rw [List.getElem?_set_self (by rw [w.ok.len]; exact hl)] at h4
    cases h4
    rw [List.getElem?_set_ne (Ne.symm hj)] at h3
    exact no j e hz h3 rfl
   ·rw [List.getElem?_set_ne (Ne.symm hj)] at h3
    rw [List.getElem?_set_ne (Ne.symm hk)] at h4
    exact w.ok.inj j k e f q hz hz' h3 h4
 ·rcases Bf h1 with ⟨hj, _, hl⟩ | ⟨hj, hz⟩
  ·subst hj
   rw [List.getElem?_set_self (by rw [w.ok.len]; exact hl)] at h2
   cases h2
   exact fun z => w.l0 p z hep
  ·rw [List.getElem?_set_ne (Ne.symm hj)] at h2
   exact w.ow0 j e q hz h2
theorem X5 {A0 : List Addr} {He : Hp} {A : List Addr} {σ : St} {H : Hp} {ρ : Rho} {o : Out} {D : Ends} {i : Nat} (hi0 : i ≠ 0) (w : OkW G A0 He A σ H ρ) (e : setW i fa ρ = some o) (k : KN G A0 He D o) : tAsg (tN G A fa) (Gu i) D σ H := by
 unfold setW at e
 cases e1 : fa ρ with
 | none => simp [e1] at e
 | some d =>
  simp only [e1, Option.map_some] at e
  cases e
  exact ⟨ρ, d, w.ok, e1, fun p H1 s1 hp t => k _ _ ⟨p :: A, w.setW s1 hp t i hi0⟩⟩
theorem Vg {i : Nat} {x : Str} {p : Pos} (h : ∀ te, PE X a te → PS X (.Assign [.Name x p] a pos) (tAsg te (Gu i))) (ha : PN X G a fa) (hi0 : i ≠ 0 := by decide) : PSD X G (.Assign [.Name x p] a pos) (setW i fa) := fun A0 He pins s σ H D I ⟨ρ, o, ⟨A, w⟩, e, k⟩ =>
 h _ (@ha A) pins s σ H D I (X5 hi0 w e k)
theorem OkW.wr {A0 : List Addr} {He : Hp} {A : List Addr} {σ : St} {H : Hp} {ρ : Rho} {i : Nat} {d0 d : D} {p : Addr} {o : HO} (w : OkW G A0 He A σ H ρ) (hi : ρ[i]? = some (.ow d0)) (hs : σ[i]? = some (some (.ref p))) (t : Top G A (upd H p o) p d) : OkW G A0 He A σ (upd H p o) (ρ.set i (.ow d)) := by
 obtain ⟨q, h1, hA, _⟩ := w.ok.ow i d0 hi
 rw [hs] at h1
 cases h1
 have hep : He p = none := by
  rcases w.fr p hA with z | z
  ·exact absurd z (w.ow0 i d0 p hi hs)
  ·exact z
 have eh : hid A (upd H p o) = hid A H := Ca hA
 refine ⟨fun b u h => by rw [Ad (An h hep)]; exact w.same b u h, w.sub, w.fr, w.l0, ⟨by rw [List.length_set]; exact w.ok.len, fun b hb => ?_, fun j e h => ?_, fun j e h => ?_, fun j k e f q g1 g2 g3 g4 => ?_⟩, fun j e q g1 g2 => ?_, fun x e hx h0 => ?_⟩
 ·by_cases z : b = p
  ·rw [z]; exact t.live
  ·rw [Ad z]; exact w.ok.live b hb
 ·rcases Bf h with ⟨_, hz, _⟩ | ⟨hj, hz⟩
  ·cases hz
  ·rw [eh]; exact w.ok.fz j e hz
 ·rcases Bf h with ⟨hj, hz, hl⟩ | ⟨hj, hz⟩
  ·cases hz
   subst hj
   exact ⟨p, hs, hA, t⟩
  ·obtain ⟨q, q1, q2, q3⟩ := w.ok.ow j e hz
   have nq : q ≠ p := fun z => hj (w.ok.inj j i e d0 p hz hi (z ▸ q1) hs)
   refine ⟨q, q1, q2, ?_⟩
   cases e with
   | lst ds => obtain ⟨xs, a1, a2⟩ := q3; exact ⟨xs, by rw [Ad nq]; exact a1, by rw [eh]; exact a2⟩
   | dk ds => obtain ⟨xs, a1, a2, a3⟩ := q3; exact ⟨xs, by rw [Ad nq]; exact a1, a2, by rw [eh]; exact a3⟩
   | dt ds => obtain ⟨xs, a1, a2, a3⟩ := q3; exact ⟨xs, by rw [Ad nq]; exact a1, a2, by rw [eh]; exact a3⟩
   | ob c gs => obtain ⟨C, dx, xs, a1, a2, a3⟩ := q3; exact ⟨C, dx, xs, by rw [Ad nq]; exact a1, a2, by rw [eh]; exact a3⟩
   | _ => exact q3.elim
 ·have up : ∀ (m : Nat) (g : D), (ρ.set i (.ow d))[m]? = some (.ow g) → ∃ g', ρ[m]? = some (.ow g') := fun m g z => by
   rcases Bf z with ⟨hm, _, _⟩ | ⟨_, hz⟩
   ·exact ⟨d0, by rw [hm]; exact hi⟩
   ·exact ⟨g, hz⟩
  obtain ⟨e', z1⟩ := up j e g1
  obtain ⟨f', z2⟩ := up k f g2
  exact w.ok.inj j k e' f' q z1 z2 g3 g4
 ·rcases Bf g1 with ⟨hj, _, _⟩ | ⟨hj, hz⟩
  ·subst hj
   exact w.ow0 j d0 q hi g2
  ·exact w.ow0 j e q hz g2
 ·rcases Bf h0 with ⟨hj, _, _⟩ | ⟨_, hz⟩
  ·exact w.lt x d0 hx (by rw [hj]; exact hi)
  ·exact w.lt x e hx hz
theorem LQ {ρ : Rho} {i : Nat} {d : D} (h : ownO ρ i = some d) : ρ[i]? = some (.ow d) := by
 unfold ownO at h
 split at h
 ·rename_i e; cases h; exact e
 ·cases h
theorem Inv.frzK {pins : List (Addr × Obj)} {σ : St} {H : Hp} {s : Shared} {p : Addr} {kvs : List (Key × V)} (I : Inv X pins σ H s) (e : H p = some (.dK kvs)) : ∃ o, Inv X pins σ (upd H p (.frz o (.dK kvs))) s := by
 obtain ⟨z, hd, vs, rel, dd⟩ := Ux I.hok e
 obtain ⟨o, es, ep, ho, h2⟩ := id dd
 exact ⟨o, Ha (h' := s.heap) (t' := s.toks) I (by rw [e]; exact True.intro) ⟨rfl, fun _ _ => rfl⟩ ⟨o, ho⟩ ⟨ho, z, hd, vs, rel, dd⟩⟩
theorem Inv.frzT {pins : List (Addr × Obj)} {σ : St} {H : Hp} {s : Shared} {p : Addr} {kvs : List (List Key × V)} (I : Inv X pins σ H s) (e : H p = some (.dT kvs)) : ∃ o, Inv X pins σ (upd H p (.frz o (.dT kvs))) s := by
 obtain ⟨z, hd, vs, rel, o, es, ep, ho, h3, h4, h5, h6⟩ := I.hok p _ e
 refine ⟨o, Ha (h' := s.heap) (t' := s.toks) I (by rw [e]; exact True.intro) ⟨rfl, fun _ _ => rfl⟩ ⟨o, ho⟩ ⟨ho, z, hd, vs, KT.keeps rel fun c ys ec => ?_, o, es, ep, ho, h3, h4, h5, h6⟩⟩
 rw [Ad (Yr ec e (fun z => nomatch z))]
 exact ec
theorem OkW.frzC {A0 : List Addr} {He : Hp} {A : List Addr} {σ : St} {H H' : Hp} {ρ : Rho} {i : Nat} {d : D} {p : Addr} (w : OkW G A0 He A σ H ρ) (hi : ρ[i]? = some (.ow d)) (h1 : σ[i]? = some (some (.ref p))) (hA : p ∈ A) (hh : ∀ b, b ≠ p → H' b = H b)
  (rp : Same (hid A H) (hid (A.filter fun b => decide (b ≠ p)) H') → hid (A.filter fun b => decide (b ≠ p)) H' p = H' p → Rep G (hid (A.filter fun b => decide (b ≠ p)) H') (.ref p) d) : OkS G A0 He σ H' (ρ.set i (.fz d)) := by
 have hn := w.ow0 i d p hi h1
 have hmem : ∀ b, b ∈ A.filter (fun b => decide (b ≠ p)) ↔ b ∈ A ∧ b ≠ p := fun b => by simp [List.mem_filter]
 have sm : Same (hid A H) (hid (A.filter fun b => decide (b ≠ p)) H') := fun b o h => by
  unfold hid at h ⊢
  split at h
  ·cases h
  ·rename_i hb
   have hbp : b ≠ p := fun z => hb (z ▸ hA)
   rw [if_neg (fun z => hb ((hmem b).mp z).1), hh b hbp]
   exact h
 have rp := rp sm (Bb fun z => ((hmem p).mp z).2 rfl)
 have hep : He p = none := (w.fr p hA).resolve_left hn
 refine ⟨A.filter fun b => decide (b ≠ p), fun b o h => ?_, fun b hb => (hmem b).mpr ⟨w.sub b hb, fun z => hn (z ▸ hb)⟩, fun b hb => w.fr b ((hmem b).mp hb).1, w.l0, ⟨by rw [List.length_set]; exact w.ok.len, fun b hb => ?_, fun j e h => ?_, fun j e h => ?_, fun j k e f q g1 g2 g3 g4 => ?_⟩, fun j e q g1 g2 => ?_, fun x e hx h0 => ?_⟩
 ·have hbp : b ≠ p := fun z => by rw [z, hep] at h; cases h
  rw [hh b hbp]
  exact w.same b o h
 ·obtain ⟨z1, z2⟩ := (hmem b).mp hb
  rw [hh b z2]
  exact w.ok.live b z1
 ·rcases Bf h with ⟨hj, hz, _⟩ | ⟨hj, hz⟩
  ·cases hz; subst hj; exact ⟨_, h1, rp⟩
  ·obtain ⟨v, q1, q2⟩ := w.ok.fz j e hz
   exact ⟨v, q1, q2.mono sm⟩
 ·rcases Bf h with ⟨_, hz, _⟩ | ⟨hj, hz⟩
  ·cases hz
  ·obtain ⟨q, q1, q2, q3⟩ := w.ok.ow j e hz
   have nq : q ≠ p := fun z => hj (w.ok.inj j i e d p hz hi (z ▸ q1) h1)
   refine ⟨q, q1, (hmem q).mpr ⟨q2, nq⟩, ?_⟩
   cases e with
   | lst ds => obtain ⟨xs, a1, a2⟩ := q3; exact ⟨xs, by rw [hh q nq]; exact a1, a2.mono sm⟩
   | dk ds => obtain ⟨xs, a1, a2, a3⟩ := q3; exact ⟨xs, by rw [hh q nq]; exact a1, a2, a3.mono sm⟩
   | dt ds => obtain ⟨xs, a1, a2, a3⟩ := q3; exact ⟨xs, by rw [hh q nq]; exact a1, a2, a3.mono sm⟩
   | ob c gs => obtain ⟨C, dx, xs, a1, a2, a3⟩ := q3; exact ⟨C, dx, xs, by rw [hh q nq]; exact a1, a2, a3.mono sm⟩
   | _ => exact q3.elim
 ·rcases Bf g1 with ⟨_, hz, _⟩ | ⟨_, z1⟩
  ·cases hz
  ·rcases Bf g2 with ⟨_, hz, _⟩ | ⟨_, z2⟩
   ·cases hz
   ·exact w.ok.inj j k e f q z1 z2 g3 g4
 ·rcases Bf g1 with ⟨_, hz, _⟩ | ⟨_, z1⟩
  ·cases hz
  ·exact w.ow0 j e q z1 g2
 ·rcases Bf h0 with ⟨_, hz, _⟩ | ⟨_, z1⟩
  ·cases hz
  ·exact w.lt x e hx z1
theorem OkS.frz {pins : List (Addr × Obj)} {s : Shared} {A0 : List Addr} {He : Hp} {σ : St} {H : Hp} {ρ : Rho} (I : Inv X pins σ H s) (w : OkS G A0 He σ H ρ) (i : Nat) : ∃ H', Inv X pins σ H' s ∧ OkS G A0 He σ H' (frz1 ρ i) := by
 unfold frz1
 split
 ·rename_i d hi
  obtain ⟨A, w⟩ := w
  obtain ⟨p, h1, hA, t⟩ := w.ok.ow i d hi
  cases d with
  | lst ds =>
   obtain ⟨xs, a1, a2⟩ := t
   exact ⟨H, I, w.frzC hi h1 hA (fun _ _ => rfl) fun sm hp => .lst (.of (by rw [hp]; exact a1)) (a2.mono sm).1 (a2.mono sm).2⟩
  | dk ds =>
   obtain ⟨xs, a1, a2, a3⟩ := t
   obtain ⟨o, I'⟩ := Inv.frzK I a1
   exact ⟨_, I', w.frzC hi h1 hA (fun b hb => Ad hb) fun sm hp => .dk (by rw [hp]; exact Ae) a2 (a3.mono sm).2⟩
  | dt ds =>
   obtain ⟨xs, a1, a2, a3⟩ := t
   obtain ⟨o, I'⟩ := Inv.frzT I a1
   exact ⟨_, I', w.frzC hi h1 hA (fun b hb => Ad hb) fun sm hp => .dt (by rw [hp]; exact Ae) a2 (a3.mono sm).2⟩
  | ob c gs =>
   obtain ⟨C, dx, xs, a1, a2, a3⟩ := t
   exact ⟨H, I, w.frzC hi h1 hA (fun _ _ => rfl) fun sm hp => .ob a2.1 (by rw [hp]; exact a1) a2.2 (a3.mono sm).2⟩
  | _ => exact t.elim
 ·exact ⟨H, I, w⟩
theorem Rt {pins : List (Addr × Obj)} {s : Shared} {A0 : List Addr} {He : Hp} {σ : St} : ∀ (is : List Nat) {H : Hp} {ρ : Rho}, Inv X pins σ H s → OkS G A0 He σ H ρ → ∃ H', Inv X pins σ H' s ∧ OkS G A0 He σ H' (is.foldl frz1 ρ)
 | [], H, _, I, w => ⟨H, I, w⟩
 | i :: r, _, _, I, w => let ⟨_, I1, w1⟩ := w.frz I i; Rt r I1 w1
theorem Qk {st : Stmt} {g : FS} (is : List Nat) (h : PSD X G st g) : PSD X G st (fzS is g) := fun A0 He pins s σ H D I ⟨ρ, o, ok, e, k⟩ =>
 let ⟨H', I', ok'⟩ := Rt is I ok
 @h A0 He pins s σ H' D I' ⟨is.foldl frz1 ρ, o, ok', e, k⟩
end
section
variable {X : Cx} {G : Gx} {a b c : Expr} {fa fb fc : FE} {pos p2 px : Pos} {scope : Scope} {t : Str} {elt iter : Expr} {ifs : List Expr} {ga : FT} {fe : FE} {src : FI}
end
end PV
namespace PV
open PySem PySem.Spec
section
variable {prog : Program} {w : World} {A : Around} {E : Value → Shared → Prop} {s : Shared}
def btx (w : World) : Bool := w.params.followText "set-order"
def keyOf (e : Int × Value) : Str := match e.2 with | .str k _ => k | _ => Str.empty
def EntS (w : World) (e : Int × Value) (k : Str) : Prop := e.1 = hashStr w k ∧ ∃ t, e.2 = .str k t
structure FX (w : World) (es : Array (Int × Value)) (t : SetTable) (ks : List Str) : Prop where
 ent : ∀ e ∈ es.toList, EntS w e (keyOf e)
 perm : (es.toList.map keyOf).Perm ks
 nd : ks.Nodup
 sz : es.size < scanBound
 fits : t.fits es.size = true
 led : btx w = false → t.led = true
 plain : es.size ≠ 0 → t.plain = false
def ObX (h : Heap) (a : Addr) (es : Array (Int × Value)) (t : SetTable) : Prop := ∃ o ep, h.get? a = some o ∧ o.ExactSet ∧ o.data = .set es ep t
def SetX (w : World) (h : Heap) (a : Addr) (ks : List Str) : Prop := ∃ es t, ObX h a es t ∧ FX w es t ks
theorem SetX.keep {h h' : Heap} {a : Addr} {ks : List Str} (x : SetX w h a ks) (e : ∀ o, h.get? a = some o → h'.get? a = some o) : SetX w h' a ks := by
 obtain ⟨es, t, ⟨o, ep, g, q⟩, f⟩ := x
 exact ⟨es, t, ⟨o, ep, e o g, q⟩, f⟩
theorem SetX.typeIs {a : Addr} {ks : List Str} (x : SetX w s.heap a ks) : s.TypeIs (.ref a) "set" :=
 let ⟨_, _, ⟨o, _, g, q, _⟩, _⟩ := x; ⟨o, g, q.1⟩
theorem FX.len {es : Array (Int × Value)} {t : SetTable} {ks : List Str} (f : FX w es t ks) : es.size = ks.length := by simpa using f.perm.length_eq
def addK (ks : List Str) (k : Str) : List Str := if k ∈ ks then ks else ks ++ [k]
theorem FX.more {es es1 : Array (Int × Value)} {t t1 : SetTable} {ks : List Str} {k : Str} {u : Tok} (f : FX w es t ks) (nk : k ∉ ks) (p : es1.toList.Perm (es.toList ++ [(hashStr w k, .str k u)])) (r : ks.length + 1 < scanBound) (q1 : t1.fits es1.size = true) (q2 : t1.led = t.led) (q3 : t1.plain = false) : FX w es1 t1 (addK ks k) := by
 have l : es1.size = es.size + 1 := by simpa using p.length_eq
 unfold addK
 rw [if_neg nk]
 refine ⟨fun e m => (List.mem_append.mp (p.mem_iff.mp m)).elim (f.ent e) fun m => ?_, ?_, List.nodup_append.mpr ⟨f.nd, by simp, fun x hx y hy e => nk ?_⟩, by rw [l, f.len]; exact r, q1, fun b => q2.trans (f.led b), fun _ => q3⟩
 ·cases List.mem_singleton.mp m; exact ⟨rfl, u, rfl⟩
 ·have := p.map keyOf; rw [List.map_append] at this; exact this.trans (f.perm.append_right _)
 ·cases List.mem_singleton.mp hy; rw [← e]; exact hx
end
end PV
namespace PV
open PySem PySem.Spec
section
variable {prog : Program} {w : World} {A : Around} {R : Result → Shared → Prop} {I : Addr} {fp wr : List Addr} {n : Nat} {P : Nat → Value → Prop} {Sx : Nat → Heap → Prop}
end
end PV
namespace PV
open PySem PySem.Spec
section
variable {prog : Program} {w : World} {A : Around} {E : Value → Shared → Prop} {s : Shared}
end
end PV
namespace PV
open PySem PySem.Spec
section
variable {prog : Program} {w : World} {A : Around} {E : Value → Shared → Prop} {s : Shared} {I q T : Addr} {first : Value} {j n ep : Nat} {es : Array (Int × Value)} {t : SetTable}
def ItX (h : Heap) (I q : Addr) (first : Value) (j n ep : Nat) : Prop := ∃ o, h.get? I = some o ∧ o.cls = .type "set_iterator" ∧ o.data = .fields #[first, .int j 0, .ref q, .int n 0, .int ep 0]
def Vh (h : Heap) (q : Addr) (es : Array (Int × Value)) (ep : Nat) (t : SetTable) : Prop := ∃ o, h.get? q = some o ∧ o.ExactSet ∧ o.data = .set es ep t
theorem ItX.ty (x : ItX s.heap I q first j n ep) : s.TypeIs (.ref I) "set_iterator" := let ⟨o, g, c, _⟩ := x; ⟨o, g, c⟩
end
end PV
namespace PV
open PySem PySem.Spec
section
variable {prog : Program} {w : World} {A : Around} {E : Value → Shared → Prop} {s : Shared} {I q T : Addr} {first : Value} {j n ep : Nat} {es : Array (Int × Value)} {t : SetTable}
theorem Vh.keep {h h' : Heap} (y : Vh h q es ep t) (e : ∀ o, h.get? q = some o → h'.get? q = some o) : Vh h' q es ep t := let ⟨o, g, r⟩ := y; ⟨o, e o g, r⟩
theorem ItX.keep {h h' : Heap} (x : ItX h I q first j n ep) (e : ∀ o, h.get? I = some o → h'.get? I = some o) : ItX h' I q first j n ep := let ⟨o, g, r⟩ := x; ⟨o, e o g, r⟩
end
end PV
namespace PV
open PySem PySem.Spec
section
variable {prog : Program} {w : World} {A : Around} {E : Value → Shared → Prop} {s : Shared} {I q T : Addr} {first : Value} {j n ep : Nat} {es : Array (Int × Value)} {t : SetTable}
end
end PV
namespace PV
open PySem PySem.Spec
section
variable {prog : Program} {w : World} {A : Around} {E : Value → Shared → Prop} {s : Shared} {I q T : Addr}
end
end PV
namespace PV
open PySem PySem.Spec
theorem Hn : ∀ {r : List Str} {p : Str}, PyProof.Rows.risingS p r = true → (p :: r).Nodup → Up (p :: r)
 | [], p, _, _ => by simp [Up]
 | x :: r, p, h, nd => by
  unfold PyProof.Rows.risingS at h
  rw [Bool.and_eq_true] at h
  obtain ⟨h1, h2⟩ := h
  obtain ⟨n1, n2⟩ := List.nodup_cons.mp nd
  have u := Hn h2 n2
  have lt : ltS p x = true := Ro (by unfold ltS; simpa [PyProof.Rows.ltCps_eq] using h1) (fun e => n1 (by rw [← e]; exact List.mem_cons_self))
  refine List.pairwise_cons.mpr ⟨fun y m => ?_, u⟩
  rcases List.mem_cons.mp m with e | m
  ·rw [e]; exact lt
  ·exact IW lt ((List.pairwise_cons.mp u).1 y m)
theorem Nq {l : List Str} (h : PyProof.Rows.sortedS l = true) (nd : l.Nodup) : Up l := by
 cases l with
 | nil => exact List.Pairwise.nil
 | cons p r => exact Hn h nd
section
variable {prog : Program} {w : World} {A : Around} {E : Value → Shared → Prop} {s : Shared} {q : Addr}
end
open L2
section
variable {X : Cx} {G : Gx} {a : Expr} {fa : FE} {pos : Pos}
theorem Ii : ∀ {xs : List Str} {us : List Value}, PyProof.Rows.StrsAre us xs → Vals (xs.map V.str) us
 | _, _, .nil => .nil
 | _, _, .cons _ u r => .cons ⟨u, rfl⟩ (Ii r)
theorem Vi {H : Hp} {ds : List D} {xs : List V} {zs : List Str} (r : RepL G H xs ds) (h : Fj ds = some zs) : xs = zs.map V.str := KQ r h
end
end PV
namespace PV
open PySem PySem.Spec L2
open PyProof.Rows hiding St
def getK {κ : Type} [DecidableEq κ] (k : κ) : List (κ × D) → Option D
 | [] => none
 | p :: r => if p.1 = k then some p.2 else getK k r
def repK {κ : Type} [DecidableEq κ] (k : κ) (v : D) : List (κ × D) → List (κ × D)
 | [] => []
 | p :: r => (p.1, if p.1 = k then v else p.2) :: repK k v r
def putL {κ : Type} [DecidableEq κ] (k : κ) (v : D) (kds : List (κ × D)) : List (κ × D) := if (getK k kds).isSome then repK k v kds else kds ++ [(k, v)]
def keyD : D → Option Key
 | .int i => some (.inl i)
 | .str x => some (.inr x)
 | _ => none
def GJ : List D → Option (List Key)
 | [] => some []
 | d :: r => (keyD d).bind fun k => (GJ r).map (k :: ·)
section
variable {κ : Type} [DecidableEq κ] {G : Gx} {H : Hp}
theorem Gn {k : κ} : ∀ {kds : List (κ × D)} {kvs : List (κ × V)}, kvs.map (·.1) = kds.map (·.1) → RepL G H (kvs.map (·.2)) (kds.map (·.2)) → (∀ d, getK k kds = some d → ∃ v, valV kvs k = some v ∧ Rep G H v d) ∧ (valV kvs k).isSome = (getK k kds).isSome
 | [], kvs, e, r => by
  cases kvs with
  | nil => exact ⟨fun d h => by simp [getK] at h, rfl⟩
  | cons p q => simp at e
 | p :: kds, kvs, e, r => by
  cases kvs with
  | nil => simp at e
  | cons q kvs =>
   rw [List.map_cons, List.map_cons] at e
   injection e with e1 e2
   rw [List.map_cons, List.map_cons] at r
   obtain ⟨x, ys, e3, r1, r2⟩ := r.uncons
   injection e3 with e4 e5
   subst e4 e5
   have ih := Gn (k := k) e2 r2
   by_cases h : p.1 = k
   ·have h' : q.1 = k := e1.trans h
    rw [HX h']
    refine ⟨fun d hd => ?_, ?_⟩
    ·simp only [getK, if_pos h] at hd
     cases hd
     exact ⟨_, rfl, r1⟩
    ·simp [getK, if_pos h]
   ·have h' : ¬ q.1 = k := fun z => h (e1.symm.trans z)
    rw [HY h']
    simp only [getK, if_neg h]
    exact ih
theorem Ru {k : κ} {v : V} {d : D} (rv : Rep G H v d) : ∀ {kds : List (κ × D)} {kvs : List (κ × V)}, kvs.map (·.1) = kds.map (·.1) → RepL G H (kvs.map (·.2)) (kds.map (·.2)) →
  (kvs.map fun kv => if kv.1 = k then (kv.1, v) else kv).map (·.1) = (repK k d kds).map (·.1) ∧ RepL G H ((kvs.map fun kv => if kv.1 = k then (kv.1, v) else kv).map (·.2)) ((repK k d kds).map (·.2))
 | [], kvs, e, r => by
  cases kvs with
  | nil => exact ⟨rfl, RepL.nil⟩
  | cons p q => simp at e
 | p :: kds, kvs, e, r => by
  cases kvs with
  | nil => simp at e
  | cons q kvs =>
   rw [List.map_cons, List.map_cons] at e
   injection e with e1 e2
   rw [List.map_cons, List.map_cons] at r
   obtain ⟨x, ys, e3, r1, r2⟩ := r.uncons
   injection e3 with e4 e5
   subst e4 e5
   have ih := Ru rv (k := k) e2 r2
   by_cases h : p.1 = k
   ·have h' : q.1 = k := e1.trans h
    refine ⟨?_, ?_⟩
    ·simp only [List.map_cons, if_pos h', repK]
     rw [ih.1, e1]
    ·simp only [List.map_cons, if_pos h', repK, if_pos h]
     exact .cons rv ih.2
   ·have h' : ¬ q.1 = k := fun z => h (e1.symm.trans z)
    refine ⟨?_, ?_⟩
    ·simp only [List.map_cons, if_neg h', repK]
     rw [ih.1, e1]
    ·simp only [List.map_cons, if_neg h', repK, if_neg h]
     exact .cons r1 ih.2
theorem Nr {k : κ} {v : V} {d : D} (rv : Rep G H v d) {kds : List (κ × D)} {kvs : List (κ × V)} (e : kvs.map (·.1) = kds.map (·.1)) (r : RepL G H (kvs.map (·.2)) (kds.map (·.2))) :
  (putK kvs k v).map (·.1) = (putL k d kds).map (·.1) ∧ RepL G H ((putK kvs k v).map (·.2)) ((putL k d kds).map (·.2)) := by
 unfold putK putL
 rw [J4, (Gn (k := k) e r).2]
 split
 ·exact Ru rv e r
 ·rw [List.map_append, List.map_append, List.map_append, List.map_append, e]
  exact ⟨rfl, r.append (.cons rv .nil)⟩
end
theorem PK {G : Gx} {A : List Addr} {H : Hp} {v : V} {d : D} {k : Key} (r : RepT G A H v d) (h : keyD d = some k) : v = kV k := by
 cases d with
 | int i => cases h; exact r.int
 | str x => cases h; exact r.str
 | _ => cases h
theorem Er {G : Gx} {H : Hp} {v : V} {d : D} {k : Key} (r : Rep G H v d) (h : keyD d = some k) : v = kV k := by
 cases d with
 | int i => cases h; cases r; rfl
 | str x => cases h; cases r; rfl
 | _ => cases h
theorem Ij {G : Gx} {H : Hp} : ∀ {ds : List D} {vs : List V} {ks : List Key}, RepL G H vs ds → GJ ds = some ks → vs = ks.map kV
 | [], vs, ks, r, h => by cases h; exact r.nil_inv
 | d :: ds, vs, ks, r, h => by
  obtain ⟨x, ys, rfl, r1, r2⟩ := r.uncons
  cases e1 : keyD d with
  | none => simp [GJ, e1] at h
  | some k =>
   cases e2 : GJ ds with
   | none => simp [GJ, e1, e2] at h
   | some ks' =>
    simp [GJ, e1, e2] at h
    subst h
    rw [Er r1 e1, Ij r2 e2]
    rfl
end PV
namespace PV
open PySem PySem.Spec L2
open PyProof.Rows hiding St
section
variable {X : Cx} {G : Gx} {a b c : Expr} {fa fb fc : FE} {pos p2 px : Pos} {es : List Expr} {fs : FA}
theorem Rv : PN X G (.Dict [] [] pos) (kF (.dk [])) := fun A => Bp U0 fun σ H Q ⟨ρ, d, o, e, k⟩ => by
 cases e
 exact fun p hp => k p _ (BJ hp _) hp ⟨[], Ae, rfl, RepL.nil⟩
theorem cM : PN X G (.Dict [] [] pos) (kF (.dt [])) := fun A => Bp U3 fun σ H Q ⟨ρ, d, o, e, k⟩ => by
 cases e
 exact fun p hp => k p _ (BJ hp _) hp ⟨[], Ae, rfl, RepL.nil⟩
theorem PN.pf (h : PN X G a fa) : PF X G a fa := fun A pins s σ H Q I ⟨ρ, d, o, e, k⟩ =>
 thn (@h A pins s σ H (fun v H' => ∃ p, v = .ref p ∧ Same H H' ∧ H p = none ∧ Top G (p :: A) H' p d) I ⟨ρ, d, o, e, fun p H' sm hp t => ⟨p, rfl, sm, hp, t⟩⟩) fun u s1 ⟨v, H1, I1, r1, p, ev, sm, hp, t⟩ => by
  subst ev
  have hpA : p ∉ A := fun z => (o.live p z).ne hp
  have up : ∀ ob, Same (hid (p :: A) H1) (hid A (upd H1 p ob)) := fun ob => by
   rw [← Ca (A := p :: A) (H := H1) (o := ob) (List.mem_cons_self ..)]
   exact CT fun b hb => List.mem_cons_of_mem _ hb
  have sm' : ∀ ob, Same H (upd H1 p ob) := fun ob b u hb => by
   rw [Ad (fun z : b = p => by rw [z, hp] at hb; cases hb)]
   exact sm b u hb
  cases d with
  | lst ds =>
   obtain ⟨xs, a1, a2⟩ := t
   have q := a2.mono (CT (A := A) (B := p :: A) (H := H1) fun b hb => List.mem_cons_of_mem _ hb)
   exact ⟨_, H1, I1, r1, k _ H1 sm (.lst (.of (by rw [Bb hpA]; exact a1)) q.1 q.2)⟩
  | dk ds =>
   obtain ⟨xs, a1, a2, a3⟩ := t
   obtain ⟨ob, I2⟩ := Inv.frzK I1 a1
   exact ⟨_, _, I2, r1, k _ _ (sm' _) (.dk (by rw [Bb hpA]; exact Ae) a2 (a3.mono (up _)).2)⟩
  | dt ds =>
   obtain ⟨xs, a1, a2, a3⟩ := t
   obtain ⟨ob, I2⟩ := Inv.frzT I1 a1
   exact ⟨_, _, I2, r1, k _ _ (sm' _) (.dt (by rw [Bb hpA]; exact Ae) a2 (a3.mono (up _)).2)⟩
  | ob c gs =>
   obtain ⟨C, dx, xs, a1, a2, a3⟩ := t
   have q := a3.mono (CT (A := A) (B := p :: A) (H := H1) fun b hb => List.mem_cons_of_mem _ hb)
   exact ⟨_, H1, I1, r1, k _ H1 sm (.ob a2.1 (by rw [Bb hpA]; exact a1) a2.2 q.2)⟩
  | _ => exact t.elim
def rDIn (neg : Bool) : R2 := fun x y H Q => ∃ a kvs k, y = .ref a ∧ Rd H a (.dK kvs) ∧ x = kV k ∧ Q (.bl (if neg then !(valV kvs k).isSome else (valV kvs k).isSome)) H
theorem Ql (hu : X.A.units + 1 < cLine) : OpR X (compareOp .In) (rDIn false) := by
 intro pins s σ H x y v u Q I rx ry h
 obtain ⟨a, kvs, k, rfl, e, rfl, q⟩ := h
 cases ry
 exact d_in hu I (.inl ⟨kvs, k, e, rfl, rfl⟩) rx fun s' I' => ⟨.bl _, H, I', rfl, q⟩
theorem T4 (hu : X.A.units + 1 < cLine) : OpR X (compareOp .NotIn) (rDIn true) := by
 intro pins s σ H x y v u Q I rx ry h
 obtain ⟨a, kvs, k, rfl, e, rfl, q⟩ := h
 cases ry
 exact Xc hu I (.inl ⟨kvs, k, e, rfl, rfl⟩) rx fun s' I' => ⟨.bl _, H, I', rfl, q⟩
def inE (neg : Bool) (x y : D) : Option D := match y with
 | .dk kds => (keyD x).map fun k => .bl (if neg then !(getK k kds).isSome else (getK k kds).isSome)
 | _ => inD neg x y
theorem X6 (neg : Bool) : Cz G (fun x y H Q => rInA G.K neg x y H Q ∨ rDIn neg x y H Q) (inE neg) := by
 intro A H x y dx dy d Q lv rx ry h k
 unfold inE at h
 split at h
 ·rename_i kds
  cases e : keyD dx with
  | none => simp [e] at h
  | some q =>
   obtain ⟨p, kvs, rfl, h1, h2, r⟩ := ry.dk
   have h3 := (Gn (k := q) h2 r).2
   rw [e] at h
   cases h
   refine .inr ⟨p, kvs, q, rfl, h1, PK rx e, ?_⟩
   rw [h3]
   exact k _ H (Same.refl H) (.bl _)
 ·exact .inl (aG neg A H x y dx dy d Q lv rx ry h k)
def rDIx : R2 := fun x y H Q => ∃ a kvs k v, x = .ref a ∧ Rd H a (.dK kvs) ∧ y = kV k ∧ valV kvs k = some v ∧ Q v H
theorem cP (hu : X.A.units + 1 < cLine) : IxR X rDIx := by
 intro value slice pins s σ H x y v u Q I rx ry h hs
 obtain ⟨a, kvs, k, z, rfl, e, rfl, l, q⟩ := h
 cases rx
 have g : DGet H a (kV k) (some z) := .inl ⟨kvs, k, e, rfl, l.symm⟩
 have hT := Ox I g
 unfold subscriptTail
 refine wpAny_bind ?_
 rw [getitemInPython_of_ne hT.not_modules]
 refine wpAny_bind (wpAny_specialOf hT PySem.F.slot_dict_getitem.lookup ?_)
 have fin : wpAny (model X.prog X.w) X.A (subscripted slice false (.ref a) u) (fun r s₃ => wpAny (model X.prog X.w) X.A (letTemporaryGo value (.ref a) r >>= fun _ => pure r) (EP X pins σ Q) X.xe s₃) X.xe s := by
  rw [hs]
  exact wpAny_operating (Tq hu I g ry fun w' s3 I3 rw' => wpAny_bind (wpAny_letTemporaryGo (wpAny_pure ⟨z, H, I3, rw', q⟩)))
 first
  | exact wpAny_pure (wpAny_bind fin)
  | exact wpAny_bind (wpAny_pure (wpAny_bind fin))
  | exact wpAny_bind fin
def ixE (x y : D) : Option D := match x with
 | .dk kds => (keyD y).bind fun k => getK k kds
 | _ => ixD x y
theorem X7 : Cz G (fun x y H Q => rIx G.K x y H Q ∨ rDIx x y H Q) ixE := by
 intro A H x y dx dy d Q lv rx ry h k
 unfold ixE at h
 split at h
 ·rename_i kds
  cases e : keyD dy with
  | none => simp [e] at h
  | some q =>
   obtain ⟨p, kvs, rfl, h1, h2, r⟩ := rx.dk
   simp [e] at h
   obtain ⟨v, h3, r3⟩ := (Gn (k := q) h2 r).1 d h
   exact .inr ⟨p, kvs, q, v, rfl, h1, PK ry e, h3, k v H (Same.refl H) r3⟩
 ·exact .inl (aC A H x y dx dy d Q lv rx ry h k)
theorem aN (hu : X.A.units + 1 < cLine) (hG : G.K = X.K) (ha : PU X G a fa) (hb : PU X G b fb) (hs : Ly b) : PF X G (.Subscript a b pos) (bF ixE fa fb) :=
 fun A => Bp (cD (r := fun x y H Q => rIx X.K x y H Q ∨ rDIx x y H Q) (Z0.or (cP hu)) (@ha A) (@hb A) hs) fun _ _ _ h => Nf (by rw [← hG]; exact X7) h
def Cg (x y v : D) : Option D := match x with
 | .dk kds => (keyD y).bind fun k => if kds.length < sizeLine then some (.dk (putL k v kds)) else none
 | _ => none
def putF (i : Nat) (fk fv : FE) : FS := fun ρ => (fv ρ).bind fun v => (fk ρ).bind fun y => (ownO ρ i).bind fun x => (Cg x y v).map fun z => .nx (ρ.set i (.ow z))
theorem T5 {i : Nat} {ρ : Rho} {o : Out} (h : putF i fa fb ρ = some o) : ∃ v y x z, fb ρ = some v ∧ fa ρ = some y ∧ ρ[i]? = some (.ow x) ∧ Cg x y v = some z ∧ o = .nx (ρ.set i (.ow z)) := by
 unfold putF at h
 cases e1 : fb ρ with
 | none => simp [e1] at h
 | some v =>
  cases e2 : fa ρ with
  | none => simp [e1, e2] at h
  | some y =>
   cases e3 : ownO ρ i with
   | none => simp [e1, e2, e3] at h
   | some x =>
    cases e4 : Cg x y v with
    | none => simp [e1, e2, e3, e4] at h
    | some z =>
     simp [e1, e2, e3, e4] at h
     exact ⟨v, y, x, z, rfl, rfl, LQ e3, e4, h.symm⟩
theorem Rw {i : Nat} {x : Str} {xpos spos : Pos} (hu : X.A.units + 1 < cLine) (hv : PE X (.Name x xpos) (tVar i)) (ha : PF X G a fa) (hb : PF X G b fb)
  (hs : swapsWith b (some (.Subscript (.Name x xpos) a spos)) pos.line X.env = pure false := by rfl) : PSD X G (.Assign [.Subscript (.Name x xpos) a spos] b pos) (putF i fa fb) := fun A0 He pins s σ H D I ⟨ρ, o, ⟨A, w⟩, e, k⟩ => by
 obtain ⟨v, y, x0, z, e1, e2, hi, e3, rfl⟩ := T5 e
 refine MF hu hv (@ha A) (@hb A) hs pins s σ H D I ?_
 unfold Cg at e3
 split at e3
 ·rename_i kds
  cases e4 : keyD y with
  | none => simp [e4] at e3
  | some q =>
   simp only [e4, Option.bind_some] at e3
   split at e3
   ·rename_i hz
    cases e3
    obtain ⟨p, h1, hA, kvs, h2, hk, r⟩ := w.ok.ow i _ hi
    refine ⟨ρ, v, w.ok, e1, fun u H1 s1 r1 => ⟨_, h1, ρ, y, (w.mono s1).ok, e2, fun yv H2 s2 r2 => ?_⟩⟩
    have ek := Er r2 e4
    subst ek
    have hl : kvs.length < sizeLine := by
     have := congrArg List.length hk
     rw [List.length_map, List.length_map] at this
     omega
    refine ⟨p, _, rfl, DPut.k (s2 _ _ (s1 _ _ h2)) hl, ?_⟩
    have w2 := (w.mono s1).mono s2
    have pk := Nr (k := q) (r1.mono (Aw s2)) hk (r.mono (Aw (s1.trans s2)))
    refine k _ _ ⟨A, w2.wr hi h1 ⟨_, Ae, pk.1, ?_⟩⟩
    rw [Ca hA]
    exact pk.2
   ·cases e3
 ·cases e3
end
end PV
namespace PV
open PySem PySem.Spec L2
open PyProof.Rows hiding St
theorem Jr {α β : Type} {R : α → β → Prop} : ∀ {xs : List α} {ys : List β} {i : Nat} {x : α} {y : β}, Paired R xs ys → xs[i]? = some x → ys[i]? = some y → R x y
 | _, _, i, x, y, .nil, h, _ => by simp at h
 | _, _, 0, x, y, .cons r _, h1, h2 => by
  simp at h1 h2
  rw [← h1, ← h2]
  exact r
 | _, _, i + 1, x, y, .cons _ t, h1, h2 => Jr t (by simpa using h1) (by simpa using h2)
def Itd (a : Addr) (o : Obj) (kvs : List (Key × V)) : It :=
 ⟨fun i H => H a = some (.frz o (.dK kvs)) ∧ i < kvs.length, fun i H x H' => H' = H ∧ ∃ p, kvs[i]? = some p ∧ x = kV p.1, fun i H => H a = some (.frz o (.dK kvs)) ∧ kvs.length ≤ i⟩
theorem relK {P : Program} {w : World} {k : Key} {u : Value} (h : (A_ P w).is k u = true) : RelV (kV k) u := by
 rcases Bc h with ⟨i, t, rfl, rfl⟩ | ⟨x, t, rfl, rfl⟩
 ·exact ⟨t, rfl⟩
 ·exact ⟨t, rfl⟩
theorem Ik {X : Cx} {pins : List (Addr × Obj)} {σ : St} {H : Hp} {s : Shared} {a : Addr} {o : Obj} {kvs : List (Key × V)} {es : Array DictEntry} {ep : Nat} (I : Inv X pins σ H s) (e : H a = some (.frz o (.dK kvs))) (hd : o.data = .dict es ep) :
  (a == sysModules) = false ∧ ∃ vs, KV kvs vs ∧ s.heap.DictAt (A_ X.prog X.w) a vs ep := by
 obtain ⟨ho, z, hm, vs, rel, o', es', ep', ho', h1, h2, h3⟩ := (show Be X.prog X.w H s.heap a (.frz o (.dK kvs)) from I.hok a _ e)
 rw [ho] at ho'
 cases ho'
 rw [hd] at h2
 cases h2
 exact ⟨hm, vs, rel, o, es, ho, h1, hd, h3⟩
theorem T6 {P : Program} {w : World} {K : PySem.W.Frag} {tg : Expr} (a it : Addr) {o : Obj} {es : Array DictEntry} {ep : Nat} (hd : o.data = .dict es ep) (kvs : List (Key × V)) : Turn P w K tg (Itd a o kvs) [it] it (fun i h => h.IsKeyIter it a i kvs.length ep) where
 mem := by simp
 obj := fun i h st b hb => by
  have e : b = it := by simpa using hb
  subst e
  obtain ⟨o, e, c, d⟩ := st
  exact ⟨o, e, fun v z => by rw [d] at z; cases z⟩
 keep := fun i h h' st k => let ⟨o, e, c, d⟩ := st; ⟨o, k it (by simp) o e, c, d⟩
 item := by
  intro X hP hw hK hc i pins s σ H E I hf st hg
  subst hP hw hK
  obtain ⟨he, hi⟩ := hg
  obtain ⟨hm, vs, rel, dd⟩ := Ik I he hd
  have hl : kvs.length = vs.length := rel.length
  obtain ⟨f0, f1, f2, f3, f4, f5⟩ := hf it (by simp)
  have hv : vs[i]? = some (vs[i]'(by omega)) := by simp [show i < vs.length by omega]
  have hk : kvs[i]? = some (kvs[i]'hi) := by simp [hi]
  have hkk : (kvs[i]'hi).1 = (vs[i]'(by omega)).1 := (Jr rel hk hv).1
  refine wpAny_pyNext_dict_item (knd := A_ X.prog X.w) (kvs := vs) (k := (vs[i]'(by omega)).1) (v := (vs[i]'(by omega)).2) (by rw [← hl]; exact st) dd hv fun key h' hkey st' sb => ?_
  rw [← hl] at st'
  have I1 : Inv X pins σ H { s with heap := h' } := I.turned (t' := s.toks) (fun b o hb e => (sb.2 b hb).trans e) f0 f1 f3 f4 f5
  obtain ⟨o1, e1, c1, d1⟩ := id st'
  exact ⟨key, rfl, Ou (s := { s with heap := h' }) e1 c1 d1 (by decide) ⟨kV (kvs[i]'hi).1, H, I1, by rw [hkk]; exact relK hkey, ⟨rfl, _, hk, rfl⟩, st', fun b hb => (hf b hb).1⟩⟩
 done := by
  intro X hP hw hK hc i pins s σ H E I hf st hg
  subst hP hw hK
  obtain ⟨he, hi⟩ := hg
  obtain ⟨hm, vs, rel, dd⟩ := Ik I he hd
  have hl : kvs.length = vs.length := rel.length
  obtain ⟨f0, f1, f2, f3, f4, f5⟩ := hf it (by simp)
  exact wpAny_pyNext_dict_end (I.ok.hd hc) (by rw [← hl]; exact st) dd (by rw [List.getElem?_eq_none]; omega) fun h' eb => ⟨rfl, I.turned (t' := s.toks) (fun b o hb e => eb b o hb e) f0 f1 f3 f4 f5⟩
 self := fun _ _ _ _ _ st h => wpAny_pyIter_keyiter st h
section
variable {X : Cx} {G : Gx} {a b c tg : Expr} {fa fb fc : FE} {pos p2 : Pos} {tl : TE}
def cQ (tl : TE) : TI := fun σ H R => tl σ H fun x H1 => ∃ a o kvs, x = .ref a ∧ H1 a = some (.frz o (.dK kvs)) ∧ R (Itd a o kvs) H1
theorem X8 {l : Expr} (hl : PE X l tl) : PI X tg l (cQ tl) := by
 intro pins s σ H R I h
 refine thn (hl pins s σ H _ I h) fun v s1 ⟨x, H1, I1, r1, q1⟩ => ?_
 obtain ⟨a, o, kvs, e, hq, q⟩ := q1
 subst e
 cases r1
 obtain ⟨_, _, _, _, _, o', es, ep, ho', h1, h2, _⟩ := (show Be X.prog X.w H1 s1.heap a (.frz o (.dK kvs)) from I1.hok a _ hq)
 obtain ⟨ho, _⟩ := (show Be X.prog X.w H1 s1.heap a (.frz o (.dK kvs)) from I1.hok a _ hq)
 rw [ho] at ho'
 cases ho'
 obtain ⟨hm, vs, rel, dd⟩ := Ik I1 hq h2
 have hl' : kvs.length = vs.length := rel.length
 refine wpAny_pyIter_dict hm dd ?_
 refine ⟨s1.heap.objs.size, [s1.heap.objs.size], _, _, H1, rfl, I1.kept (t' := s1.toks) fun b o e => Heap.get?_push_of_some _ e, T6 a _ h2 kvs, ⟨_, Heap.get?_push_size _ rfl, rfl, by rw [hl']; rfl⟩, fun b hb => ?_, q⟩
 have e : b = s1.heap.objs.size := by simpa using hb
 subst e
 exact I1.fpOk (Nat.le_refl _) (I1.hok.fresh (Nat.le_refl _))
def kDt : Key → D
 | .inl i => .int i
 | .inr x => .str x
theorem Nu {H : Hp} (k : Key) : Rep G H (kV k) (kDt k) := by
 cases k with
 | inl i => exact .int i
 | inr x => exact .str x
def seqE (f : FE) : FI := fun ρ => match f ρ with | some (.lst ds) => some ds | some (.tup ds) => some ds | some (.dk kds) => some (kds.map fun p => kDt p.1) | _ => none
theorem Vj {F1 F2 : Hp} {p : Addr} {o : Obj} {kvs : List (Key × V)} {kds : List (Key × D)} (h : F1 p = some (.frz o (.dK kvs))) (e : kvs.map (·.1) = kds.map (·.1)) : Src G (Itd p o kvs) (kds.map fun p => kDt p.1) F1 F2 := by
 have hl : kvs.length = kds.length := by have := congrArg List.length e; rwa [List.length_map, List.length_map] at this
 refine ⟨fun i H s hi => ⟨s _ _ h, by rw [hl]; rwa [List.length_map] at hi⟩, fun i H x H' d s hd y => ?_, fun i H s hi => ⟨s _ _ h, by rw [hl]; rwa [List.length_map] at hi⟩⟩
 obtain ⟨y1, q, y2, y3⟩ := y
 refine KJ ⟨y1, ?_⟩
 have e1 : (kvs.map (·.1))[i]? = some q.1 := by rw [List.getElem?_map, y2]; rfl
 rw [e, List.getElem?_map] at e1
 rw [List.getElem?_map] at hd
 cases e2 : kds[i]? with
 | none => rw [e2] at hd; cases hd
 | some z =>
  rw [e2] at e1 hd
  cases hd
  injection e1 with e1
  rw [y3, ← e1]
  exact Nu _
theorem Vk (hG : G.K = X.K) (h : PF X G a fa) : PFI X G false tg a (seqE fa) := fun A => K_ (piOr (Xv hG h (A := A)) (X8 (@h A))) fun σ H R ⟨ρ, ds, o, e, k⟩ => by
 unfold seqE at e
 split at e
 ·rename_i ds' e1
  cases e
  exact .inl ⟨ρ, _, o, by unfold seqI; rw [e1], k⟩
 ·rename_i ds' e1
  cases e
  exact .inl ⟨ρ, _, o, by unfold seqI; rw [e1], k⟩
 ·rename_i kds e1
  cases e
  refine .inr ⟨ρ, _, o, e1, fun v H1 s1 r1 => ?_⟩
  cases r1 with
  | dk h l r => exact ⟨_, _, _, rfl, Al _ _ h, k _ H1 s1 (Vj h l)⟩
 ·cases e
end
end PV
namespace PV
open PySem PySem.Spec L2
open PyProof.Rows hiding St
section
variable {prog : Program} {w : World} {A : Around} {E : Value → Shared → Prop}
theorem cR {it l : Addr} {its : Array Value} (ne : l ≠ it) : ∀ (m i : Nat) (s : Shared) (Q : List Value → Shared → Prop), s.heap.IsListIter it l i → s.heap.IsList l its → i + m = its.size →
  (∀ h', h'.IsListIter it l its.size → Heap.SameBut it s.heap h' → Q (its.toList.drop i) { s with heap := h' }) → wpAny (model prog w) A (draw (.ref it) m) Q E s := by
 intro m
 induction m with
 | zero =>
  intro i s Q hi hl hm k
  refine wpAny_pure ?_
  have hz : i = its.size := by omega
  have e : its.toList.drop i = [] := by rw [List.drop_eq_nil_iff]; simp [hz]
  rw [← e]
  exact k s.heap (hz ▸ hi) (Heap.SameBut.refl ..)
 | succ m ih =>
  intro i s Q hi hl hm k
  have lt : i < its.size := by omega
  refine wpAny_bind (m := pyNext (.ref it)) (wpAny_pyNext_list_item hi hl (x := its[i]) (by simp [lt]) fun h1 hi1 sb1 => ?_)
  have hl1 : h1.IsList l its := let ⟨o, e, r⟩ := hl; ⟨o, (sb1.2 l ne).trans e, r⟩
  refine wpAny_bind (wpAny_holding (ih (i + 1) _ _ hi1 hl1 (by omega) fun h2 hi2 sb2 => wpAny_pure ?_))
  have e : its.toList.drop i = its[i] :: its.toList.drop (i + 1) := by simp [List.drop_eq_getElem_cons, lt]
  rw [← e]
  exact k h2 hi2 (sb1.trans sb2)
theorem X_ {l : Addr} {its : Array Value} {s : Shared} {Q : List Value → Shared → Prop} (hh : A.handled = none) (hl : s.heap.IsList l its)
  (k : ∀ h', Heap.ExtBut s.heap.objs.size s.heap h' → Q its.toList { s with heap := h' }) : wpAny (model prog w) A (unpackItems (.ref l) its.size none) Q E s := by
 have ne : l ≠ s.heap.objs.size := by obtain ⟨o, ho, _⟩ := hl; exact Nat.ne_of_lt (Heap.lt_size ho)
 have ty : s.TypeIs (.ref l) "list" := let ⟨o, e, c, _⟩ := hl; ⟨o, e, c⟩
 unfold unpackItems notIterableAtAll
 refine wpAny_bind (wpAny_bind (wpAny_specialOf ty PySem.F.slot_list_iter.lookup (wpAny_pure ?_)))
 simp only [Bool.false_eq_true, if_false]
 refine wpAny_bind (wpAny_holding (wpAny_pyIter_list hl ?_))
 have hl0 : (s.heap.push { cls := .type "list_iterator", data := .fields #[.ref l, .int 0 0] }).IsList l its := let ⟨o, e, r⟩ := hl; ⟨o, Heap.get?_push_of_some _ e, r⟩
 refine wpAny_bind (wpAny_holding (cR ne its.size 0 _ _ ⟨_, Heap.get?_push_size _ rfl, rfl, rfl⟩ hl0 (by omega) fun h1 hi1 sb1 => ?_))
 rw [List.drop_zero, if_neg (by simp)]
 have hl1 : h1.IsList l its := let ⟨o, e, r⟩ := hl0; ⟨o, (sb1.2 l ne).trans e, r⟩
 refine wpAny_bind (wpAny_holding (wpAny_pyNext_list_end hh hi1 hl1 (by simp) fun h2 eb => ?_))
 simp only [Option.isSome_none, Bool.false_eq_true, if_false]
 exact wpAny_pure (k h2 fun b o hb e => eb b o hb ((sb1.2 b hb).trans (Heap.get?_push_of_some _ e)))
end
end PV
namespace PV
open PySem PySem.Spec L2
open PyProof.Rows hiding St
section
variable {X : Cx} {G : Gx} {a b c tg : Expr} {fa fb fc : FE} {pos p2 : Pos} {es : List Expr}
def gLst (K : PySem.W.Frag) (n : Nat) (t : TGs) : TG := fun v σ H Q => ∃ a xs, v = .ref a ∧ SqL K H a xs ∧ xs.length = n ∧ t xs σ H Q
theorem aO {k : Nat} {t : TGs} {n : Nat} (hc : X.calm = true) (h : PGs X es t)
  (hn : (assignEach es X.env).length = n := by rfl) (hst : (assignEach es X.env).findIdx? (·.1) = none := by rfl) : PG X (.Tuple es k pos) (gLst X.K n t) := by
 intro pins s σ H v u Q I r hw
 obtain ⟨a, xs, rfl, hq, hl, hw⟩ := hw
 cases r
 obtain ⟨its, rv, ht, hz⟩ := I.list hq
 rw [assign_Tuple]
 refine wpAny_bind (wpAny_standAt ?_)
 unfold unpack
 have e : (assignEach es X.env).length = its.toArray.size := by simp [hn, ← hl, rv.length]
 rw [e, hst]
 refine wpAny_bind (wpAny_holding (X_ (I.ok.hd hc) ht.isList fun h' hx => ?_))
 have I1 : Inv X pins σ H { s with heap := h' } := I.kept (t' := s.toks) fun b o e => hx b o (Nat.ne_of_lt (Heap.lt_size e)) e
 exact h pins _ σ H xs _ Q I1 (by simpa using rv) hw
theorem PG.or {t t' : TG} (h : PG X tg t) (h' : PG X tg t') : PG X tg (fun v σ H Q => t v σ H Q ∨ t' v σ H Q) := fun pins s σ H v u Q I r q => by
 rcases q with q | q
 ·exact h pins s σ H v u Q I r q
 ·exact h' pins s σ H v u Q I r q
abbrev FGs := List D → Rho → Option Rho
def nilG : FGs := fun ds ρ => match ds with | [] => some ρ | _ => none
def Bq (i : Nat) (g : FGs) : FGs := fun ds ρ => match ds with | d :: r => g r (ρ.set i (.fz d)) | [] => none
def tupG (n : Nat) (g : FGs) : FG := fun d ρ => match d with
 | .tup ds => if ds.length = n then g ds ρ else none
 | .lst ds => if ds.length = n then g ds ρ else none
 | _ => none
def tGDs (G : Gx) (A0 : List Addr) (He : Hp) (g : FGs) : TGs := fun vs σ H Q => ∃ A ρ ds ρ', OkW G A0 He A σ H ρ ∧ RepL G (hid A H) vs ds ∧ g ds ρ = some ρ' ∧ ∀ σ' H', OkS G A0 He σ' H' ρ' → Q σ' H'
def PGDs (X : Cx) (G : Gx) (es : List Expr) (g : FGs) : Prop := ∀ ⦃A0⦄ He, PGs X es (tGDs G A0 He g)
theorem KR : PGDs X G [] nilG := fun A0 He pins s σ H vs us Q I r ⟨A, ρ, ds, ρ', w, rv, e, k⟩ => by
 unfold nilG at e
 split at e
 ·cases e
  exact W9 pins s σ H vs us Q I r ⟨rv.nil_inv, k _ _ ⟨A, w⟩⟩
 ·cases e
theorem Dn {i : Nat} {e : Expr} {g : FGs} (h1 : PG X e (Gu i)) (h2 : PGDs X G es g)
  (hs : (assignEach (e :: es) X.env).map (·.2) = assign e X.env :: (assignEach es X.env).map (·.2) := by rfl) : PGDs X G (e :: es) (Bq i g) := fun A0 He pins s σ H vs us Q I r ⟨A, ρ, ds, ρ', w, rv, e, k⟩ => by
 unfold Bq at e
 split at e
 ·rename_i d ds'
  obtain ⟨x, ys, rfl, r1, r2⟩ := rv.uncons
  exact Uh h1 (@h2 A0 He) hs pins s σ H _ us Q I r ⟨x, ys, rfl, A, _, ds', ρ', w.set r1 i, r2, e, k⟩
 ·cases e
theorem Nv {k n : Nat} {g : FGs} (hG : G.K = X.K) (hc : X.calm = true) (h : PGDs X G es g)
  (hn : (assignEach es X.env).length = n := by rfl) (hst : (assignEach es X.env).findIdx? (·.1) = none := by rfl) : PGD X G (.Tuple es k pos) (tupG n g) := fun A0 He pins s σ H v u Q I r ⟨A, ρ, d, ρ', w, rv, e, k⟩ => by
 refine PG.or (Zo hc (@h A0 He) hn hst) (aO hc (@h A0 He) hn hst) pins s σ H v u Q I r ?_
 unfold tupG at e
 split at e
 ·rename_i ds
  split at e
  ·rename_i hl
   cases rv with
   | tup h1 l1 r1 => exact .inl ⟨_, _, rfl, by rw [← hG]; exact Dq Al h1, by rw [l1]; exact hl, A, ρ, ds, ρ', w, ⟨l1, r1⟩, e, k⟩
  ·cases e
 ·rename_i ds
  split at e
  ·rename_i hl
   cases rv with
   | lst h1 l1 r1 => exact .inr ⟨_, _, rfl, by rw [← hG]; exact Al.seq h1, by rw [l1]; exact hl, A, ρ, ds, ρ', w, ⟨l1, r1⟩, e, k⟩
  ·cases e
 ·cases e
theorem Bx : D_ X (.builtin "len") (fun xs H Q => ∃ a kvs, xs = [V.ref a] ∧ Rd H a (.dK kvs) ∧ Q (.int kvs.length) H) := by
 intro pins s σ H xs us Q I rs h
 obtain ⟨a, kvs, rfl, e, q⟩ := h
 obtain ⟨u, rfl, ru⟩ := rs.one
 cases ru
 exact cG I e fun t s' I' => ⟨.int kvs.length, H, I', ⟨t, rfl⟩, q⟩
def lenE : D → Option D
 | .dk kds => some (.int kds.length)
 | d => lenD d
theorem Dd : SndC G (fun xs H Q => (∃ x n, xs = [x] ∧ LenV G.K x H n ∧ Q (.int n) H) ∨ ∃ a kvs, xs = [V.ref a] ∧ Rd H a (.dK kvs) ∧ Q (.int kvs.length) H) lenE := by
 intro A H x dx d Q lv rx h k
 unfold lenE at h
 split at h
 ·cases h
  obtain ⟨p, kvs, rfl, h1, h2, r⟩ := rx.dk
  have hl := congrArg List.length h2
  rw [List.length_map, List.length_map] at hl
  refine .inr ⟨p, kvs, rfl, h1, ?_⟩
  rw [hl]
  exact k _ H (Same.refl H) (.int _)
 ·exact .inl (Xr A H x dx d Q lv rx h k)
end
end PV
namespace PV
open PySem PySem.Spec L2
open PyProof.Rows hiding St
def Iti (a : Addr) (o : Obj) (kvs : List (Key × V)) : It :=
 ⟨fun i H => H a = some (.frz o (.dK kvs)) ∧ i < kvs.length, fun i H x H' => ∃ T p, H T = none ∧ kvs[i]? = some p ∧ x = .ref T ∧ H' = upd H T (.tup [kV p.1, p.2]), fun i H => H a = some (.frz o (.dK kvs)) ∧ kvs.length ≤ i⟩
theorem Qm {P : Program} {w : World} {K : PySem.W.Frag} {elts : List Expr} {x1 : Nat} {tp : Pos} (a it : Addr) {o : Obj} {es : Array DictEntry} {ep : Nat} (hd : o.data = .dict es ep) (kvs : List (Key × V)) :
  Turn P w K (.Tuple elts x1 tp) (Iti a o kvs) [it] it (fun i h => ∃ ok ov, IsItemIter h it a i kvs.length ep ok ov) where
 mem := by simp
 obj := fun i h st b hb => by
  have e : b = it := by simpa using hb
  subst e
  obtain ⟨ok, ov, e⟩ := st
  exact ⟨_, e, fun v z => by
   have z' : Data.fields _ = Data.cell v := z
   cases z'⟩
 keep := fun i h h' st k => let ⟨ok, ov, e⟩ := st; ⟨ok, ov, k it (by simp) _ e⟩
 item := by
  intro X hP hw hK hc i pins s σ H E I hf st hg
  subst hP hw hK
  obtain ⟨he, hi⟩ := hg
  obtain ⟨ok, ov, st⟩ := st
  obtain ⟨hm, vs, rel, dd⟩ := Ik I he hd
  have hl : kvs.length = vs.length := rel.length
  obtain ⟨f0, f1, f2, f3, f4, f5⟩ := hf it (by simp)
  have hv : vs[i]? = some (vs[i]'(by omega)) := by simp [show i < vs.length by omega]
  have hk : kvs[i]? = some (kvs[i]'hi) := by simp [hi]
  obtain ⟨hkk, hvv⟩ := Jr rel hk hv
  have hlt : it < s.heap.objs.size := Heap.lt_size st
  refine wpAny_pyNext_items_item (knd := A_ X.prog X.w) (kvs := vs) (k := (vs[i]'(by omega)).1) (v := (vs[i]'(by omega)).2) (by rw [← hl]; exact st) dd hv fun key h1 hkey out ht hz kk => ?_
  refine ⟨_, rfl, wpAny_letOwnedTupleGo_items (s := { s with heap := h1 }) out fun h2 st2 sb => ?_⟩
  have hT : H s.heap.objs.size = none := I.hok.fresh (Nat.le_refl _)
  have rk : RelV (kV (kvs[i]'hi).1) key := by rw [hkk]; exact relK hkey
  have I1 : Inv X pins σ (upd H s.heap.objs.size (.tup [kV (kvs[i]'hi).1, (kvs[i]'hi).2])) { s with heap := s.heap.push { cls := .type "tuple", data := .seq #[key, (vs[i]'(by omega)).2] } } :=
   I.laid (a := s.heap.objs.size) (t' := s.toks) (fun b u e => Heap.get?_push_of_some _ e) (Nat.le_refl _) ⟨by show 2 ≤ sizeLine; decide, [key, (vs[i]'(by omega)).2], .cons rk (.cons hvv .nil), _, Heap.get?_push_size _ rfl, rfl, _, rfl⟩
  have kp : ∀ b u, b ≠ it → (s.heap.push { cls := .type "tuple", data := .seq #[key, (vs[i]'(by omega)).2] }).get? b = some u → h2.get? b = some u := fun b u hb e => by
   refine (sb.2 b hb).trans ?_
   rcases Heap.get?_push_cases e with ⟨rfl, rfl⟩ | e'
   ·exact ht
   ·exact kk b u hb e'
  have I2 := L2.Inv.turned (t' := s.toks) (it := it) (h' := h2) I1 kp (by rw [Ad (Nat.ne_of_lt hlt)]; exact f0) f1 f3 f4 f5
  refine ⟨.ref s.heap.objs.size, _, I2, rfl, ⟨_, _, hT, hk, rfl, rfl⟩, ⟨key, (vs[i]'(by omega)).2, by rw [hl]; exact st2⟩, fun b hb => ?_⟩
  have e : b = it := by simpa using hb
  subst e
  rw [Ad (Nat.ne_of_lt hlt)]
  exact f0
 done := by
  intro X hP hw hK hc i pins s σ H E I hf st hg
  subst hP hw hK
  obtain ⟨he, hi⟩ := hg
  obtain ⟨ok, ov, st⟩ := st
  obtain ⟨hm, vs, rel, dd⟩ := Ik I he hd
  have hl : kvs.length = vs.length := rel.length
  obtain ⟨f0, f1, f2, f3, f4, f5⟩ := hf it (by simp)
  exact wpAny_pyNext_items_end (I.ok.hd hc) (by rw [← hl]; exact st) dd (by rw [List.getElem?_eq_none]; omega) fun h' eb => ⟨rfl, I.turned (t' := s.toks) (fun b o hb e => eb b o hb e) f0 f1 f3 f4 f5⟩
 self := fun _ _ _ _ _ ⟨ok, ov, st⟩ h => PySem.W.kcp_self st h
section
variable {X : Cx} {G : Gx} {a b c tg : Expr} {fa fb fc : FE} {pos p2 : Pos} {tl : TE}
def aP (tl : TE) : TI := fun σ H R => tl σ H fun x H1 => ∃ a o kvs, x = .ref a ∧ H1 a = some (.frz o (.dK kvs)) ∧ R (Iti a o kvs) H1
theorem Vl {l : Expr} {elts : List Expr} {x1 : Nat} {tp apos cpos : Pos} (hl : PE X l tl) (hbase : attributeBase l "items" X.env (eval l X.env) = eval l X.env := by rfl) (hline : (apos.endLine == cpos.line) = true := by rfl) :
  PI X (.Tuple elts x1 tp) (.Call (.Attribute l "items" apos) [] [] cpos) (aP tl) := by
 intro pins s σ H R I h
 refine wpAny_Call_method (T := "dict") (id := "dict.items") hbase rfl hline F.plainAttrs_dict F.slot_dict_items F.type_dict_items (thn (hl pins s σ H _ I h) fun v s1 ⟨x, H1, I1, r1, q1⟩ => ?_)
 obtain ⟨a, o, kvs, e, hq, q⟩ := q1
 subst e
 cases r1
 obtain ⟨_, _, _, _, _, o', es, ep, ho', h1, h2, _⟩ := (show Be X.prog X.w H1 s1.heap a (.frz o (.dK kvs)) from I1.hok a _ hq)
 obtain ⟨ho, _⟩ := (show Be X.prog X.w H1 s1.heap a (.frz o (.dK kvs)) from I1.hok a _ hq)
 rw [ho] at ho'
 cases ho'
 obtain ⟨hm, vs, rel, dd⟩ := Ik I1 hq h2
 have hl' : kvs.length = vs.length := rel.length
 have hm1 := dd.dictOf
 refine ⟨hm1.typeIs, hm1.mapOf.noDict, ?_⟩
 show wpAny _ _ (callWith cpos (.builtin "dict.items") [.ref a] [] []) _ _ s1
 refine method_meetsIn F.slot_dict_items F.entry_dict_items rfl (PySem.evalArgs_none ⟨rfl, hm1.typeIs, F.args_dict_items_1 _, _, meets_dict_items (A_ X.prog X.w) a hm, ⟨vs, hm1⟩, ?_⟩)
 have I2 : Inv X pins σ H1 { s1 with heap := s1.heap.push { cls := .type "dict_items", data := .fields #[.ref a] } } := I1.kept (t' := s1.toks) fun b o e => Heap.get?_push_of_some _ e
 refine wpAny_pyIter_items (knd := A_ X.prog X.w) (kvs := vs) (s := { s1 with heap := s1.heap.push { cls := .type "dict_items", data := .fields #[.ref a] } }) ⟨_, Heap.get?_push_size _ rfl, rfl, rfl⟩ (dd.push _) ?_
 refine ⟨(s1.heap.push { cls := .type "dict_items", data := .fields #[.ref a] }).objs.size, [(s1.heap.push { cls := .type "dict_items", data := .fields #[.ref a] }).objs.size], _, _, H1, rfl, I2.kept (t' := s1.toks) fun b o e => Heap.get?_push_of_some _ e, Qm a _ h2 kvs, ⟨.none, .none, ?_⟩, fun b hb => ?_, q⟩
 ·rw [hl']
  exact Heap.get?_push_size _ rfl
 ·have e : b = (s1.heap.push { cls := .type "dict_items", data := .fields #[.ref a] }).objs.size := by simpa using hb
  subst e
  exact I2.fpOk (Nat.le_refl _) (I2.hok.fresh (Nat.le_refl _))
def FP (f : FE) : FI := fun ρ => match f ρ with | some (.dk kds) => some (kds.map fun p => .tup [kDt p.1, p.2]) | _ => none
theorem Vm {α β : Type} {f : α → β} {l : List α} {i : Nat} {y : β} (h : (l.map f)[i]? = some y) : ∃ x, l[i]? = some x ∧ f x = y := by
 rw [List.getElem?_map] at h
 exact Option.map_eq_some_iff.mp h
theorem T7 {F1 F2 : Hp} {p : Addr} {o : Obj} {kvs : List (Key × V)} {kds : List (Key × D)} (h : F1 p = some (.frz o (.dK kvs))) (e : kvs.map (·.1) = kds.map (·.1)) (r : RepL G F2 (kvs.map (·.2)) (kds.map (·.2))) :
  Src G (Iti p o kvs) (kds.map fun p => .tup [kDt p.1, p.2]) F1 F2 := by
 have hl : kvs.length = kds.length := by have := congrArg List.length e; rwa [List.length_map, List.length_map] at this
 refine ⟨fun i H s hi => ⟨s _ _ h, by rw [hl]; rwa [List.length_map] at hi⟩, fun i H x H' d s hd y => ?_, fun i H s hi => ⟨s _ _ h, by rw [hl]; rwa [List.length_map] at hi⟩⟩
 obtain ⟨T, q, hT, y2, rfl, rfl⟩ := y
 obtain ⟨z, hz, rfl⟩ := Vm hd
 have e1 : (kvs.map (·.1))[i]? = some q.1 := by rw [List.getElem?_map, y2]; rfl
 rw [e, List.getElem?_map, hz] at e1
 injection e1 with e1
 have rz : Rep G F2 q.2 z.2 := r.2 i q.2 z.2 (by rw [List.getElem?_map, y2]; rfl) (by rw [List.getElem?_map, hz]; rfl)
 refine ⟨BJ hT _, fun B lv sm => ?_⟩
 have rr : RepL G (hid B H) [kV q.1, q.2] [kDt z.1, z.2] := .cons (by rw [← e1]; exact Nu _) (.cons (rz.mono sm) .nil)
 exact F_ lv hT rr
theorem LR {top : Bool} {elts : List Expr} {x1 : Nat} {tp apos cpos : Pos} (h : PF X G a fa) (hbase : attributeBase a "items" X.env (eval a X.env) = eval a X.env := by rfl) (hline : (apos.endLine == cpos.line) = true := by rfl) :
  PFI X G false (.Tuple elts x1 tp) (.Call (.Attribute a "items" apos) [] [] cpos) (FP fa) := fun A => K_ (Vl (@h A) hbase hline) fun σ H R ⟨ρ, ds, o, e, k⟩ => by
 unfold FP at e
 split at e
 ·rename_i kds e1
  cases e
  refine ⟨ρ, _, o, e1, fun v H1 s1 r1 => ?_⟩
  cases r1 with
  | dk h l r => exact ⟨_, _, _, rfl, Al _ _ h, k _ H1 s1 (T7 h l ⟨by have := congrArg List.length l; rwa [List.length_map, List.length_map] at this ⊢, r⟩)⟩
 ·cases e
end
end PV
namespace PV
open PySem PySem.Spec L2
open PyProof.Rows hiding St
section
variable {X : Cx} {G : Gx} {a b c tg : Expr} {fa fb fc : FE} {pos p2 : Pos} {es : List Expr} {fs : FA}
theorem Ry {P : Program} {w : World} : ∀ {kvs : List (Key × V)} {us : List Value}, us.length = kvs.length → (∀ (j : Nat) u, us[j]? = some u → ∃ p, kvs[j]? = some p ∧ (A_ P w).is p.1 u = true) → Vals (kvs.map fun p => kV p.1) us
 | [], us, hl, _ => by
  have : us = [] := List.eq_nil_of_length_eq_zero hl
  subst this
  exact .nil
 | p :: kvs, [], hl, _ => by simp at hl
 | p :: kvs, u :: us, hl, h => by
  obtain ⟨q, h1, h2⟩ := h 0 u rfl
  simp at h1
  subst h1
  exact .cons (relK h2) (Ry (P := P) (w := w) (by simpa using hl) fun j v hv => by simpa using h (j + 1) v (by simpa using hv))
theorem Y8 {H : Hp} : ∀ {kvs : List (Key × V)} {kds : List (Key × D)}, kvs.map (·.1) = kds.map (·.1) → RepL G H (kvs.map fun q => kV q.1) (kds.map fun p => kDt p.1)
 | [], [], _ => RepL.nil
 | [], _ :: _, h => by simp at h
 | _ :: _, [], h => by simp at h
 | p :: kvs, q :: kds, h => by
  rw [List.map_cons, List.map_cons] at h
  injection h with h1 h2
  exact .cons (by show Rep G H (kV p.1) (kDt q.1); rw [h1]; exact Nu _) (Y8 h2)
def Ho (x : D) (ds : List D) (v : D) : Option D := match x with
 | .dt kds => (GJ ds).bind fun k => if kds.length < sizeLine ∧ ds.length ≤ sizeLine then some (.dt (putL k v kds)) else none
 | _ => none
def PL (i : Nat) (fk : FA) (fv : FE) : FS := fun ρ => (fv ρ).bind fun v => (fk ρ).bind fun y => (ownO ρ i).bind fun x => (Ho x y v).map fun z => .nx (ρ.set i (.ow z))
theorem Qn {i : Nat} {ρ : Rho} {o : Out} (h : PL i fs fb ρ = some o) : ∃ v y x z, fb ρ = some v ∧ fs ρ = some y ∧ ρ[i]? = some (.ow x) ∧ Ho x y v = some z ∧ o = .nx (ρ.set i (.ow z)) := by
 unfold PL at h
 cases e1 : fb ρ with
 | none => simp [e1] at h
 | some v =>
  cases e2 : fs ρ with
  | none => simp [e1, e2] at h
  | some y =>
   cases e3 : ownO ρ i with
   | none => simp [e1, e2, e3] at h
   | some x =>
    cases e4 : Ho x y v with
    | none => simp [e1, e2, e3, e4] at h
    | some z =>
     simp [e1, e2, e3, e4] at h
     exact ⟨v, y, x, z, rfl, rfl, LQ e3, e4, h.symm⟩
theorem Vn {i : Nat} {x : Str} {xpos spos tp : Pos} {x1 : Nat} (hu : X.A.units + 1 < cLine) (hv : PE X (.Name x xpos) (tVar i)) (ha : PFA X G es fs) (hb : PF X G b fb)
  (hs : swapsWith b (some (.Subscript (.Name x xpos) (.Tuple es x1 tp) spos)) pos.line X.env = pure false := by rfl) : PSD X G (.Assign [.Subscript (.Name x xpos) (.Tuple es x1 tp) spos] b pos) (PL i fs fb) := fun A0 He pins s σ H D I ⟨ρ, o, ⟨A, w⟩, e, k⟩ => by
 obtain ⟨v, y, x0, z, e1, e2, hi, e3, rfl⟩ := Qn e
 refine MF hu hv (Lw (@ha A)) (@hb A) hs pins s σ H D I ?_
 unfold Ho at e3
 split at e3
 ·rename_i kds
  cases e4 : GJ y with
  | none => simp [e4] at e3
  | some q =>
   simp only [e4, Option.bind_some] at e3
   split at e3
   ·rename_i hz
    cases e3
    obtain ⟨p, h1, hA, kvs, h2, hk, r⟩ := w.ok.ow i _ hi
    refine ⟨ρ, v, w.ok, e1, fun u H1 s1 r1 => ⟨_, h1, ρ, y, (w.mono s1).ok, e2, fun vs H2 s2 r2 => ⟨by rw [r2.1]; exact hz.2, fun T hT => ?_⟩⟩⟩
    have ek := Ij r2 e4
    subst ek
    have hl : kvs.length < sizeLine := by
     have := congrArg List.length hk
     rw [List.length_map, List.length_map] at this
     omega
    have s3 : Same H2 (upd H2 T (.tup (q.map kV))) := BJ hT _
    refine ⟨p, _, rfl, DPut.t (s3 _ _ (s2 _ _ (s1 _ _ h2))) Ae hl, ?_⟩
    have w2 := ((w.mono s1).mono s2).mono s3
    have pk := Nr (k := q) (r1.mono (Aw (s2.trans s3))) hk (r.mono (Aw (s1.trans (s2.trans s3))))
    refine k _ _ ⟨A, w2.wr hi h1 ⟨_, Ae, pk.1, ?_⟩⟩
    rw [Ca hA]
    exact pk.2
   ·cases e3
 ·cases e3
end
end PV
namespace PV
open PySem PySem.Spec L2
open PyProof.Rows hiding St
section
variable {X : Cx} {G : Gx} {a b c tg : Expr} {fa fb fc : FE} {pos p2 : Pos} {es : List Expr} {fs : FA} {src : FI}
theorem PFI.top (h : PFI X G false tg a src) : PFI X G true tg a src := fun A => K_ (@h A) fun σ H R ⟨ρ, ds, o, e, k⟩ =>
 ⟨ρ, ds, o, e, fun J H1 s1 sr => k J H1 s1 ⟨fun i H s hi => sr.go i H (Al.trans s) hi, fun i H x H' d s hd y => sr.yld i H x H' d (Al.trans s) hd y, fun i H s hi => sr.stop i H (Al.trans s) hi⟩⟩
theorem RepT.ob {A : List Addr} {H : Hp} {v : V} {c : Str} {gs : List (Str × D)} (r : RepT G A H v (.ob c gs)) : ∃ a C dx fs, v = .ref a ∧ G.cl c = some C ∧ H a = some (.ins C dx fs) ∧ fs.map (·.1) = gs.map (·.1) ∧ RepL G (hid A H) (fs.map (·.2)) (gs.map (·.2)) := by
 rcases r with r | ⟨a, e, C, dx, fs, h, k, r⟩
 ·cases r with
  | ob hc h l r =>
   have hl := congrArg List.length l
   rw [List.length_map, List.length_map] at hl
   exact ⟨_, _, _, _, rfl, hc, Al _ _ h, l, by rw [List.length_map, List.length_map]; exact hl, r⟩
 ·exact ⟨a, C, dx, fs, e, k.1, h, k.2, r⟩
def fldD (f : Str) : D → Option D
 | .ob _ gs => gs.lookup f
 | _ => none
theorem La {H : Hp} {f : Str} {d : D} : ∀ {gs : List (Str × D)} {fs : List (Str × V)}, fs.map (·.1) = gs.map (·.1) → RepL G H (fs.map (·.2)) (gs.map (·.2)) → gs.lookup f = some d → ∃ v, fs.lookup f = some v ∧ Rep G H v d
 | [], fs, e, r, h => by simp at h
 | p :: gs, [], e, r, h => by simp at e
 | p :: gs, q :: fs, e, r, h => by
  rw [List.map_cons, List.map_cons] at e r
  injection e with e1 e2
  obtain ⟨x, ys, e3, r1, r2⟩ := r.uncons
  injection e3 with e4 e5
  subst e4 e5
  obtain ⟨p1, p2⟩ := p
  obtain ⟨q1, q2⟩ := q
  simp only at e1 r1
  subst e1
  by_cases hf : f = q1
  ·subst hf
   simp only [List.lookup_cons, beq_self_eq_true, Option.some.injEq] at h ⊢
   subst h
   exact ⟨q2, rfl, r1⟩
  ·have hb : (f == q1) = false := beq_eq_false_iff_ne.mpr hf
   simp only [List.lookup_cons, hb] at h ⊢
   exact La e2 r2 h
theorem FQ {f : Str} (hcl : ∀ c C, G.cl c = some C → Cls X.K C ∧ BW X.K C f) (he : PU X G a fa) (hb : attributeBase a f X.env (eval a X.env) = eval a X.env := by rfl) : PF X G (.Attribute a f pos) (uF (fldD f) fa) :=
 fun A => Bp (QS (@he A) hb) fun σ H Q ⟨ρ, d, o, e, k⟩ => by
  obtain ⟨x0, e1, e2⟩ := Rr e
  unfold fldD at e2
  split at e2
  ·rename_i cn gs
   refine ⟨ρ, _, o, e1, fun v H1 s1 r1 => ?_⟩
   obtain ⟨p, C, dx, fs, rfl, hc, h, l, r⟩ := r1.ob
   obtain ⟨v, h1, h2⟩ := La (f := f) (d := d) l r e2
   exact ⟨_, _, _, _, v, rfl, h, (hcl _ _ hc).1, (hcl _ _ hc).2, h1, k v H1 s1 h2⟩
  ·cases e2
end
end PV
namespace PV
open PySem PySem.Spec L2
open PyProof.Rows hiding St
def Its (x : Str) : It := ⟨fun i _ => i < x.cps.size, fun i H y H' => H' = H ∧ ∃ c, x.cps[i]? = some c ∧ y = .str ⟨#[c]⟩, fun i _ => x.cps.size ≤ i⟩
theorem PQ {P : Program} {w : World} {K : PySem.W.Frag} {tg : Expr} (it : Addr) (x : Str) (t : Tok) (ty : String) (W : ∀ A : Around, A.handled = none → Walks P w A it [it] [it] x.cps.size (SignAt x) (fun i h => h.IsStrIter it ty x t i))
  (hn : ["enumerate", "zip", "dict_itemiterator", "dict_reverseitemiterator", "odict_iterator", "itertools.zip_longest", "itertools.pairwise"].contains ty = false)
  (fin : ∀ (A : Around), A.handled = none → ∀ (i : Nat) (s : Shared) (Q : Option Value → Shared → Prop) (E : Value → Shared → Prop), s.heap.IsStrIter it ty x t i → x.cps[i]? = none → (∀ h', Heap.ExtBut it s.heap h' → Q none { s with heap := h' }) → wpAny (model P w) A (pyNext (.ref it)) Q E s)
  (self : ∀ (A : Around) (i : Nat) (s : Shared) (Q : Value → Shared → Prop) (E : Value → Shared → Prop), s.heap.IsStrIter it ty x t i → Q (.ref it) s → wpAny (model P w) A (pyIter (.ref it)) Q E s) :
  Turn P w K tg (Its x) [it] it (fun i h => h.IsStrIter it ty x t i) where
 mem := by simp
 obj := fun i h st b hb => by
  have e : b = it := by simpa using hb
  subst e
  obtain ⟨o, e, c, d⟩ := st
  exact ⟨o, e, fun v z => by rw [d] at z; cases z⟩
 keep := fun i h h' st k => let ⟨o, e, c, d⟩ := st; ⟨o, k it (by simp) o e, c, d⟩
 item := by
  intro X hP hw hK hc i pins s σ H E I hf st hg
  subst hP hw hK
  obtain ⟨f0, f1, f2, f3, f4, f5⟩ := hf it (by simp)
  refine (W X.A (I.ok.hd hc)).item i s _ _ hg st fun v h' tk hv st' kk => ?_
  obtain ⟨c, u, e1, rfl⟩ := hv
  have I1 : Inv X pins σ H { s with heap := h', toks := tk } := I.turned (fun b o hb e => kk b o (by simpa using hb) e) f0 f1 f3 f4 f5
  obtain ⟨o1, e2, c1, d1⟩ := id st'
  exact ⟨_, rfl, Ou (s := { s with heap := h', toks := tk }) e2 c1 d1 hn ⟨.str ⟨#[c]⟩, H, I1, ⟨u, rfl⟩, ⟨rfl, c, e1, rfl⟩, st', fun b hb => (hf b hb).1⟩⟩
 done := by
  intro X hP hw hK hc i pins s σ H E I hf st hg
  subst hP hw hK
  obtain ⟨f0, f1, f2, f3, f4, f5⟩ := hf it (by simp)
  exact fin X.A (I.ok.hd hc) i s _ _ st (by rw [Array.getElem?_eq_none_iff]; exact hg) fun h' eb => ⟨rfl, I.turned (t' := s.toks) (fun b o hb e => eb b o hb e) f0 f1 f3 f4 f5⟩
 self := fun A i s Q E st h => self A i s Q E st h
section
variable {X : Cx} {G : Gx} {a b c tg : Expr} {fa fb fc : FE} {pos p2 : Pos} {tl : TE}
def iStr (tl : TE) : TI := fun σ H R => tl σ H fun x H1 => ∃ y, x = .str y ∧ R (Its y) H1
theorem aQ {l : Expr} (hl : PE X l tl) : PI X tg l (iStr tl) := by
 intro pins s σ H R I h
 refine thn (hl pins s σ H _ I h) fun v s1 ⟨x, H1, I1, r1, q1⟩ => ?_
 obtain ⟨y, e, q⟩ := q1
 subst e
 obtain ⟨t, e⟩ := (show ∃ t, v = Value.str y t from r1)
 subst e
 have fp : ∀ b ∈ [s1.heap.objs.size], FpOk X pins H1 b := fun b hb => by
  have e : b = s1.heap.objs.size := by simpa using hb
  subst e
  exact I1.fpOk (Nat.le_refl _) (I1.hok.fresh (Nat.le_refl _))
 cases ha : y.cps.all (· < 128)
 ·exact wpAny_pyIter_wide ha ⟨s1.heap.objs.size, [s1.heap.objs.size], _, _, H1, rfl, I1.kept (t' := s1.toks) fun b o e => Heap.get?_push_of_some _ e,
   PQ _ y t "str_iterator" (fun A hA => Walks.strWide hA _ y t) (by decide) (fun _ hh _ _ _ _ st hx k => wpAny_pyNext_wide_end hh st hx k) (fun _ _ _ _ _ st h => wpAny_pyIter_striter_wide st h), ⟨_, Heap.get?_push_size _ rfl, rfl, rfl⟩, fp, q⟩
 ·exact wpAny_pyIter_ascii ha ⟨s1.heap.objs.size, [s1.heap.objs.size], _, _, H1, rfl, I1.kept (t' := s1.toks) fun b o e => Heap.get?_push_of_some _ e,
   PQ _ y t "str_ascii_iterator" (fun A hA => Walks.strAscii hA _ y t) (by decide) (fun _ hh _ _ _ _ st hx k => wpAny_pyNext_ascii_end hh st hx k) (fun _ _ _ _ _ st h => wpAny_pyIter_striter_ascii st h), ⟨_, Heap.get?_push_size _ rfl, rfl, rfl⟩, fp, q⟩
def Pa (x : Str) : List D := x.cps.toList.map fun c => .str ⟨#[c]⟩
theorem YB {F1 F2 : Hp} {x : Str} : Src G (Its x) (Pa x) F1 F2 := by
 have hl : (Pa x).length = x.cps.size := by unfold Pa; simp
 refine ⟨fun i H s hi => by rw [hl] at hi; exact hi, fun i H y H' d s hd q => ?_, fun i H s hi => by rw [hl] at hi; exact hi⟩
 obtain ⟨q1, c, q2, q3⟩ := q
 refine KJ ⟨q1, ?_⟩
 obtain ⟨z, hz, rfl⟩ := Vm hd
 have e : x.cps[i]? = some z := by simpa using hz
 rw [e] at q2
 cases q2
 rw [q3]
 exact .str _
def seqA (f : FE) : FI := fun ρ => match f ρ with | some (.str x) => some (Pa x) | _ => seqE f ρ
theorem Es (hG : G.K = X.K) (h : PF X G a fa) : PFI X G false tg a (seqA fa) := fun A => K_ (piOr (Vk hG h (A := A)) (aQ (@h A))) fun σ H R ⟨ρ, ds, o, e, k⟩ => by
 unfold seqA at e
 split at e
 ·rename_i x e1
  cases e
  refine .inr ⟨ρ, _, o, e1, fun v H1 s1 r1 => ?_⟩
  cases r1
  exact ⟨_, rfl, k _ H1 s1 YB⟩
 ·exact .inl ⟨ρ, _, o, e, k⟩
def blsD : List D → Option (List Bool)
 | [] => some []
 | .bl i :: r => (blsD r).map (i :: ·)
 | _ :: _ => none
theorem R0 {H : Hp} : ∀ {ds : List D} {xs : List V} {bs : List Bool}, RepL G H xs ds → blsD ds = some bs → xs = bs.map V.bl
 | [], xs, bs, r, h => by cases h; exact r.nil_inv
 | d :: ds, xs, bs, r, h => by
  obtain ⟨x, ys, rfl, r1, r2⟩ := r.uncons
  cases d with
  | bl i =>
   cases e : blsD ds with
   | none => simp [blsD, e] at h
   | some bs' =>
    simp [blsD, e] at h
    subst h
    cases r1
    rw [R0 r2 e]
    rfl
  | _ => simp [blsD] at h
theorem T8 (hc : X.calm = true) : D_ X (.builtin "all") (fun xs H Q => ∃ (p : Addr) (bs : List Bool), xs = [.ref p] ∧ SqL X.K H p (bs.map V.bl) ∧ Q (.bl (bs.all id)) H) := by
 intro pins s σ H xs us Q I r h
 obtain ⟨p, bs, rfl, hs, k⟩ := h
 obtain ⟨u, rfl, ru⟩ := r.one
 cases ru
 obtain ⟨its, rv, pl, hz⟩ := I.list hs
 have hl := pl.isList
 have hlt : p ≠ s.heap.objs.size := by obtain ⟨o, ho, _⟩ := hl; exact Nat.ne_of_lt (Heap.lt_size ho)
 have hlen : bs.length = its.length := by have := rv.length; rwa [List.length_map] at this
 refine call_all_walk (wpAny_pyIter_list hl ?_)
 refine ⟨_, _, _, _, _, _, fun i => bs.getD i true, rfl, Walks.list (A := X.A.in1) (I.ok.hd hc) s.heap.objs.size p hlt its.toArray, ⟨⟨_, Heap.get?_push_size _ rfl, rfl, rfl⟩, hl.push _⟩, ?_, fun h' tk kk => ?_⟩
 ·intro i v s' Q' E' hv hq
  have hi : its[i]? = some v := by simpa using hv
  have hlt' : i < bs.length := by rw [hlen]; exact (List.getElem?_eq_some_iff.mp hi).1
  obtain ⟨u', hu, ru⟩ := rv.get (i := i) (x := .bl (bs[i]'hlt')) (by rw [List.getElem?_map]; simp [hlt'])
  rw [hi] at hu
  cases hu
  cases (show v = Value.bool (bs[i]'hlt') from ru)
  have e : bs.getD i true = bs[i]'hlt' := by simp [List.getD, hlt']
  have hq' : Q' (bs.getD i true) s' := hq
  rw [e] at hq'
  exact wpAny_truthy_bool hq'
 ·refine ⟨.bl (bs.all id), H, I.kept (fun b o e => kk b o ?_ (Heap.get?_push_of_some _ e)), ?_, k⟩
  ·intro hb
   have : b = s.heap.objs.size := by simpa using hb
   exact absurd (Heap.lt_size e) (by rw [this]; exact Nat.lt_irrefl _)
  ·show Value.bool _ = Value.bool _
   congr 1
   rw [List.size_toArray, ← hlen]
   rw [Bool.eq_iff_iff, List.all_eq_true, List.all_eq_true]
   constructor
   ·intro q b hb
    obtain ⟨i, hi, rfl⟩ := List.getElem_of_mem hb
    have := q i (List.mem_range.mpr hi)
    simpa [List.getD, hi] using this
   ·intro q i hi
    have hi' := List.mem_range.mp hi
    have := q (bs[i]'hi') (List.getElem_mem hi')
    simpa [List.getD, hi'] using this
def allD : D → Option D
 | .lst ds => (blsD ds).map fun bs => .bl (bs.all id)
 | _ => none
theorem YC : SndC G (fun xs H Q => ∃ (p : Addr) (bs : List Bool), xs = [.ref p] ∧ SqL G.K H p (bs.map V.bl) ∧ Q (.bl (bs.all id)) H) allD := by
 intro A H x dx d Q lv rx h k
 unfold allD at h
 split at h
 ·rename_i ds
  cases e : blsD ds with
  | none => simp [e] at h
  | some bs =>
   rw [e] at h
   cases h
   obtain ⟨p, xs, rfl, h1, r⟩ := rx.lst
   have e2 := R0 r e
   subst e2
   exact ⟨p, bs, rfl, h1, k _ H (Same.refl H) (.bl _)⟩
 ·cases h
theorem aR : bootBuiltins "all" = some (.builtin "all") := by decide +kernel
end
end PV
namespace PV
open PySem PySem.Spec L2
open PyProof.Rows hiding St
section
variable {X : Cx} {G : Gx} {a b c tg : Expr} {fa fb fc : FE} {pos p2 : Pos}
end
end PV
namespace PV
open PySem PySem.Spec L2
open PyProof.Rows hiding St
section
variable {X : Cx} {G : Gx} {a b c tg : Expr} {fa fb fc : FE} {pos p2 : Pos}
def eqTo (x d : D) : Bool := match eqK 62 d x with | some b => b | none => false
def knows (x d : D) : Bool := (eqK 62 d x).isSome
def rInP (G : Gx) (neg : Bool) : R2 := fun x y H Q => ∃ (A : List Addr) (as ds : List D), RepT G A H x (.tup as) ∧ RepT G A H y (.lst ds) ∧ ds.all (knows (.tup as)) = true ∧ Q (.bl (if neg then !ds.any (eqTo (.tup as)) else ds.any (eqTo (.tup as)))) H
open Classical in
theorem R1 (hG : G.K = X.K) (hu : X.A.units + 64 < cLine) {pins : List (Addr × Obj)} {s : Shared} {σ : St} {H : Hp} {A : List Addr} {x : V} {u : Value} {as ds : List D} {xs : List V} {its : List Value} (I : Inv X pins σ H s) (rx : RepT G A H x (.tup as)) (ru : RelV x u)
  (r : RepL G (hid A H) xs ds) (v : Vals xs its) (hk : ds.all (knows (.tup as)) = true) :
  ∃ e : Value → Bool, (∀ y, y ∈ its.toArray → SeqAt.EqAt X.A.in1 s y u (e y)) ∧ its.toArray.any e = ds.any (eqTo (.tup as)) := by
 have rx' : Rep G H x (.tup as) := by
  rcases rx with q | ⟨p, _, q⟩
  ·exact q.mono Al
  ·exact q.elim
 have one : ∀ (i : Nat) y, its[i]? = some y → ∃ d, ds[i]? = some d ∧ SeqAt.EqAt X.A.in1 s y u (eqTo (.tup as) d) := fun i y hy => by
  have hi : i < its.length := (List.getElem?_eq_some_iff.mp hy).1
  have hx : i < xs.length := by rw [v.length]; exact hi
  have hd : i < ds.length := by rw [← r.1]; exact hx
  obtain ⟨y', h1, h2⟩ := v.get (i := i) (x := xs[i]) (by simp [hx])
  rw [hy] at h1
  cases h1
  refine ⟨ds[i], by simp [hd], ?_⟩
  have kn : knows (.tup as) ds[i] = true := List.all_eq_true.mp hk _ (List.getElem_mem hd)
  unfold knows at kn
  obtain ⟨b, hb⟩ := Option.isSome_iff_exists.mp kn
  have eb : eqTo (.tup as) ds[i] = b := by unfold eqTo; rw [hb]
  rw [eb]
  exact KH I hG 62 X.A.in1 (by show X.A.units + 1 + 62 < cLine; omega) hb ((r.2 i _ _ (by simp [hx]) (by simp [hd])).mono Al) rx' h2 ru
 refine ⟨fun y => decide (∃ (i : Nat) (d : D), its[i]? = some y ∧ ds[i]? = some d ∧ eqTo (.tup as) d = true), fun y hy => ?_, ?_⟩
 ·by_cases h : ∃ (i : Nat) (d : D), its[i]? = some y ∧ ds[i]? = some d ∧ eqTo (.tup as) d = true
  ·obtain ⟨i, d, h1, h2, h3⟩ := id h
   obtain ⟨d', h4, h5⟩ := one i y h1
   rw [h2] at h4
   cases h4
   rw [h3] at h5
   show SeqAt.EqAt X.A.in1 s y u (decide (∃ (i : Nat) (d : D), its[i]? = some y ∧ ds[i]? = some d ∧ eqTo (.tup as) d = true))
   rw [decide_eq_true h]
   exact h5
  ·obtain ⟨i, hi, rfl⟩ := List.getElem_of_mem (show y ∈ its by simpa using hy)
   have hii : its[i]? = some its[i] := List.getElem?_eq_getElem hi
   obtain ⟨d, h4, h5⟩ := one i _ hii
   have h6 : eqTo (.tup as) d = false := by
    cases q : eqTo (.tup as) d with
    | false => rfl
    | true => exact absurd ⟨i, d, hii, h4, q⟩ h
   rw [h6] at h5
   show SeqAt.EqAt X.A.in1 s its[i] u (decide (∃ (j : Nat) (d : D), its[j]? = some its[i] ∧ ds[j]? = some d ∧ eqTo (.tup as) d = true))
   rw [decide_eq_false h]
   exact h5
 ·rw [Bool.eq_iff_iff, List.any_eq_true]
  rw [show its.toArray.any (fun y => decide (∃ (i : Nat) (d : D), its[i]? = some y ∧ ds[i]? = some d ∧ eqTo (.tup as) d = true)) = its.any (fun y => decide (∃ (i : Nat) (d : D), its[i]? = some y ∧ ds[i]? = some d ∧ eqTo (.tup as) d = true)) by simp, List.any_eq_true]
  constructor
  ·rintro ⟨y, hy, h⟩
   obtain ⟨i, d, h1, h2, h3⟩ := of_decide_eq_true h
   exact ⟨d, List.mem_of_getElem? h2, h3⟩
  ·rintro ⟨d, hd, h⟩
   obtain ⟨i, hi, rfl⟩ := List.getElem_of_mem hd
   have hx : i < its.length := by rw [← v.length, r.1]; exact hi
   exact ⟨its[i], List.getElem_mem hx, decide_eq_true ⟨i, _, List.getElem?_eq_getElem hx, List.getElem?_eq_getElem hi, h⟩⟩
theorem Vo (hG : G.K = X.K) (hu : X.A.units + 64 < cLine) : OpR X (compareOp .In) (rInP G false) := by
 intro pins s σ H x y v u Q I rx ry h
 obtain ⟨A, as, ds, r1, r2, hk, k⟩ := h
 obtain ⟨c, ys, rfl, h2, q2⟩ := r2.lst
 cases ry
 obtain ⟨jts, v2, p2, _⟩ := I.list (by rw [← hG]; exact h2)
 obtain ⟨e, he, ea⟩ := R1 hG hu I r1 rx q2 v2 hk
 exact SeqAt.in_listAt e p2.isList he ⟨.bl _, H, I, rfl, by rw [ea]; exact k⟩
theorem T9 (hG : G.K = X.K) (hu : X.A.units + 64 < cLine) : OpR X (compareOp .NotIn) (rInP G true) := by
 intro pins s σ H x y v u Q I rx ry h
 obtain ⟨A, as, ds, r1, r2, hk, k⟩ := h
 obtain ⟨c, ys, rfl, h2, q2⟩ := r2.lst
 cases ry
 obtain ⟨jts, v2, p2, _⟩ := I.list (by rw [← hG]; exact h2)
 obtain ⟨e, he, ea⟩ := R1 hG hu I r1 rx q2 v2 hk
 exact SeqAt.notIn_listAt e p2.isList he ⟨.bl _, H, I, rfl, by rw [ea]; exact k⟩
def inF (neg : Bool) (x y : D) : Option D := match x, y with
 | .tup as, .lst ds => if ds.all (knows (.tup as)) = true then some (.bl (if neg then !ds.any (eqTo (.tup as)) else ds.any (eqTo (.tup as)))) else none
 | x, y => inE neg x y
theorem Nx (neg : Bool) : Cz G (fun x y H Q => (rInA G.K neg x y H Q ∨ rDIn neg x y H Q) ∨ rInP G neg x y H Q) (inF neg) := by
 intro A H x y dx dy d Q lv rx ry h k
 unfold inF at h
 split at h
 ·split at h
  ·rename_i hk
   cases h
   exact .inr ⟨A, _, _, rx, ry, hk, k _ H (Same.refl H) (.bl _)⟩
  ·cases h
 ·exact .inl (X6 neg A H x y _ _ d Q lv rx ry h k)
end
end PV
namespace PySem
open PySem.Spec
end PySem
namespace PySem
open PySem.Spec
end PySem
namespace PV
open PySem PySem.Spec L2
open PyProof.Rows hiding St
section
variable {G : Gx} {x : Addr} {H : Hp}
theorem Top.sub {A B : List Addr} {a : Addr} {d : D} (t : Top G B H a d) (h : ∀ a ∈ A, a ∈ B) : Top G A H a d := by
 cases d with
 | lst ds => obtain ⟨xs, q1, q2⟩ := t; exact ⟨xs, q1, q2.mono (CT h)⟩
 | dk ds => obtain ⟨xs, q1, q2, q3⟩ := t; exact ⟨xs, q1, q2, q3.mono (CT h)⟩
 | dt ds => obtain ⟨xs, q1, q2, q3⟩ := t; exact ⟨xs, q1, q2, q3.mono (CT h)⟩
 | ob c gs => obtain ⟨C, dx, xs, q1, q2, q3⟩ := t; exact ⟨C, dx, xs, q1, q2, q3.mono (CT h)⟩
 | _ => exact t.elim
def JB (x : Addr) (H H' : Hp) : Prop := ∀ b o, b ≠ x → H b = some o → H' b = some o
theorem Et {A : List Addr} {H' : Hp} (hx : x ∈ A) (s : JB x H H') : Same (hid A H) (hid A H') := fun b o h => by
 unfold hid at h ⊢
 split at h
 ·cases h
 ·rename_i hb; rw [if_neg hb]; exact s b o (fun z => hb (z ▸ hx)) h
theorem Top.other {A : List Addr} {H' : Hp} {q : Addr} {d : D} (t : Top G A H q d) (nq : q ≠ x) (hx : x ∈ A) (s : JB x H H') : Top G A H' q d := by
 have sm := Et hx s
 cases d with
 | lst ds => obtain ⟨xs, q1, q2⟩ := t; exact ⟨xs, s _ _ nq q1, q2.mono sm⟩
 | dk ds => obtain ⟨xs, q1, q2, q3⟩ := t; exact ⟨xs, s _ _ nq q1, q2, q3.mono sm⟩
 | dt ds => obtain ⟨xs, q1, q2, q3⟩ := t; exact ⟨xs, s _ _ nq q1, q2, q3.mono sm⟩
 | ob c gs => obtain ⟨C, dx, xs, q1, q2, q3⟩ := t; exact ⟨C, dx, xs, s _ _ nq q1, q2, q3.mono sm⟩
 | _ => exact t.elim
end
def tX (G : Gx) (A0 : List Addr) (He : Hp) (h : FZ) : TE := fun σ H Q => ∃ ρ d ρ' A, OkW G A0 He A σ H ρ ∧ h ρ = some (d, ρ') ∧ ∀ v H' A', OkW G A0 He A' σ H' ρ' → Same (hid A H) (hid A' H') → Rep G (hid A' H') v d → Q v H'
def PX (X : Cx) (G : Gx) (e : Expr) (h : FZ) : Prop := ∀ ⦃A0⦄ He, PE X e (tX G A0 He h)
section
variable {X : Cx} {G : Gx} {a b c : Expr} {fa fb fc : FE} {pos p2 px rp p apos : Pos} {es : List Expr} {fs : FA} {h : FZ} {hs : FZA}
end
end PV
namespace PV
open PySem L2
abbrev Ef := List (Str × Bool × D)
abbrev FEs := Rho → Ef → Option (Rho × Ef)
abbrev FTE := Rho → Ef → Option Bool
def noOw (ρ : Rho) : Bool := ρ.all fun z => match z with | .ow _ => false | _ => true
def pureE (g : FS) : FEs := fun ρ ε => match g ρ with | some (.nx ρ') => if noOw ρ' = true then some (ρ', ε) else none | _ => none
def R3 (f : Str) (fe : FE) : FEs := fun ρ ε => (fe ρ).bind fun d => if (ε.lookup f).isNone = true ∧ ε.length < 1000 then some (ρ, ε ++ [(f, false, d)]) else none
def JC (f : Str) (fe : FE) : FEs := fun ρ ε => (fe ρ).bind fun d => if (ε.lookup f).isNone = true ∧ ε.length < 1000 then some (ρ, ε ++ [(f, true, d)]) else none
def repE (f : Str) (d : D) : Ef → Ef
 | [] => []
 | (g, b, x) :: r => if g = f then (g, b, d) :: r else (g, b, x) :: repE f d r
def JD (f : Str) (fk fv : FE) : FEs := fun ρ ε => (fv ρ).bind fun v => (fk ρ).bind fun k => match ε.lookup f with | some (true, d) => (Cg d k v).map fun d' => (ρ, repE f d' ε) | _ => none
def GK (t : FT) : FTE := fun ρ _ => t ρ
def inTE (f : Str) (fk : FE) : FTE := fun ρ ε => (fk ρ).bind fun k => match ε.lookup f with | some (true, .dk kds) => (keyD k).map fun q => (getK q kds).isSome | _ => none
def orTE (a b : FTE) : FTE := fun ρ ε => match a ρ ε with | some true => some true | some false => b ρ ε | none => none
def Ny (n : Nat) (x : Addr) (ds : List D) : Rho := CN n (.adr x :: ds)
def finE (c : Str) (ε : Ef) : D := .ob c (ε.map fun p => (p.1, p.2.2))
end PV
namespace PV
open PySem PySem.Spec L2
open PyProof.Rows hiding St
theorem Bg {ρ : Rho} (h : noOw ρ = true) (i : Nat) (d : D) : ρ[i]? ≠ some (.ow d) := fun e => by
 unfold noOw at h
 rw [List.all_eq_true] at h
 have := h _ (List.mem_of_getElem? e)
 cases this
inductive FsOk (G : Gx) (A0 A : List Addr) (H : Hp) (x : Addr) : List (Str × V) → Ef → List Addr → Prop
 | nil : FsOk G A0 A H x [] [] []
 | pl {f : Str} {v : V} {d : D} {fs : List (Str × V)} {ε : Ef} {as : List Addr} : Rep G (hid A H) v d → FsOk G A0 A H x fs ε as → FsOk G A0 A H x ((f, v) :: fs) ((f, false, d) :: ε) as
 | ow {f : Str} {a : Addr} {d : D} {fs : List (Str × V)} {ε : Ef} {as : List Addr} : a ∈ A → a ∉ A0 → a ≠ x → a ∉ as → Top G A H a d → FsOk G A0 A H x fs ε as → FsOk G A0 A H x ((f, .ref a) :: fs) ((f, true, d) :: ε) (a :: as)
section
variable {G : Gx} {A0 A A' : List Addr} {H H' : Hp} {x : Addr} {fs : List (Str × V)} {ε : Ef} {as : List Addr}
theorem FsOk.mp (h : FsOk G A0 A H x fs ε as) (r : ∀ v d, Rep G (hid A H) v d → Rep G (hid A' H') v d) (t : ∀ a ∈ as, ∀ d, Top G A H a d → Top G A' H' a d) (s : ∀ a ∈ as, a ∈ A → a ∈ A') : FsOk G A0 A' H' x fs ε as := by
 induction h with
 | nil => exact .nil
 | pl rv _ ih => exact .pl (r _ _ rv) (ih t s)
 | ow h1 h2 h3 h4 h5 _ ih => exact .ow (s _ List.mem_cons_self h1) h2 h3 h4 (t _ List.mem_cons_self _ h5) (ih (fun a ha => t a (List.mem_cons_of_mem _ ha)) (fun a ha => s a (List.mem_cons_of_mem _ ha)))
theorem FsOk.names (h : FsOk G A0 A H x fs ε as) : fs.map (·.1) = ε.map (·.1) := by
 induction h with
 | nil => rfl
 | pl _ _ ih => simp [ih]
 | ow _ _ _ _ _ _ ih => simp [ih]
theorem FsOk.len (h : FsOk G A0 A H x fs ε as) : fs.length = ε.length := by
 have := congrArg List.length h.names
 simpa using this
theorem FsOk.ne (h : FsOk G A0 A H x fs ε as) : ∀ a ∈ as, a ∈ A ∧ a ∉ A0 ∧ a ≠ x := by
 induction h with
 | nil => intro a ha; cases ha
 | pl _ _ ih => exact ih
 | ow h1 h2 h3 _ _ _ ih =>
  intro a ha
  rcases List.mem_cons.mp ha with z | z
  ·subst z; exact ⟨h1, h2, h3⟩
  ·exact ih a z
theorem Il {f : Str} {v : V} : ∀ {fs : List (Str × V)}, fs.lookup f = none → L2.putF f v fs = fs ++ [(f, v)]
 | [], _ => rfl
 | (g, y) :: r, h => by
  by_cases hf : f = g
  ·subst hf; simp [List.lookup_cons] at h
  ·have hb : (f == g) = false := beq_eq_false_iff_ne.mpr hf
   simp only [List.lookup_cons, hb] at h
   show (if g = f then (g, v) :: r else (g, y) :: L2.putF f v r) = _
   rw [if_neg (fun z => hf z.symm), Il h]
   rfl
theorem FsOk.none {f : Str} (h : FsOk G A0 A H x fs ε as) (e : ε.lookup f = none) : fs.lookup f = none := by
 induction h with
 | nil => rfl
 | @pl g v d fs ε as _ _ ih =>
  by_cases hf : f = g
  ·subst hf; simp [List.lookup_cons] at e
  ·have hb : (f == g) = false := beq_eq_false_iff_ne.mpr hf
   simp only [List.lookup_cons, hb] at e ⊢
   exact ih e
 | @ow g a d fs ε as _ _ _ _ _ _ ih =>
  by_cases hf : f = g
  ·subst hf; simp [List.lookup_cons] at e
  ·have hb : (f == g) = false := beq_eq_false_iff_ne.mpr hf
   simp only [List.lookup_cons, hb] at e ⊢
   exact ih e
theorem FsOk.snocP {f : Str} {v : V} {d : D} (h : FsOk G A0 A H x fs ε as) (r : Rep G (hid A H) v d) : FsOk G A0 A H x (fs ++ [(f, v)]) (ε ++ [(f, false, d)]) as := by
 induction h with
 | nil => exact .pl r .nil
 | pl rv _ ih => exact .pl rv ih
 | ow h1 h2 h3 h4 h5 _ ih => exact .ow h1 h2 h3 h4 h5 ih
theorem FsOk.snocO {f : Str} {a : Addr} {d : D} (h : FsOk G A0 A H x fs ε as) (h1 : a ∈ A) (h2 : a ∉ A0) (h3 : a ≠ x) (h4 : a ∉ as) (t : Top G A H a d) : FsOk G A0 A H x (fs ++ [(f, .ref a)]) (ε ++ [(f, true, d)]) (as ++ [a]) := by
 induction h with
 | nil => exact .ow h1 h2 h3 (fun z => nomatch z) t .nil
 | pl rv _ ih => exact .pl rv (ih h4)
 | @ow g b e fs ε as q1 q2 q3 q4 q5 _ ih =>
  have hb : a ≠ b := fun z => h4 (by simp [z])
  refine .ow q1 q2 q3 (fun z => ?_) q5 (ih fun z => h4 (List.mem_cons_of_mem _ z))
  rcases List.mem_append.mp z with z | z
  ·exact q4 z
  ·simp at z; exact hb z.symm
theorem FsOk.get {f : Str} {d : D} (h : FsOk G A0 A H x fs ε as) (e : ε.lookup f = some (true, d)) : ∃ a, fs.lookup f = some (.ref a) ∧ a ∈ as ∧ a ∈ A ∧ a ∉ A0 ∧ a ≠ x ∧ Top G A H a d := by
 induction h with
 | nil => cases e
 | @pl g v d' fs ε as _ _ ih =>
  by_cases hf : f = g
  ·subst hf; simp [List.lookup_cons] at e
  ·have hb : (f == g) = false := beq_eq_false_iff_ne.mpr hf
   simp only [List.lookup_cons, hb] at e ⊢
   exact ih e
 | @ow g a d' fs ε as h1 h2 h3 _ h5 _ ih =>
  by_cases hf : f = g
  ·subst hf
   simp only [List.lookup_cons, beq_self_eq_true, Option.some.injEq, Prod.mk.injEq, true_and] at e ⊢
   subst e
   exact ⟨a, rfl, List.mem_cons_self, h1, h2, h3, h5⟩
  ·have hb : (f == g) = false := beq_eq_false_iff_ne.mpr hf
   simp only [List.lookup_cons, hb] at e ⊢
   obtain ⟨a', q1, q2, q3⟩ := ih e
   exact ⟨a', q1, List.mem_cons_of_mem _ q2, q3⟩
theorem FsOk.wr {f : Str} {d d' : D} {a : Addr} (h : FsOk G A0 A H x fs ε as) (e : ε.lookup f = some (true, d)) (ea : fs.lookup f = some (.ref a)) (sx : JB a H H') (hA : a ∈ A) (t : Top G A H' a d') : FsOk G A0 A H' x fs (repE f d' ε) as := by
 have sm := Et hA sx
 induction h with
 | nil => cases e
 | @pl g v d2 fs ε as rv hr ih =>
  by_cases hf : f = g
  ·subst hf; simp [List.lookup_cons] at e
  ·have hb : (f == g) = false := beq_eq_false_iff_ne.mpr hf
   simp only [List.lookup_cons, hb] at e ea
   unfold repE
   rw [if_neg (fun z => hf z.symm)]
   exact .pl (rv.mono sm) (ih e ea)
 | @ow g b d2 fs ε as h1 h2 h3 h4 h5 hr ih =>
  by_cases hf : f = g
  ·subst hf
   simp only [List.lookup_cons, beq_self_eq_true, Option.some.injEq, V.ref.injEq] at ea
   subst ea
   unfold repE
   rw [if_pos rfl]
   refine .ow h1 h2 h3 h4 t (hr.mp (fun v d r => r.mono sm) (fun c hc d t' => t'.other (fun z => h4 (by rw [← z]; exact hc)) hA sx) fun _ _ z => z)
  ·have hb : (f == g) = false := beq_eq_false_iff_ne.mpr hf
   simp only [List.lookup_cons, hb] at e ea
   obtain ⟨a', q1, q2, _⟩ := hr.get e
   rw [ea] at q1
   cases q1
   unfold repE
   rw [if_neg (fun z => hf z.symm)]
   exact .ow h1 h2 h3 h4 (h5.other (fun z => h4 (z ▸ q2)) hA sx) (ih e ea)
end
structure EOk (G : Gx) (c : Str) (A0 : List Addr) (He : Hp) (x : Addr) (A : List Addr) (σ : St) (H : Hp) (ρ : Rho) (ε : Ef) : Prop where
 w : OkW G A0 He A σ H ρ
 no : noOw ρ = true
 xA : x ∈ A
 x0 : x ∉ A0
 s0 : ρ[0]? = some (.fz (.adr x))
 ob : ∃ C dx fs as, H x = some (.ins C dx fs) ∧ G.cl c = some C ∧ FsOk G A0 A H x fs ε as
def EOkS (G : Gx) (c : Str) (A0 : List Addr) (He : Hp) (x : Addr) (σ : St) (H : Hp) (ρ : Rho) (ε : Ef) : Prop := ∃ A, EOk G c A0 He x A σ H ρ ε
section
variable {G : Gx} {c : Str} {A0 : List Addr} {He : Hp} {x : Addr} {A : List Addr} {σ : St} {H H' : Hp} {ρ : Rho} {ε : Ef}
theorem EOk.at0 (o : EOk G c A0 He x A σ H ρ ε) : σ[0]? = some (some (.ref x)) := by
 obtain ⟨v, h1, h2⟩ := o.w.ok.fz 0 _ o.s0
 cases h2
 exact h1
theorem EOk.mono (o : EOk G c A0 He x A σ H ρ ε) (s : Same H H') : EOk G c A0 He x A σ H' ρ ε := by
 obtain ⟨C, dx, fs, as, h1, h2, h3⟩ := o.ob
 exact ⟨o.w.mono s, o.no, o.xA, o.x0, o.s0, C, dx, fs, as, s _ _ h1, h2, h3.mp (fun v d r => r.mono (Aw s)) (fun a ha d t => t.mono s) fun _ _ z => z⟩
theorem Vp {B : List Addr} (s : Same H H') (fr : ∀ a ∈ B, a ∈ A ∨ H a = none) : Same (hid A H) (hid B H') := fun b u h => by
 unfold hid at h
 split at h
 ·cases h
 ·rename_i hb
  rw [Bb]
  ·exact s b u h
  ·intro z
   rcases fr b z with q | q
   ·exact hb q
   ·rw [q] at h; cases h
theorem Top.plain {B : List Addr} {a : Addr} {d : D} (t : Top G A H a d) (s : Same H H') (p : Same (hid A H) (hid B H')) : Top G B H' a d := by
 cases d with
 | lst ds => obtain ⟨xs, q1, q2⟩ := t; exact ⟨xs, s _ _ q1, q2.mono p⟩
 | dk ds => obtain ⟨xs, q1, q2, q3⟩ := t; exact ⟨xs, s _ _ q1, q2, q3.mono p⟩
 | dt ds => obtain ⟨xs, q1, q2, q3⟩ := t; exact ⟨xs, s _ _ q1, q2, q3.mono p⟩
 | ob c gs => obtain ⟨C, dx, xs, q1, q2, q3⟩ := t; exact ⟨C, dx, xs, s _ _ q1, q2, q3.mono p⟩
 | _ => exact t.elim
theorem EOk.frame (o : EOk G c A0 He x A σ H ρ ε) : OkS G A H σ H ρ := ⟨A, Same.refl H, fun _ h => h, fun a h => .inl h, fun a ha => (o.w.ok.live a ha).ne, o.w.ok, fun i d a h _ => absurd h (Bg o.no i d), fun y d _ h => absurd h (Bg o.no 0 d)⟩
theorem EOk.unframe {σ' : St} {ρ' : Rho} (o : EOk G c A0 He x A σ H ρ ε) (w : OkS G A H σ' H' ρ') (no : noOw ρ' = true) (s0 : ρ'[0]? = some (.fz (.adr x))) : EOkS G c A0 He x σ' H' ρ' ε := by
 obtain ⟨B, w⟩ := w
 have pl : Same (hid A H) (hid B H') := Vp w.same w.fr
 obtain ⟨C, dx, fs, as, h1, h2, h3⟩ := o.ob
 refine ⟨B, ⟨o.w.same.trans w.same, fun a ha => w.sub a (o.w.sub a ha), fun a ha => ?_, o.w.l0, w.ok, fun i d a h _ => absurd h (Bg no i d), fun y d _ h => absurd h (Bg no 0 d)⟩, no, w.sub x o.xA, o.x0, s0, C, dx, fs, as, w.same _ _ h1, h2, h3.mp (fun v d r => r.mono pl) (fun a ha d t => t.plain w.same pl) fun a _ ha => w.sub a ha⟩
 rcases w.fr a ha with q | q
 ·exact o.w.fr a q
 ·exact .inr (o.w.same.free q)
theorem EOk.wr {p : Addr} {ε' : Ef} (o : EOk G c A0 He x A σ H ρ ε) (hp : p ∈ A) (h0 : p ∉ A0) (sx : JB p H H') (lv : Nt (H' p)) (ob : ∃ C dx fs as, H' x = some (.ins C dx fs) ∧ G.cl c = some C ∧ FsOk G A0 A H' x fs ε' as) : EOk G c A0 He x A σ H' ρ ε' := by
 have hep : He p = none := (o.w.fr p hp).resolve_left h0
 have sm := Et hp sx
 refine ⟨⟨fun b u h => sx b u (An h hep) (o.w.same b u h), o.w.sub, o.w.fr, o.w.l0, ⟨o.w.ok.len, fun b hb => ?_, fun j e h => ?_, fun j e h => absurd h (Bg o.no j e), fun i j d e a h _ _ _ => absurd h (Bg o.no i d)⟩, fun i d a h _ => absurd h (Bg o.no i d), fun y d _ h => absurd h (Bg o.no 0 d)⟩, o.no, o.xA, o.x0, o.s0, ob⟩
 ·by_cases z : b = p
  ·rw [z]; exact lv
  ·exact (o.w.ok.live b hb).mono fun u e => sx b u z e
 ·obtain ⟨v, q1, q2⟩ := o.w.ok.fz j e h
  exact ⟨v, q1, q2.mono sm⟩
end
def tE (G : Gx) (c : Str) (A0 : List Addr) (He : Hp) (x : Addr) (g : FEs) : TS := fun D σ H => ∃ ρ ε r, EOkS G c A0 He x σ H ρ ε ∧ g ρ ε = some r ∧ ∀ σ' H', EOkS G c A0 He x σ' H' r.1 r.2 → D.nx σ' H'
def PSE (X : Cx) (G : Gx) (c : Str) (st : Stmt) (g : FEs) : Prop := ∀ ⦃A0⦄ He x, PS X st (tE G c A0 He x g)
def tTE (G : Gx) (c : Str) (A0 : List Addr) (He : Hp) (x : Addr) (t : FTE) : TT := fun σ H Q => ∃ A ρ ε b, EOk G c A0 He x A σ H ρ ε ∧ t ρ ε = some b ∧ ∀ H', Same H H' → Q b H'
def PTE (X : Cx) (G : Gx) (c : Str) (e : Expr) (t : FTE) : Prop := ∀ ⦃A0⦄ He x, PT X e (tTE G c A0 He x t)
def PWE (X : Cx) (G : Gx) (c : Str) (e : Expr) (t : FTE) : Prop := ∀ ⦃A0⦄ He x, PW X e (tTE G c A0 He x t)
section
variable {X : Cx} {G : Gx} {c : Str} {a b e k it tg : Expr} {fa fb fk : FE} {pos p2 p px : Pos} {st : Stmt} {rest body : List Stmt} {g gs : FEs} {gp : FS} {ta tb : FTE} {tp : FT}
theorem KY (h : PSD X G st gp) (hk : ∀ ρ ρ', gp ρ = some (.nx ρ') → ρ'[0]? = ρ[0]?) : PSE X G c st (pureE gp) := fun A0 He x pins s σ H D I ⟨ρ, ε, r, ⟨A, o⟩, e, k⟩ => by
 unfold pureE at e
 split at e
 ·rename_i ρ' e1
  split at e
  ·rename_i no
   cases e
   refine @h A H pins s σ H D I ⟨ρ, _, o.frame, e1, fun σ' H' w => k σ' H' (o.unframe w no (by rw [hk ρ ρ' e1]; exact o.s0))⟩
  ·cases e
 ·cases e
theorem Pb (h : PFT X G e tp) : PTE X G c e (GK tp) := fun A0 He x => fun pins s σ H Q I ⟨A, ρ, ε, b, o, e, k⟩ => @h A pins s σ H Q I ⟨ρ, b, o.w.ok, e, k⟩
theorem YD (h : PTE X G c a ta) : PWE X G c (.BoolOp .Or [a] pos) ta := fun A0 He x => Ue (@h A0 He x)
theorem aU {rest : List Expr} (ha : PTE X G c a ta) (hb : PWE X G c (.BoolOp .Or (b :: rest) pos) tb) : PWE X G c (.BoolOp .Or (a :: b :: rest) pos) (orTE ta tb) := fun A0 He x => VJ (Ys (@ha A0 He x) (@hb A0 He x)) fun σ H Q ⟨A, ρ, ε, d, o, e, k⟩ => by
 unfold orTE at e
 split at e
 ·rename_i e1
  cases e
  exact ⟨A, ρ, ε, _, o, e1, fun H1 s1 => iteT (k H1 s1)⟩
 ·rename_i e1
  exact ⟨A, ρ, ε, _, o, e1, fun H1 s1 => iteF ⟨A, ρ, ε, d, o.mono s1, e, fun H2 s2 => k H2 (s1.trans s2)⟩⟩
 ·cases e
theorem PWE.pt (h : PWE X G c a ta) : PTE X G c a ta := fun A0 He x => (@h A0 He x).pt
theorem aV {x f : Str} {ap : Pos} (hu : X.A.units + 1 < cLine) (hcl : ∀ c C, G.cl c = some C → Cls X.K C ∧ BW X.K C f) (hv : PE X (.Name x px) (tVar 0)) (ha : PF X G a fa) (hb : attributeBase (.Name x px) f X.env (eval (.Name x px) X.env) = eval (.Name x px) X.env := by rfl)
  (hm : behindInMarks .In (.Attribute (.Name x px) f ap) = false := by rfl) : PTE X G c (.Compare a [.In] [.Attribute (.Name x px) f ap] pos) (inTE f fa) := fun A0 He y pins s σ H Q I ⟨A, ρ, ε, d, o, e, k⟩ => by
 refine Q8 (Ql hu) (@ha A) (QS hv hb) hm pins s σ H Q I ?_
 unfold inTE at e
 cases e1 : fa ρ with
 | none => simp [e1] at e
 | some kd =>
  simp only [e1, Option.bind_some] at e
  split at e
  ·rename_i kds e2
   cases e3 : keyD kd with
   | none => simp [e3] at e
   | some q =>
    simp only [e3, Option.map_some] at e
    cases e
    refine ⟨ρ, kd, o.w.ok, e1, fun v H1 s1 r1 => ?_⟩
    obtain ⟨C, dx, fs, as, h1, h2, h3⟩ := (o.mono s1).ob
    obtain ⟨p, q1, q2, q3, q4, q5, kvs, t1, t2, t3⟩ := h3.get e2
    refine ⟨_, o.at0, y, C, dx, fs, _, rfl, h1, (hcl _ _ h2).1, (hcl _ _ h2).2, q1, p, kvs, q, rfl, .of t1, Er r1 e3, ?_⟩
    rw [(Gn (k := q) t2 t3).2]
    exact ⟨_, rfl, k H1 s1⟩
  ·cases e
theorem Vq {x f : Str} {pos' : Pos} (hcl : ∀ c C, G.cl c = some C → Cls X.K C ∧ BW X.K C f) (hv : PE X (.Name x px) (tVar 0)) (ha : PF X G a fa) (hsw : swapsWith a (some (.Attribute (.Name x px) f pos')) pos.line X.env = pure false := by rfl) :
  PSE X G c (.Assign [.Attribute (.Name x px) f pos'] a pos) (R3 f fa) := fun A0 He y pins s σ H D I ⟨ρ, ε, r, ⟨A, o⟩, e, k⟩ => by
 refine Ur hv (@ha A) hsw pins s σ H D I ?_
 unfold R3 at e
 cases e1 : fa ρ with
 | none => simp [e1] at e
 | some d =>
  simp only [e1, Option.bind_some] at e
  split at e
  ·rename_i hz
   cases e
   refine ⟨ρ, d, o.w.ok, e1, fun u H1 s1 r1 => ?_⟩
   have o1 := o.mono s1
   obtain ⟨C, dx, fs, as, h1, h2, h3⟩ := o1.ob
   have hn := h3.none (Option.isNone_iff_eq_none.mp hz.1)
   refine ⟨_, o.at0, y, C, dx, fs, rfl, h1, (hcl _ _ h2).1, (hcl _ _ h2).2, by rw [h3.len]; exact hz.2, ?_⟩
   rw [Il hn]
   have sx : JB y H1 (upd H1 y (.ins C dx (fs ++ [(f, u)]))) := fun b w hb hw => by rw [Ad hb]; exact hw
   have sm := Et o1.xA sx
   refine k _ _ ⟨A, o1.wr o1.xA o1.x0 sx (by rw [Ae]; exact Nt.ins) ⟨C, dx, _, as, Ae, h2, ?_⟩⟩
   exact (h3.mp (fun v d r => r.mono sm) (fun p hp d t => t.other (h3.ne p hp).2.2 o1.xA sx) fun _ _ z => z).snocP (r1.mono sm)
  ·cases e
theorem Pg {x f : Str} {pos' : Pos} (hcl : ∀ c C, G.cl c = some C → Cls X.K C ∧ BW X.K C f) (hv : PE X (.Name x px) (tVar 0)) (ha : PN X G a fa) (hsw : swapsWith a (some (.Attribute (.Name x px) f pos')) pos.line X.env = pure false := by rfl) :
    PSE X G c (.Assign [.Attribute (.Name x px) f pos'] a pos) (JC f fa) := fun A0 He y pins s σ H D I ⟨ρ, ε, r, ⟨A, o⟩, e, k⟩ => by
  refine Ur hv (@ha A) hsw pins s σ H D I ?_
  unfold JC at e
  cases e1 : fa ρ with
  | none => simp [e1] at e
  | some d =>
    simp only [e1, Option.bind_some] at e
    split at e
    · rename_i hz
      cases e
      refine ⟨ρ, d, o.w.ok, e1, fun q H1 s1 hq t => ?_⟩
      obtain ⟨C, dx, fs, as, h1, h2, h3⟩ := o.ob
      have nqA : q ∉ A := fun z => (o.w.ok.live q z).ne hq
      have pl : Same (hid A H) (hid (q :: A) H1) := Ih s1 hq
      have hn := h3.none (Option.isNone_iff_eq_none.mp hz.1)
      have nq0 : q ∉ A0 := fun z => nqA (o.w.sub q z)
      have nqy : q ≠ y := fun z => nqA (z ▸ o.xA)
      have nqs : q ∉ as := fun z => nqA (h3.ne q z).1
      have o1 : EOk G c A0 He y (q :: A) σ H1 ρ ε := ⟨⟨o.w.same.trans s1, fun a ha => List.mem_cons_of_mem _ (o.w.sub a ha), fun a ha => by
          rcases List.mem_cons.mp ha with z | z
          · rw [z]; exact .inr (o.w.same.free hq)
          · exact o.w.fr a z, o.w.l0, o.w.ok.fill s1 hq t.live, fun i d a h _ => absurd h (Bg o.no i d), fun y d _ h => absurd h (Bg o.no 0 d)⟩, o.no, List.mem_cons_of_mem _ o.xA, o.x0, o.s0, C, dx, fs, as, s1 _ _ h1, h2,
          h3.mp (fun v d r => r.mono pl) (fun p hp d t => t.plain s1 pl) fun p _ hp => List.mem_cons_of_mem _ hp⟩
      have g1 := s1 _ _ h1
      have g2 := h2
      have g3 : FsOk G A0 (q :: A) H1 y fs ε as := h3.mp (fun v d r => r.mono pl) (fun p hp d t => t.plain s1 pl) fun p _ hp => List.mem_cons_of_mem _ hp
      have hn' := g3.none (Option.isNone_iff_eq_none.mp hz.1)
      refine ⟨_, o.at0, y, C, dx, fs, rfl, g1, (hcl _ _ g2).1, (hcl _ _ g2).2, by rw [g3.len]; exact hz.2, ?_⟩
      rw [Il hn']
      have sx : JB y H1 (upd H1 y (.ins C dx (fs ++ [(f, .ref q)]))) := fun b w hb hw => by rw [Ad hb]; exact hw
      have sm := Et o1.xA sx
      refine k _ _ ⟨q :: A, o1.wr o1.xA o1.x0 sx (by rw [Ae]; exact Nt.ins) ⟨C, dx, _, as ++ [q], Ae, g2, ?_⟩⟩
      exact (g3.mp (fun v d r => r.mono sm) (fun p hp d t => t.other (g3.ne p hp).2.2 o1.xA sx) fun _ _ z => z).snocO List.mem_cons_self nq0 nqy nqs (t.other nqy o1.xA sx)
    · cases e
theorem Ph {x f : Str} {ap spos : Pos} (hu : X.A.units + 1 < cLine) (hcl : ∀ c C, G.cl c = some C → Cls X.K C ∧ BW X.K C f) (hv : PE X (.Name x px) (tVar 0)) (ha : PF X G a fa) (hb : PF X G b fb) (hbase : attributeBase (.Name x px) f X.env (eval (.Name x px) X.env) = eval (.Name x px) X.env := by rfl)
  (hs : swapsWith b (some (.Subscript (.Attribute (.Name x px) f ap) a spos)) pos.line X.env = pure false := by rfl) : PSE X G c (.Assign [.Subscript (.Attribute (.Name x px) f ap) a spos] b pos) (JD f fa fb) := fun A0 He y pins s σ H D I ⟨ρ, ε, r, ⟨A, o⟩, e, k⟩ => by
 refine MF hu (QS hv hbase) (@ha A) (@hb A) hs pins s σ H D I ?_
 unfold JD at e
 cases e1 : fb ρ with
 | none => simp [e1] at e
 | some v =>
  cases e2 : fa ρ with
  | none => simp [e1, e2] at e
  | some kd =>
   simp only [e1, e2, Option.bind_some] at e
   split at e
   ·rename_i d e3
    cases e4 : Cg d kd v with
    | none => simp [e4] at e
    | some d' =>
     simp only [e4, Option.map_some] at e
     cases e
     unfold Cg at e4
     split at e4
     ·rename_i kds
      cases e5 : keyD kd with
      | none => simp [e5] at e4
      | some q =>
       simp only [e5, Option.bind_some] at e4
       split at e4
       ·rename_i hz
        cases e4
        refine ⟨ρ, v, o.w.ok, e1, fun u H1 s1 r1 => ?_⟩
        have o1 := o.mono s1
        obtain ⟨C, dx, fs, as, h1, h2, h3⟩ := o1.ob
        obtain ⟨p, q1, q2, q3, q4, q5, kvs, t1, t2, t3⟩ := h3.get e3
        refine ⟨_, o.at0, y, C, dx, fs, _, rfl, h1, (hcl _ _ h2).1, (hcl _ _ h2).2, q1, ρ, kd, o1.w.ok, e2, fun yv H2 s2 r2 => ?_⟩
        have ek := Er r2 e5
        subst ek
        have o2 := o1.mono s2
        obtain ⟨C', dx', fs', as', g1, g2, g3⟩ := o2.ob
        rw [s2 _ _ h1] at g1
        cases g1
        have hl : kvs.length < sizeLine := by
         have := congrArg List.length t2
         rw [List.length_map, List.length_map] at this
         omega
        refine ⟨p, _, rfl, DPut.k (s2 _ _ t1) hl, ?_⟩
        have pk := Nr (k := q) (r1.mono (Aw s2)) t2 (t3.mono (Aw s2))
        have sx : JB p H2 (upd H2 p (.dK (putK kvs q u))) := fun b w hb hw => by rw [Ad hb]; exact hw
        refine k _ _ ⟨A, o2.wr q3 q4 sx (by rw [Ae]; exact Nt.dK) ⟨C, dx, fs, as', by rw [Ad (Ne.symm q5)]; exact s2 _ _ h1, g2, ?_⟩⟩
        refine g3.wr e3 q1 sx q3 ⟨_, Ae, pk.1, ?_⟩
        rw [Ca q3]
        exact pk.2
       ·cases e4
     ·cases e4
   ·cases e
theorem EOk.frameW {A0 : List Addr} {He : Hp} {x : Addr} {A : List Addr} {σ : St} {H : Hp} {ρ : Rho} {ε : Ef} (o : EOk G c A0 He x A σ H ρ ε) : OkW G A H A σ H ρ := ⟨Same.refl H, fun _ h => h, fun a h => .inl h, fun a ha => (o.w.ok.live a ha).ne, o.w.ok, fun i d a h _ => absurd h (Bg o.no i d), fun y d _ h => absurd h (Bg o.no 0 d)⟩
end
end PV
namespace PV
open PySem PySem.Spec L2
open PyProof.Rows hiding St
theorem KZ {A : List Addr} {p b : Addr} : b ∈ A.filter (fun b => decide (b ≠ p)) ↔ b ∈ A ∧ b ≠ p := by simp [List.mem_filter]
theorem YF {X : Cx} {G : Gx} {A : List Addr} {pins : List (Addr × Obj)} {s : Shared} {σ : St} {H : Hp} {a : Addr} {d : D} (I : Inv X pins σ H s) (hA : a ∈ A) (t : Top G A H a d) :
  ∃ H', Inv X pins σ H' s ∧ (∀ b, b ≠ a → H' b = H b) ∧ Same (hid A H) (hid (A.filter fun b => decide (b ≠ a)) H') ∧ Rep G (hid (A.filter fun b => decide (b ≠ a)) H') (.ref a) d := by
 have key : ∀ H' : Hp, (∀ b, b ≠ a → H' b = H b) → Same (hid A H) (hid (A.filter fun b => decide (b ≠ a)) H') := fun H' hh b u h => by
  unfold hid at h
  split at h
  ·cases h
  ·rename_i hb
   rw [Bb (fun z => hb (KZ.mp z).1), hh b (fun z => hb (z ▸ hA))]
   exact h
 have at0 : ∀ H' : Hp, hid (A.filter fun b => decide (b ≠ a)) H' a = H' a := fun H' => Bb (fun z => (KZ.mp z).2 rfl)
 cases d with
 | lst ds =>
  obtain ⟨xs, a1, a2⟩ := t
  have sm := key H fun _ _ => rfl
  exact ⟨H, I, fun _ _ => rfl, sm, .lst (.of (by rw [at0]; exact a1)) (a2.mono sm).1 (a2.mono sm).2⟩
 | dk ds =>
  obtain ⟨xs, a1, a2, a3⟩ := t
  obtain ⟨o, I'⟩ := Inv.frzK I a1
  have sm := key _ fun b hb => Ad (o := .frz o (.dK xs)) hb
  exact ⟨_, I', fun b hb => Ad hb, sm, .dk (by rw [at0]; exact Ae) a2 (a3.mono sm).2⟩
 | dt ds =>
  obtain ⟨xs, a1, a2, a3⟩ := t
  obtain ⟨o, I'⟩ := Inv.frzT I a1
  have sm := key _ fun b hb => Ad (o := .frz o (.dT xs)) hb
  exact ⟨_, I', fun b hb => Ad hb, sm, .dt (by rw [at0]; exact Ae) a2 (a3.mono sm).2⟩
 | ob c gs =>
  obtain ⟨C, dx, xs, a1, a2, a3⟩ := t
  have sm := key H fun _ _ => rfl
  exact ⟨H, I, fun _ _ => rfl, sm, .ob a2.1 (by rw [at0]; exact a1) a2.2 (a3.mono sm).2⟩
 | _ => exact t.elim
theorem FsOk.frz {X : Cx} {G : Gx} {A0 A : List Addr} {pins : List (Addr × Obj)} {s : Shared} {σ : St} {H : Hp} {x : Addr} {fs : List (Str × V)} {ε : Ef} {as : List Addr} (h : FsOk G A0 A H x fs ε as) (I : Inv X pins σ H s) :
  ∃ H' A', Inv X pins σ H' s ∧ (∀ b, b ∉ as → H' b = H b) ∧ (∀ b, b ∈ A' ↔ b ∈ A ∧ b ∉ as) ∧ Same (hid A H) (hid A' H') ∧ RepL G (hid A' H') (fs.map (·.2)) (ε.map fun p => p.2.2) := by
 induction h with
 | nil => exact ⟨H, A, I, fun _ _ => rfl, fun b => by simp, Same.refl _, .nil⟩
 | pl rv _ ih =>
  obtain ⟨H', A', i1, i2, i3, i4, i5⟩ := ih
  exact ⟨H', A', i1, i2, i3, i4, .cons (rv.mono i4) i5⟩
 | @ow f a d fs ε as h1 h2 h3 h4 t _ ih =>
  obtain ⟨H1, A1, i1, i2, i3, i4, i5⟩ := ih
  have ha : a ∈ A1 := (i3 a).mpr ⟨h1, h4⟩
  have e1 : H1 a = H a := i2 a h4
  have t1 : Top G A1 H1 a d := by
   cases d with
   | lst ds => obtain ⟨xs, q1, q2⟩ := t; exact ⟨xs, by rw [e1]; exact q1, q2.mono i4⟩
   | dk ds => obtain ⟨xs, q1, q2, q3⟩ := t; exact ⟨xs, by rw [e1]; exact q1, q2, q3.mono i4⟩
   | dt ds => obtain ⟨xs, q1, q2, q3⟩ := t; exact ⟨xs, by rw [e1]; exact q1, q2, q3.mono i4⟩
   | ob c gs => obtain ⟨C, dx, xs, q1, q2, q3⟩ := t; exact ⟨C, dx, xs, by rw [e1]; exact q1, q2, q3.mono i4⟩
   | _ => exact t.elim
  obtain ⟨H2, j1, j2, j3, j4⟩ := YF i1 ha t1
  refine ⟨H2, A1.filter fun b => decide (b ≠ a), j1, fun b hb => ?_, fun b => ?_, i4.trans j3, .cons j4 (i5.mono j3)⟩
  ·rw [j2 b (fun z => hb (by simp [z])), i2 b (fun z => hb (List.mem_cons_of_mem _ z))]
  ·rw [KZ, i3 b]
   simp only [List.mem_cons, not_or]
   exact ⟨fun ⟨⟨p1, p2⟩, p3⟩ => ⟨p1, p3, p2⟩, fun ⟨p1, p3, p2⟩ => ⟨⟨p1, p2⟩, p3⟩⟩
theorem EOk.whole {X : Cx} {G : Gx} {c : Str} {A0 : List Addr} {He : Hp} {x : Addr} {A : List Addr} {pins : List (Addr × Obj)} {s : Shared} {σ : St} {H : Hp} {ρ : Rho} {ε : Ef} (o : EOk G c A0 He x A σ H ρ ε) (I : Inv X pins σ H s) :
  ∃ H', Inv X pins σ H' s ∧ Same He H' ∧ Rep G (hid A0 H') (.ref x) (finE c ε) := by
 obtain ⟨C, dx, fs, as, h1, h2, h3⟩ := o.ob
 obtain ⟨H', A', i1, i2, i3, i4, i5⟩ := h3.frz I
 have nx : x ∉ as := fun z => (h3.ne x z).2.2 rfl
 refine ⟨H', i1, fun b u hb => ?_, ?_⟩
 ·rw [i2 b (fun z => ?_)]
  ·exact o.w.same b u hb
  ·obtain ⟨q1, q2, _⟩ := h3.ne b z
   rw [(o.w.fr b q1).resolve_left q2] at hb
   cases hb
 ·have sb : ∀ a ∈ A0, a ∈ A' := fun a ha => (i3 a).mpr ⟨o.w.sub a ha, fun z => (h3.ne a z).2.1 ha⟩
  have en : fs.map (·.1) = (ε.map fun p => (p.1, p.2.2)).map (·.1) := by
   rw [h3.names, List.map_map]
   rfl
  have es : (ε.map fun p => (p.1, p.2.2)).map (·.2) = ε.map fun p => p.2.2 := by rw [List.map_map]; rfl
  refine .ob h2 (by rw [Bb o.x0, i2 x nx]; exact h1) en ?_
  rw [es]
  exact (i5.mono (CT sb)).2
theorem HF (n : Nat) (ds : List D) : noOw (CN n ds) = true := by
 unfold noOw CN
 rw [List.all_eq_true]
 intro z hz
 rcases List.mem_append.mp hz with q | q
 ·obtain ⟨d, _, rfl⟩ := List.mem_map.mp q; rfl
 ·rw [(List.mem_replicate.mp q).2]
section
variable {X : Cx} {G : Gx} {a b : Expr} {fa fb : FE} {pos p2 p : Pos} {es : List Expr} {fs : FA}
end
theorem Nz {f : FE} (ρ ρ' : Rho) (h : DX f ρ = some (.nx ρ')) : ρ'[0]? = ρ[0]? := by
 unfold DX at h
 cases e : f ρ with
 | none => simp [e] at h
 | some d => simp [e] at h; rw [h]
def K0s (g : FGs) : Prop := ∀ ds ρ ρ', g ds ρ = some ρ' → ρ'[0]? = ρ[0]?
theorem Vr : K0s nilG := fun ds ρ ρ' h => by
 unfold nilG at h
 split at h
 ·cases h; rfl
 ·cases h
theorem Js {i : Nat} {g : FGs} (hi : i ≠ 0) (hg : K0s g) : K0s (Bq i g) := fun ds ρ ρ' h => by
 unfold Bq at h
 split at h
 ·rw [hg _ _ _ h, List.getElem?_set_ne hi]
 ·cases h
theorem Vs {n : Nat} {g : FGs} (hg : K0s g) (d : D) (ρ ρ' : Rho) (h : tupG n g d ρ = some ρ') : ρ'[0]? = ρ[0]? := by
 unfold tupG at h
 split at h
 ·split at h
  ·exact hg _ _ _ h
  ·cases h
 ·split at h
  ·exact hg _ _ _ h
  ·cases h
 ·cases h
end PV
namespace PV
open PySem PySem.W PySem.Calls PyProof.Rows L2
end PV
namespace PySem
open PySem.Spec
section
variable {prog : Program} {w : World} {A : Around} {I d : Addr} {ep : Nat} {es : Array DictEntry} {od : Obj}
end
end PySem
namespace PV
open PySem PySem.Spec L2
open PyProof.Rows hiding St
section
variable {X : Cx} {G : Gx}
theorem RepT.dt {A : List Addr} {H : Hp} {v : V} {kds : List (List Key × D)} (r : RepT G A H v (.dt kds)) : ∃ a kvs, v = .ref a ∧ Rd H a (.dT kvs) ∧ kvs.map (·.1) = kds.map (·.1) ∧ RepL G (hid A H) (kvs.map (·.2)) (kds.map (·.2)) := by
 rcases r with r | ⟨a, e, kvs, h, k, r⟩
 ·cases r with
  | dt h k r =>
   refine ⟨_, _, rfl, .inr ⟨_, Al _ _ h⟩, k, ?_, r⟩
   have := congrArg List.length k
   rw [List.length_map, List.length_map] at this ⊢
   exact this
 ·exact ⟨a, kvs, e, .of h, k, r⟩
end
end PV
namespace PV
open PySem PySem.Spec L2
open PyProof.Rows hiding St
section
variable {X : Cx} {G : Gx}
end
end PV
namespace PV
open PySem PySem.Spec L2
open PyProof.Rows hiding St
structure FunD (K : PySem.W.Frag) (x qual : Str) (st : Stmt) (f : Addr) (fd : FuncData) : Prop where
 ex : ∃ (oc : Value) (od : Option Addr) (dV kV doc pm : Value) (an : Option Addr) (cdv ct : Value) (osl : Array (Option Value)),
  fd = PySem.W.fnOf x qual (Bl st) (BV st) (Ab st) dV kV doc pm an cdv ct ∧ K.lookup f = some ⟨oc, od, .func fd, osl⟩ ∧ PySem.W.codeIn K cdv qual = true
 kp : PySem.W.keepIn K (.ref f) = true
theorem YG {K : PySem.W.Frag} {x qual : Str} {st : Stmt} {f : Addr} {oc : Value} {od an : Option Addr} {osl : Array (Option Value)} {dV kV doc pm cdv ct : Value} (l : K.lookup f = some ⟨oc, od, .func (PySem.W.fnOf x qual (Bl st) (BV st) (Ab st) dV kV doc pm an cdv ct), osl⟩)
  (c : PySem.W.codeIn K cdv qual = true) (k : PySem.W.keepIn K (.ref f) = true) : FunD K x qual st f (PySem.W.fnOf x qual (Bl st) (BV st) (Ab st) dV kV doc pm an cdv ct) := ⟨⟨oc, od, dV, kV, doc, pm, an, cdv, ct, osl, rfl, l, c⟩, k⟩
theorem FunD.binds {K : PySem.W.Frag} {x qual : Str} {st : Stmt} {f : Addr} {fd : FuncData} {ps : List Str} (F : FunD K x qual st f fd)
  (h : ∀ (dV kV doc pm : Value) (an : Option Addr) (cdv ct : Value) (us : List Value), us.length = ps.length → bindArgs (PySem.W.fnOf x qual (Bl st) (BV st) (Ab st) dV kV doc pm an cdv ct) ⟨us, []⟩ = pure (ps.zip us)) : Binds K fd ps [] := by
 obtain ⟨oc, od, dV, kV, doc, pm, an, cdv, ct, osl, rfl, lk, hcd⟩ := F.ex
 exact .all (h dV kV doc pm an cdv ct)
theorem cT {P : Program} {w : World} {G : Gx} {mg : Str → Option Value} {base : Heap} {x qual : Str} {st : Stmt} {f : Addr} {fd : FuncData} {N ps : List Str} {k : Nat} {b : FS} (F : FunD G.K x qual st f fd) (S : FnScope N ps (Ab st)) (hl : ps.length ≤ N.length)
  (hb : ∀ (cdv : Value) (A : Around) (outer : List Env) (s : Shared) (H : Hp) (E : XK), Room k (A.deeper (envOfC qual (Ab st) s.heap.objs.size f cdv)) → PSDs (cxOf CX0 P w G.K mg base N qual (Ab st) f cdv A outer s H E).nox G (BV st) b) :
  FnOk P w G.K mg base CX0 (k + 1) f fd ps (spD G (runF N.length ps.length b)) := by
 obtain ⟨oc, od, dV, kV, doc, pm, an, cdv, ct, osl, rfl, lk, hcd⟩ := F.ex
 refine RB lk hcd S (fun vs H Q E h => ?_) (fun A outer s H vs Q E hr h => ?_)
 ·obtain ⟨A, ds, d, lv, r, e, _⟩ := h
  unfold runF at e
  split at e
  ·rename_i hz; rw [r.1]; exact hz
  ·cases e
 ·obtain ⟨A0, ds, d, lv, r, e, k⟩ := h
  unfold runF at e
  split at e
  ·rename_i hz
   have hzz := hb cdv A outer s H E hr
   refine ⟨_, (@hzz A0 H).nox, CN N.length ds, ?_⟩
   cases e1 : b (CN N.length ds) with
   | none => simp [e1] at e
   | some o =>
    refine ⟨o, Hm lv r (by rw [r.1, hz]; exact hl), rfl, ?_⟩
    cases o with
    | nx ρ =>
     simp only [e1] at e
     cases e
     exact fun σ H' ⟨A, w⟩ => k _ H' w.same .non
    | rt d' ρ' =>
     simp only [e1] at e
     cases e
     exact fun v σ H' A w r' => k v H' w.same (r'.mono (CT w.sub))
    | bk ρ => simp [e1] at e
    | ct ρ => simp [e1] at e
  ·cases e
end PV
namespace PV
open PySem L2
theorem Vt (l : List D) (y : D) : ixE (.lst l) y = ixD (.lst l) y := of_eq_true (eq_self _)
theorem Vu (l : List D) (y : D) : ixE (.tup l) y = ixD (.tup l) y := of_eq_true (eq_self _)
theorem N5 (l : Str) (y : D) : ixE (.str l) y = ixD (.str l) y := of_eq_true (eq_self _)
theorem R4 (k : List (Key × D)) (x : Str) : ixE (.dk k) (.str x) = getK (.inr x) k := of_eq_true (eq_self _)
theorem R5 (k : List (Key × D)) (x : Int) : ixE (.dk k) (.int x) = getK (.inl x) k := of_eq_true (eq_self _)
theorem R6 (l : List D) : lenE (.lst l) = some (.int l.length) := of_eq_true (eq_self _)
theorem R7 (l : List (Key × D)) : lenE (.dk l) = some (.int l.length) := of_eq_true (eq_self _)
theorem R8 (neg : Bool) (x : Str) (k : List (Key × D)) : inF neg (.str x) (.dk k) = some (.bl (if neg then !(getK (.inr x) k).isSome else (getK (.inr x) k).isSome)) := of_eq_true (eq_self _)
theorem R9 (neg : Bool) (x : Int) (k : List (Key × D)) : inF neg (.int x) (.dk k) = some (.bl (if neg then !(getK (.inl x) k).isSome else (getK (.inl x) k).isSome)) := of_eq_true (eq_self _)
theorem R_ (neg : Bool) (x : Str) (l : List D) : inF neg (.str x) (.tup l) = inD neg (.str x) (.tup l) := of_eq_true (eq_self _)
theorem SJ (neg : Bool) (x : Str) (l : List D) : inF neg (.str x) (.lst l) = inD neg (.str x) (.lst l) := of_eq_true (eq_self _)
theorem SM (neg : Bool) (x : Int) (l : List D) : inF neg (.int x) (.lst l) = inD neg (.int x) (.lst l) := of_eq_true (eq_self _)
def Lb (o : Option D) : Option (List D) := match o with | some (.str x) => some (Pa x) | some (.lst ds) => some ds | some (.tup ds) => some ds | some (.dk kds) => some (kds.map fun p => kDt p.1) | _ => none
theorem FW (f : FE) (ρ : Rho) : seqA f ρ = Lb (f ρ) := by
 unfold seqA seqE Lb
 cases f ρ with
 | none => rfl
 | some d => cases d <;> rfl
theorem Fb (l : List D) : Lb (some (.lst l)) = some l := of_eq_true (eq_self _)
theorem SN (l : List D) : Lb (some (.tup l)) = some l := of_eq_true (eq_self _)
theorem SQ (l : List (Key × D)) : Lb (some (.dk l)) = some (l.map fun p => kDt p.1) := of_eq_true (eq_self _)
def putO (i : Nat) (ρ : Rho) (x y v : Option D) : Option Out := v.bind fun v => y.bind fun y => x.bind fun x => (Cg x y v).map fun z => .nx (ρ.set i (.ow z))
theorem Vv (i : Nat) (fk fv : FE) (ρ : Rho) : putF i fk fv ρ = putO i ρ (getW ρ[i]?) (fk ρ) (fv ρ) := of_eq_true (eq_self _)
theorem Qo (i : Nat) (ρ : Rho) (x y v : D) : putO i ρ (some x) (some y) (some v) = (Cg x y v).map fun z => .nx (ρ.set i (.ow z)) := of_eq_true (eq_self _)
def Y9 (i : Nat) (ρ : Rho) (x : Option D) (y : Option (List D)) (v : Option D) : Option Out := v.bind fun v => y.bind fun y => x.bind fun x => (Ho x y v).map fun z => .nx (ρ.set i (.ow z))
theorem Vw (i : Nat) (fk : FA) (fv : FE) (ρ : Rho) : PL i fk fv ρ = Y9 i ρ (getW ρ[i]?) (fk ρ) (fv ρ) := of_eq_true (eq_self _)
theorem SX (i : Nat) (ρ : Rho) (x : D) (y : List D) (v : D) : Y9 i ρ (some x) (some y) (some v) = (Ho x y v).map fun z => .nx (ρ.set i (.ow z)) := of_eq_true (eq_self _)
def frzO (ρ : Rho) (i : Nat) (o : Option Slot) : Rho := match o with | some (.ow d) => ρ.set i (.fz d) | _ => ρ
theorem Y_ (g : FS) (ρ : Rho) : fzS [] g ρ = g ρ := of_eq_true (eq_self _)
theorem ZC (i : Nat) (is : List Nat) (g : FS) (ρ : Rho) : fzS (i :: is) g ρ = fzS is g (frzO ρ i ρ[i]?) := of_eq_true (eq_self _)
theorem Im (ρ : Rho) (i : Nat) (d : D) : frzO ρ i (some (.ow d)) = ρ.set i (.fz d) := of_eq_true (eq_self _)
theorem Vx (ρ : Rho) (i : Nat) (d : D) : frzO ρ i (some (.fz d)) = ρ := of_eq_true (eq_self _)
def itO (o : Option D) : Option (List D) := match o with | some (.dk kds) => some (kds.map fun p => .tup [kDt p.1, p.2]) | _ => none
theorem Sd (f : FE) (ρ : Rho) : FP f ρ = itO (f ρ) := of_eq_true (eq_self _)
theorem Pj (kds : List (Key × D)) : itO (some (.dk kds)) = some (kds.map fun p => .tup [kDt p.1, p.2]) := of_eq_true (eq_self _)
theorem Dl (i j : Nat) (a b : D) (ρ : Rho) : tupG 2 (Bq i (Bq j nilG)) (.tup [a, b]) ρ = some ((ρ.set i (.fz a)).set j (.fz b)) := of_eq_true (eq_self _)
theorem Ld (x : Str) : kDt (.inr x) = .str x := of_eq_true (eq_self _)
theorem ZD (x : Int) : kDt (.inl x) = .int x := of_eq_true (eq_self _)
theorem Io {κ : Type} [DecidableEq κ] {k : κ} : ∀ {l : List (κ × D)}, k ∉ l.map (·.1) → getK k l = none
 | [], _ => rfl
 | p :: r, h => by
  unfold getK
  rw [List.map_cons, List.mem_cons, not_or] at h
  rw [if_neg (fun z => h.1 z.symm)]
  exact Io h.2
theorem putL_new {κ : Type} [DecidableEq κ] {k : κ} {v : D} {l : List (κ × D)} (h : k ∉ l.map (·.1)) : putL k v l = l ++ [(k, v)] := by
 unfold putL
 rw [Io h]
 rfl
theorem Qp (k : List (Key × D)) (x : Str) (v : D) (hl : k.length ≤ 1000000) : Cg (.dk k) (.str x) v = some (.dk (putL (.inr x) v k)) := by
 show (if k.length < sizeLine then some (D.dk (putL (.inr x) v k)) else none) = _
 rw [if_pos (Nat.lt_of_le_of_lt hl (by decide))]
theorem aW (k : List (Key × D)) (x : Int) (v : D) (hl : k.length ≤ 1000000) : Cg (.dk k) (.int x) v = some (.dk (putL (.inl x) v k)) := by
 show (if k.length < sizeLine then some (D.dk (putL (.inl x) v k)) else none) = _
 rw [if_pos (Nat.lt_of_le_of_lt hl (by decide))]
theorem aX (k : List (List Key × D)) (x y : Int) (v : D) (hl : k.length ≤ 1000000) : Ho (.dt k) [.int x, .int y] v = some (.dt (putL [.inl x, .inl y] v k)) := by
 show (if k.length < sizeLine ∧ 2 ≤ sizeLine then some (D.dt (putL [.inl x, .inl y] v k)) else none) = _
 rw [if_pos ⟨Nat.lt_of_le_of_lt hl (by decide), by decide⟩]
theorem N6 {g : FS} {ρ ρ' : Rho} {ε : Ef} (h : g ρ = some (.nx ρ')) (hn : noOw ρ' = true) : pureE g ρ ε = some (ρ', ε) := by
 unfold pureE
 rw [h]
 show (if noOw ρ' = true then some (ρ', ε) else none) = _
 rw [if_pos hn]
end PV
namespace PV
open PySem L2
end PV
namespace PV
open PySem PySem.Spec L2
open PyProof.Rows hiding St
section
variable {X : Cx} {G : Gx} {a b c : Expr} {fa fb fc : FE} {pos p2 px : Pos}
theorem RepL.set {G : Gx} {H : Hp} {xs : List V} {ds : List D} (r : RepL G H xs ds) {v : V} {d : D} (q : Rep G H v d) (j : Nat) : RepL G H (xs.set j v) (ds.set j d) := by
 refine ⟨by rw [List.length_set, List.length_set]; exact r.1, fun i x e h1 h2 => ?_⟩
 by_cases h : j = i
 ·subst h
  rw [List.getElem?_set] at h1 h2
  simp only [if_true] at h1 h2
  split at h1
  ·split at h2
   ·cases h1; cases h2; exact q
   ·cases h2
  ·cases h1
 ·rw [List.getElem?_set_ne h] at h1 h2
  exact r.2 i x e h1 h2
end
end PV
namespace PV
open PySem PySem.Spec L2
open PyProof.Rows hiding St
section
variable {X : Cx} {G : Gx} {a b c : Expr} {fa fb fc : FE} {pos p2 : Pos} {es : List Expr} {fs : FA}
theorem vr (i : Nat) {x : Str} (hN : X.N[i]? = some x := by rfl) (hv : Vis X.env.scope x := by first | exact Or.inl rfl | exact Or.inr (Or.inl rfl) | exact Or.inr (Or.inr rfl)) (hd : (x == ("__debug__" : Str)) = false := by decide) (hcd : (x == ("__classdict__" : Str)) = false := by decide) : PF X G (.Name x pos) (vF i) := Z7 i (pv i hN hv hd hcd)
theorem vp (i : Nat) {x : Str} (hN : X.N[i]? = some x := by rfl) (hv : Vis X.env.scope x := by first | exact Or.inl rfl | exact Or.inr (Or.inl rfl) | exact Or.inr (Or.inr rfl)) (hd : (x == ("__debug__" : Str)) = false := by decide) (hcd : (x == ("__classdict__" : Str)) = false := by decide) : PU X G (.Name x pos) (vF i) := PF.pu (vr i hN hv hd hcd)
theorem pU {e : Expr} {f : FE} (h : PF X G e f) : PU X G e f := PF.pu h
theorem iP {i j} : PU X G (.Constant (.int i) j pos) (kF (.int i)) := PF.pu VL
theorem sP {x j} : PU X G (.Constant (.str x) j pos) (kF (.str x)) := PF.pu HB
theorem iX {k : Nat} (hr : Room k X.A) (ha : PU X G a fa) (hb : PU X G b fb) (hG : G.K = X.K := by rfl) (hs : Ly b := by exact fun _ _ => rfl) : PF X G (.Subscript a b pos) (bF ixE fa fb) := aN (Fx hr) hG ha hb hs
theorem bAdd (ha : PU X G a fa) (hb : PU X G b fb) (hG : G.K = X.K := by rfl) : PF X G (.BinOp a .Add b pos) (bF addD fa fb) := Qg Xo (by rw [← hG]; exact Xp) ha hb
theorem bDiv (ha : PU X G a fa) (hb : PU X G b fb) : PF X G (.BinOp a .FloorDiv b pos) (bF Gy fa fb) := Qg XD VR ha hb
theorem bMod (ha : PU X G a fa) (hb : PU X G b fb) : PF X G (.BinOp a .Mod b pos) (bF modD fa fb) := Qg Zt Xm ha hb
theorem cEq {k : Nat} (hr : Room k X.A) (ha : PU X G a fa) (hb : PU X G b fb) (hG : G.K = X.K := by rfl) : PF X G (.Compare a [.Eq] [b] pos) (bF (eqD false) fa fb) := VM (Vd hG hr.unitsW) (Qj false) ha hb (Hy _)
theorem tEq {k : Nat} (hr : Room k X.A) (ha : PU X G a fa) (hb : PU X G b fb) (hG : G.K = X.K := by rfl) : PFT X G (.Compare a [.Eq] [b] pos) (blF (bF (eqD false) fa fb)) := Dr (Vd hG hr.unitsW) (Qj false) ha hb (Hy _)
theorem tNe {k : Nat} (hr : Room k X.A) (ha : PU X G a fa) (hb : PU X G b fb) (hG : G.K = X.K := by rfl) : PFT X G (.Compare a [.NotEq] [b] pos) (blF (bF (eqD true) fa fb)) := Dr (aK hG hr.unitsW) (Qj true) ha hb (Hy _)
theorem cIn {k : Nat} (hr : Room k X.A) (ha : PU X G a fa) (hb : PU X G b fb) (hG : G.K = X.K := by rfl) (hm : behindInMarks .In b = false := by with_unfolding_all rfl) : PF X G (.Compare a [.In] [b] pos) (bF (inF false) fa fb) := VM ((Vb.or (Ql (Fx hr))).or (Vo hG hr.units)) (by rw [← hG]; exact Nx false) ha hb hm
theorem tIn {k : Nat} (hr : Room k X.A) (ha : PU X G a fa) (hb : PU X G b fb) (hG : G.K = X.K := by rfl) (hm : behindInMarks .In b = false := by with_unfolding_all rfl) : PFT X G (.Compare a [.In] [b] pos) (blF (bF (inF false) fa fb)) := Dr ((Vb.or (Ql (Fx hr))).or (Vo hG hr.units)) (by rw [← hG]; exact Nx false) ha hb hm
theorem tNi {k : Nat} (hr : Room k X.A) (ha : PU X G a fa) (hb : PU X G b fb) (hG : G.K = X.K := by rfl) (hm : behindInMarks .NotIn b = false := by with_unfolding_all rfl) : PFT X G (.Compare a [.NotIn] [b] pos) (blF (bF (inF true) fa fb)) := Dr ((Tz.or (T4 (Fx hr))).or (T9 hG hr.units)) (by rw [← hG]; exact Nx true) ha hb hm
theorem tLt (ha : PU X G a fa) (hb : PU X G b fb) : PFT X G (.Compare a [.Lt] [b] pos) (blF (bF ltD fa fb)) := Dr bx Z9 ha hb (Hy _)
theorem tGt (ha : PU X G a fa) (hb : PU X G b fb) : PFT X G (.Compare a [.Gt] [b] pos) (blF (bF gtD fa fb)) := Dr bz Z_ ha hb (Hy _)
theorem tGe (ha : PU X G a fa) (hb : PU X G b fb) : PFT X G (.Compare a [.GtE] [b] pos) (blF (bF geD fa fb)) := Dr b_ aA ha hb (Hy _)
theorem sF (hN : X.N.Nodup) (i : Nat) {x : Str} {p : Pos} (ha : PF X G a fa) (hi : X.N[i]? = some x := by rfl) (hx : Loc X.env.scope x := by first | exact Or.inl rfl | exact Or.inr rfl) (hs : swapsWith a (some (.Name x p)) pos.line X.env = pure false := by rfl)
  (hf : X.fn x = true ∨ X.env.scope.names.lookup x = some .local := by first | exact .inl rfl | exact .inr rfl | assumption) : PSD X G (.Assign [.Name x p] a pos) (setF i fa) := Xz (fun _ h => QH hN hi hx h hs hf) ha
theorem sW (hN : X.N.Nodup) (i : Nat) {x : Str} {p : Pos} (ha : PN X G a fa) (hi : X.N[i]? = some x := by rfl) (hx : Loc X.env.scope x := by first | exact Or.inl rfl | exact Or.inr rfl) (hs : swapsWith a (some (.Name x p)) pos.line X.env = pure false := by rfl)
  (hf : X.fn x = true ∨ X.env.scope.names.lookup x = some .local := by first | exact .inl rfl | exact .inr rfl | assumption) (hi0 : i ≠ 0 := by decide) : PSD X G (.Assign [.Name x p] a pos) (setW i fa) := Vg (fun _ h => QH hN hi hx h hs hf) ha hi0
theorem gN (hN : X.N.Nodup) (i : Nat) {x : Str} (hi : X.N[i]? = some x := by rfl) (hx : Loc X.env.scope x := by first | exact Or.inl rfl | exact Or.inr rfl) (hf : X.fn x = true ∨ X.env.scope.names.lookup x = some .local := by first | exact .inl rfl | exact .inr rfl | assumption) : PG X (.Name x pos) (Gu i) := W8 hN hi hx hf
theorem cO {N : List Str} {sc scope : Scope} {t : Str} (hN : X.N = N) (hs : X.env.scope = sc) (h : Np N sc scope t = true := by decide +kernel) : CompOk X scope t := T3 hN hs h
abbrev nT (N : List Str) (t : Str) : List Str := N ++ [t]
structure Dx (K : PySem.W.Frag) (mg : Str → Option Value) (x : Str) (st : Stmt) (ps : List Str) where
 f : Addr
 fd : FuncData
 F : FunD K x x st f fd
 B : Binds K fd ps []
 m : mg x = some (.ref f)
abbrev DOk (P : Program) (w : World) (base : Heap) {K : PySem.W.Frag} {mg : Str → Option Value} {x : Str} {st : Stmt} {ps : List Str} (d : Dx K mg x st ps) (k : Nat) (sp : Sp) : Prop := FnOk P w K mg base CX0 k d.f d.fd ps sp
theorem fX {k k' : Nat} {x : Str} {st : Stmt} {ps : List Str} {p : Pos} {d : Dx X.K X.mg x st ps} {g : List D → Option D} (F : FnOk X.prog X.w X.K X.mg X.base CX0 k d.f d.fd ps (spD G g)) (hr : Room k' X.A) (ha : PFA X G (a :: es) fs) (hle : k ≤ k' := by omega) (hg : Gl X x := by rfl) (hdb : (x == ("__debug__" : Str)) = false := by decide)
  (he : starEach (a :: es) X.env = (false, eval a X.env) :: starEach es X.env := by rfl) (hpl : (backTo pos (starEach es X.env)).any (·.1) = false := by rfl) : PF X G (.Call (.Name x p) (a :: es) [] pos) (BR g fs) := cL F (hr.mono hle) hg d.m d.F.kp d.B ha hdb he hpl
end
section
variable {K : PySem.W.Frag} {h : Heap} {mg : Str → Option Value} {x qual : Str} {st : Stmt} {ps : List Str} {f C : Addr} {oc : Value} {od an : Option Addr} {osl : Array (Option Value)} {dV kV doc pm cdv ct : Value}
theorem fnX {P : Program} {w : World} {G : Gx} {base : Heap} {N : List Str} {k : Nat} {b : FS} (d : Dx G.K mg x st ps) (S : FnScope N ps (Ab st))
  (hb : ∀ (cdv : Value) (A : Around) (outer : List Env) (s : Shared) (H : Hp) (E : XK), Room k (A.deeper (envOfC x (Ab st) s.heap.objs.size d.f cdv)) → PSDs (cxOf CX0 P w G.K mg base N x (Ab st) d.f cdv A outer s H E).nox G (BV st) b) (hl : ps.length ≤ N.length := by decide) :
  FnOk P w G.K mg base CX0 (k + 1) d.f d.fd ps (spD G (runF N.length ps.length b)) := cT d.F S hl hb
def dx (X : K.In h) (N : h.Ns mainGlobals mg) (a : PySem.W.nsIn K mainGlobals x = some (some (.ref f))) (l : K.lookup f = some ⟨oc, od, .func (PySem.W.fnOf x x (Bl st) (BV st) (Ab st) .none kV doc pm an cdv ct), osl⟩) (c : PySem.W.codeIn K cdv x = true) (k : PySem.W.keepIn K (.ref f) = true)
  (b : ∀ (kV doc pm : Value) (an : Option Addr) (cdv ct : Value) (us : List Value), us.length = ps.length → bindArgs (PySem.W.fnOf x x (Bl st) (BV st) (Ab st) .none kV doc pm an cdv ct) ⟨us, []⟩ = pure (ps.zip us)) : Dx K mg x st ps := ⟨f, _, YG l c k, (G9 l c k).binds b, PySem.W.mg_of X N a⟩
structure Ix (K : PySem.W.Frag) (C : Addr) (qual : Str) (st : Stmt) (ps : List Str) where
 f : Addr
 fd : FuncData
 F : Fun K "__init__" qual st f fd
 B : Binds K fd ps []
 mM : Mk K C f
def ix (X : K.In h) (m : PySem.W.makesIn K C = true) (kc : PySem.W.keepIn K (.ref C) = true) (a : PySem.W.findIn K (.ref C) "__init__" = some (some (.ref f))) (i : PySem.W.isFn K (.ref f) = true) (l : K.lookup f = some ⟨oc, od, .func (PySem.W.fnOf "__init__" qual (Bl st) (BV st) (Ab st) .none kV doc pm an cdv ct), osl⟩) (c : PySem.W.codeIn K cdv qual = true) (k : PySem.W.keepIn K (.ref f) = true)
  (b : ∀ (kV doc pm : Value) (an : Option Addr) (cdv ct : Value) (us : List Value), us.length = ps.length → bindArgs (PySem.W.fnOf "__init__" qual (Bl st) (BV st) (Ab st) .none kV doc pm an cdv ct) ⟨us, []⟩ = pure (ps.zip us)) : Ix K C qual st ps := ⟨f, _, G9 l c k, (G9 l c k).binds b, m, a, i, kc⟩
structure Sx (mg : Str → Option Value) (x : Str) (f : Tok → Value) where
 t : Tok
 m : mg x = some (f t)
structure Kx (G : Gx) (mg : Str → Option Value) (x : Str) (c : D) where
 a : Addr
 m : mg x = some (.ref a)
 r : Rep G (fun _ => none) (.ref a) c
def sx {t : Tok} {f : Tok → Value} (X : K.In h) (N : h.Ns mainGlobals mg) (a : PySem.W.nsIn K mainGlobals x = some (some (f t))) : Sx mg x f := ⟨t, PySem.W.mg_of X N a⟩
def gx1 (K : PySem.W.Frag) (cn : Str) (C : Addr) : Gx := { K := K, cl := fun c => if c = cn then some C else none }
theorem cls (X : K.In h) (pg : PySem.W.plainGet K C Str.empty = true) (hd : PySem.W.hasDictIn K C = true) (po : PySem.W.plainOver K C = true) (sa : PySem.W.findIn K (.ref C) "__setattr__" = some (some (.builtin "object.__setattr__"))) : Cls K C := ⟨pg, hd, po, sa⟩
theorem rtx {cn : Str} {g : Addr} {n : Nat} {its : Array Value} {xs : List Str} (X : K.In h) (l : K.lookup g = some ⟨.type "tuple", od, .seq its n, osl⟩) (hz : its.size ≤ sizeLine) (r : Vals (xs.map V.str) its.toList) : Rep (gx1 K cn C) (fun _ => none) (.ref g) (.tup (xs.map .str)) := LK l hz r
def kx {cn : Str} {g : Addr} {n : Nat} {its : Array Value} {xs : List Str} (X : K.In h) (N : h.Ns mainGlobals mg) (a : PySem.W.nsIn K mainGlobals x = some (some (.ref g))) (l : K.lookup g = some ⟨.type "tuple", od, .seq its n, osl⟩) (hz : its.size ≤ sizeLine) (r : Vals (xs.map V.str) its.toList) : Kx (gx1 K cn C) mg x (.tup (xs.map .str)) := ⟨g, PySem.W.mg_of X N a, rtx X l hz r⟩
end
end PV
namespace PV
open PySem L2
theorem Sg {α : Type} (f : α → Bool) : ∀ l : List α, blsD (l.map fun x => .bl (f x)) = some (l.map f)
 | [] => rfl
 | x :: r => by rw [List.map_cons, blsD, Sg f r]; rfl
theorem aZ {α : Type} (f : α → Bool) (l : List α) : allD (.lst (l.map fun x => .bl (f x))) = some (.bl (l.all f)) := by
 unfold allD
 simp only []
 rw [Sg, Option.map_some, List.all_map]
 rfl
end PV
namespace PV
open PySem PySem.Spec L2
open PyProof.Rows hiding St
section
variable {X : Cx} {G : Gx} {a : Expr} {fa : FE} {pos : Pos} {es : List Expr} {fs : FA}
end
end PV
namespace PV
open PySem L2
end PV
namespace PV
open PySem PySem.Spec L2
open PyProof.Rows hiding St
section
variable {X : Cx} {G : Gx} {a b c : Expr} {fa fb fc : FE} {pos p2 : Pos}
def IV (kvs more : List (Key × V)) : List (Key × V) := more.foldl (fun a p => putK a p.1 p.2) kvs
end
end PV
namespace PV
open PySem PySem.Spec L2 EX
open PyProof.Rows hiding St
def CX1 (P : Program) (w : World) : CXT := fun outer H s E v s' => ∃ (e : Addr) (H' : Hp), v = .ref e ∧ s'.os = s.os ∧ AllBare s'.gens ∧ Un (frs outer) [] H H' s.heap s'.heap ∧ HOk P w H' s'.heap ∧ E v none H'
structure Exc (G : Gx) (He H : Hp) (e : Addr) (tb : Option Addr) (c : Str) (gs : List (Str × D)) : Prop where
 ex : ∃ C od fs, G.xcl c = some C ∧ H e = some (excO e C od tb) ∧ XdA H od fs ∧ FsV fs gs ∧ ∀ dx, od = some dx → He dx = none
 same : Same He H
 new : He e = none
 tbk : ∀ T, tb = some T → H T = some (tbO T .none) ∧ He T = none
theorem Exc.base {G : Gx} {He Hf H : Hp} {e : Addr} {tb : Option Addr} {c : Str} {gs : List (Str × D)} (x : Exc G Hf H e tb c gs) (s : Same He Hf) : Exc G He H e tb c gs :=
 ⟨let ⟨C, dx, fs, q1, q2, q3, q4, q5⟩ := x.ex; ⟨C, dx, fs, q1, q2, q3, q4, fun d h => s.free (q5 d h)⟩, s.trans x.same, s.free x.new, fun T h => ⟨(x.tbk T h).1, s.free (x.tbk T h).2⟩⟩
section
variable {X : Cx} {pins : List (Addr × Obj)} {σ : St} {G : Gx} {He H : Hp} {s : Shared} {e : Addr} {tb : Option Addr} {c : Str} {gs : List (Str × D)}
theorem Ka {E : Value → Shared → Prop} {Q : Unit → Shared → Prop} {M : Model} {L : Addr} (hst : X.stack = X.env :: X.outer) (hf : X.env.frame = some L) (I : Inv X pins σ H s) (x : Exc G He H e tb c gs)
  (k : ∀ T H' s', Inv X pins σ H' s' → Exc G He H' e (some T) c gs → Q () s') :
  wpAny M X.A (noteFrame (.ref e) X.env) (fun _ s₂ => wpAny M X.A (setFlight (.ref e) none) Q E s₂) E s := by
 obtain ⟨C, dx, fs, q1, q2, q3, q4, q5⟩ := x.ex
 refine Xh hst hf I q2 (fun T h => (x.tbk T h).1) fun T H' s' n => k T H' s' n.inv ?_
 have ncb : ∀ b u, H b = some u → (∀ φ, u ≠ .ext φ) → b ≠ e ∧ tb ≠ some b := fun b u q z => ⟨fun w => by subst w; rw [q2] at q; cases q; exact z _ rfl, fun w => by
  have := (x.tbk b w).1; rw [this] at q; cases q; exact z _ rfl⟩
 refine ⟨⟨C, dx, fs, q1, n.exc, (by cases dx with | none => exact q3 | some dx => exact n.rest dx _ (ncb dx _ q3 fun _ z => nomatch z).1 (ncb dx _ q3 fun _ z => nomatch z).2 q3), q4, q5⟩, fun b u h => n.rest b u (fun z => by rw [z, x.new] at h; cases h) (fun z => by rw [(x.tbk b z).2] at h; cases h) (x.same b u h), x.new, fun T' h => ?_⟩
 cases h
 exact ⟨n.tbk, x.same.free n.new⟩
end
def Rz (X : Cx) (G : Gx) (A0 : List Addr) (He : Hp) (c : Str) (gs : List (Str × D)) (ρ : Rho) : Prop := ∀ pins σ H1 H s e tb, Inv X pins σ H s → OkS G A0 He σ H1 ρ → Exc G H1 H e tb c gs → X.xe (.ref e) s
def excOf : D → Option (Str × List (Str × D))
 | .exc c gs => some (c, gs)
 | _ => none
def RzO (X : Cx) (G : Gx) (A0 : List Addr) (He : Hp) (d : D) (ρ : Rho) : Prop := ∀ c gs, excOf d = some (c, gs) → Rz X G A0 He c gs ρ
def OutX (X : Cx) (G : Gx) (A0 : List Addr) (He : Hp) : Out → Prop
 | .rt d ρ => RzO X G A0 He d ρ
 | _ => True
def tSZ (X : Cx) (G : Gx) (A0 : List Addr) (He : Hp) (g : FS) : TS := fun D σ H => ∃ ρ o, OkS G A0 He σ H ρ ∧ g ρ = some o ∧ KN G A0 He D o ∧ OutX X G A0 He o
def PSZ (X : Cx) (G : Gx) (st : Stmt) (g : FS) : Prop := ∀ ⦃A0⦄ He, PS X st (tSZ X G A0 He g)
def PSZs (X : Cx) (G : Gx) (st : List Stmt) (g : FS) : Prop := ∀ ⦃A0⦄ He, PSs X st (tSZ X G A0 He g)
def tFZ (X : Cx) (G : Gx) (A0 : List Addr) (He : Hp) (f : FE) : TE := fun σ H Q => ∃ ρ d A, OkW G A0 He A σ H ρ ∧ f ρ = some d ∧ (∀ v H', Same H H' → Rep G (hid A H') v d → Q v H') ∧ RzO X G A0 He d ρ
def PFZ (X : Cx) (G : Gx) (e : Expr) (f : FE) : Prop := ∀ ⦃A0⦄ He, PE X e (tFZ X G A0 He f)
def setZ (i : Nat) (f : FE) : FS := fun ρ => (f ρ).map fun d => match excOf d with | some _ => .rt d ρ | none => .nx (ρ.set i (.fz d))
section
variable {X : Cx} {G : Gx} {a b c tg : Expr} {fa fb fc : FE} {ga : FT} {pos p2 : Pos} {st : Stmt} {rest body : List Stmt} {g gs gb : FS}
theorem PSD.x (h : PSD X G st g) : PSZ X G st g := fun A0 He pins s σ H D I ⟨ρ, o, ok, e, k, _⟩ => @h A0 He pins s σ H D I ⟨ρ, o, ok, e, k⟩
theorem PF.x (h : PF X G a fa) : PFZ X G a fa := fun A0 He pins s σ H Q I ⟨ρ, d, A, w, e, k, _⟩ => @h A pins s σ H Q I ⟨ρ, d, w.ok, e, k⟩
theorem Sh : PSZs X G [] nxF := fun A0 He pins s σ H D I ⟨ρ, o, ok, e, k, _⟩ => Bm He pins s σ H D I ⟨ρ, o, ok, e, k⟩
theorem Dm (h1 : PSZ X G st g) : PSZs X G [st] g := fun A0 He => Ja (@h1 A0 He)
theorem GP (h1 : PSZ X G st g) (h2 : PSZs X G rest gs) : PSZs X G (st :: rest) (seqF g gs) := fun A0 He pins s σ H D I ⟨ρ, o, ok, e, k, kx⟩ => by
 refine Fq (@h1 A0 He) (@h2 A0 He) pins s σ H D I ?_
 unfold seqF at e
 split at e
 ·rename_i ρ' e1
  exact ⟨ρ, _, ok, e1, fun σ' H' ok' => ⟨ρ', o, ok', e, k, kx⟩, trivial⟩
 ·rename_i hno
  refine ⟨ρ, o, ok, e, ?_, kx⟩
  cases o with
  | nx ρ' => exact absurd e (hno ρ')
  | rt d ρ' => exact k
  | bk ρ' => exact k
  | ct ρ' => exact k
theorem Qq {s1 s2 : List Stmt} (ht : PFT X G c ga) (h1 : PSZs X G s1 g) (h2 : PSZs X G s2 gs) : PSZ X G (.If c s1 s2 pos) (ifS ga g gs) := fun A0 He pins s σ H D I ⟨ρ, o, ⟨A, w⟩, e, k, kx⟩ => by
 refine Ug (@ht A) (@h1 A0 He) (@h2 A0 He) pins s σ H D I ?_
 unfold ifS at e
 split at e
 ·rename_i e1
  exact ⟨ρ, _, w.ok, e1, fun H1 s1 => iteT ⟨ρ, o, ⟨A, w.mono s1⟩, e, k, kx⟩⟩
 ·rename_i e1
  exact ⟨ρ, _, w.ok, e1, fun H1 s1 => iteF ⟨ρ, o, ⟨A, w.mono s1⟩, e, k, kx⟩⟩
 ·cases e
theorem Qs {H : Hp} {v : V} {d : D} (r : Rep G H v d) : excOf d = none := by cases r <;> rfl
theorem YH {i : Nat} {x : Str} {p : Pos} (h : ∀ te, PE X a te → PS X (.Assign [.Name x p] a pos) (tAsg te (Gu i))) (ha : PFZ X G a fa) : PSZ X G (.Assign [.Name x p] a pos) (setZ i fa) := fun A0 He pins s σ H D I ⟨ρ, o, ⟨A, w⟩, e, k, kx⟩ => by
 refine h _ (@ha A0 He) pins s σ H D I ?_
 unfold setZ at e
 cases e1 : fa ρ with
 | none => simp [e1] at e
 | some d =>
  simp only [e1, Option.map_some] at e
  cases e2 : excOf d with
  | none =>
   simp only [e2] at e
   cases e
   exact ⟨ρ, d, A, w, e1, fun v H1 s1 r1 => k _ _ ⟨A, (w.mono s1).set r1 i⟩, fun c gs z => by rw [e2] at z; cases z⟩
  | some q =>
   simp only [e2] at e
   cases e
   exact ⟨ρ, d, A, w, e1, fun v H1 s1 r1 => absurd e2 (by rw [Qs r1]; simp), kx⟩
end
def Vy (X : Cx) (σ : St) : XK := fun v _ H' => ∀ pins s', Inv X pins σ H' s' → X.xe v s'
def XW (G : Gx) (He : Hp) (d : D) (E : XK) : Prop := ∀ c gs, excOf d = some (c, gs) → ∀ e T H', Exc G He H' e (some T) c gs → E (.ref e) none H'
def spZ (G : Gx) (g : List D → Option D) : Sp := fun vs H Q E => ∃ A ds d, (∀ a ∈ A, Nt (H a)) ∧ RepL G (hid A H) vs ds ∧ g ds = some d ∧ (∀ v H', Same H H' → Rep G (hid A H') v d → Q v H') ∧ XW G H d E
section
variable {X : Cx} {k : Nat} {f C : Addr} {fd : FuncData} {ps : List Str} {sp : Sp} {x m : Str} {p pos apos : Pos} {e o : Expr} {es : List Expr} {ta : TE} {t : TA}
end
section
variable {X : Cx} {G : Gx} {a ob : Expr} {es : List Expr} {fs : FA} {fo : FE} {pos p apos : Pos} {A0 : List Addr} {He : Hp}
theorem cU {σ : St} {H1 : Hp} {A : List Addr} {ρ : Rho} {d : D} (w : OkW G A0 He A σ H1 ρ) (kx : RzO X G A0 He d ρ) : XW G H1 d (Vy X σ) := fun c gs z e T H' x pins s' I => kx c gs z pins σ H1 H' s' e (some T) I ⟨A, w⟩ x
def Eb (c m : Str) : D → Bool
 | .ob c' gs => c' == c && (gs.lookup m).isNone
 | _ => false
def GQ (c m : Str) (g : List D → Option D) (fo : FE) (fs : FA) : FE := fun ρ => (fo ρ).bind fun o => if Eb c m o = true then (fs ρ).bind fun ds => g (o :: ds) else none
theorem Le {fs : List (Str × V)} {gs : List (Str × D)} {m : Str} (h : fs.map (·.1) = gs.map (·.1)) (n : gs.lookup m = none) : fs.lookup m = none := by
 induction fs generalizing gs with
 | nil => rfl
 | cons p r ih =>
  cases gs with
  | nil => cases h
  | cons q t =>
   obtain ⟨a, b⟩ := p; obtain ⟨a', b'⟩ := q
   simp only [List.map_cons, List.cons.injEq] at h
   obtain ⟨rfl, h2⟩ := h
   simp only [List.lookup] at n ⊢
   split at n
   ·cases n
   ·exact ih h2 n
end
theorem aa {P : Program} {w : World} {G : Gx} {mg : Str → Option Value} {base : Heap} {N : List Str} {qual : Str} {scope : Scope} {f : Addr} {cd : Value} {A : Around} {outer : List Env} {s : Shared} {H : Hp} {E : XK} {A0 : List Addr} {d : D} {ρ : Rho} (h : XW G H d E) :
  RzO (cxOf (CX1 P w) P w G.K mg base N qual scope f cd A outer s H E) G A0 H d ρ := fun c gs z pins σ H1 H2 s2 e tb I ⟨A1, ok⟩ x => by
 show wpAny _ _ (leaving _ _) _ _ _
 unfold leaving
 refine wpAny_bind (Ka (X := cxOf (CX1 P w) P w G.K mg base N qual scope f cd A outer s H E) rfl rfl I (x.base ok.same) fun T H' s' I' x' => ?_)
 exact ⟨e, H', rfl, I'.os, I'.bare, I'.base, I'.hok, h c gs z e T H' x'⟩
theorem fn_Z {P : Program} {w : World} {G : Gx} {mg : Str → Option Value} {base : Heap} {x qual : Str} {st : Stmt} {f : Addr} {fd : FuncData} {N ps : List Str} {k : Nat} {b : FS} (F : Fun G.K x qual st f fd) (S : FnScope N ps (Ab st)) (hl : ps.length ≤ N.length)
  (hb : ∀ (cdv : Value) (A : Around) (outer : List Env) (s : Shared) (H : Hp) (E : XK), Room k (A.deeper (envOfC qual (Ab st) s.heap.objs.size f cdv)) → PSZs (cxOf (CX1 P w) P w G.K mg base N qual (Ab st) f cdv A outer s H E) G (BV st) b) :
  FnOk P w G.K mg base (CX1 P w) (k + 1) f fd ps (spZ G (runF N.length ps.length b)) := by
 obtain ⟨oc, od, kV, doc, pm, an, cdv, ct, osl, rfl, lk, hcd⟩ := F.ex
 refine RB lk hcd S (fun vs H Q E h => ?_) (fun A outer s H vs Q E hr h => ?_)
 ·obtain ⟨A, ds, d, lv, r, e, _⟩ := h
  unfold runF at e
  split at e
  ·rename_i hz; rw [r.1]; exact hz
  ·cases e
 ·obtain ⟨A0, ds, d, lv, r, e, k, kx⟩ := h
  unfold runF at e
  split at e
  ·rename_i hz
   have hzz := hb cdv A outer s H E hr
   refine ⟨_, @hzz A0 H, CN N.length ds, ?_⟩
   cases e1 : b (CN N.length ds) with
   | none => simp [e1] at e
   | some o =>
    refine ⟨o, Hm lv r (by rw [r.1, hz]; exact hl), rfl, ?_⟩
    cases o with
    | nx ρ =>
     simp only [e1] at e
     cases e
     exact ⟨fun σ H' ⟨A, w⟩ => k _ H' w.same .non, trivial⟩
    | rt d' ρ' =>
     simp only [e1] at e
     cases e
     exact ⟨fun v σ H' A w r' => k v H' w.same (r'.mono (CT w.sub)), aa kx⟩
    | bk ρ => simp [e1] at e
    | ct ρ => simp [e1] at e
  ·cases e
end PV
namespace EX
open PySem PySem.W PyProof.Rows PySem.Calls
section
variable {prog : Program} {w : World} {A : Around} {E : Value → Shared → Prop} {h : Heap} {g : Array GenState} {d : Drawn} {t : Nat} {os : OsState} {R : Result → Shared → Prop}
variable {nm q : Str} {C N : Addr} {bs bm bmB : List Value} {hdct : Bool} {sn : List Str} {sub : List Value} {ab : Bool} {col : Option Bool} {dd : Option Addr} {k0 k1 k2 k3 k5 : Option Value} {B newId initId : String}
abbrev Fd (C a : Addr) : Obj := { cls := .ref C, data := .fields #[.ref a, .none, .none, .none, .bool false, .none] }
abbrev El (rest : List Value) : Obj := { cls := .type "tuple", data := .seq rest.toArray }
theorem Kc (F : ExcBaseFacts B newId initId bmB) (T : OwnTail h bmB bm) {rest : List Value} {init : Value} {Q : Fin → Shared → Prop}
  (hC : h.get? C = some (excClassObj nm q C N bs bm hdct sn sub ab col dd k0 k1 k2 k3 k5 newId)) (hi : Looks (model prog w) h (typeLookup (.ref C) "__init__") (some init)) (hb : ∀ self, Looks (model prog w) h (bindSpecial init self) (init, [self]))
  (hq : codeAny (model prog w) A (.call init ⟨.ref (h.objs.size + 1) :: rest, []⟩) (fun r s' => match r with
   | .ok (.ret v) => v = .none ∧ Q (.done (.ret (.ref (h.objs.size + 1)))) s'
   | .ok _ => False
   | .error e => E e s') ⟨(h.push (El rest)).push (Fd C h.objs.size), g, d, t, os⟩) (hrest : rest.length ≤ sizeLine := by size_fits) :
  wpAny (model prog w) A (Builtin.«type.__call__» ⟨.ref C :: rest, []⟩) Q E ⟨h, g, d, t, os⟩ := by
 repeat (first | with_reducible refine wpAny_loadPart_at hC ?_ | with_reducible refine wpAny_madeBy_exc hC ?_ | wp_step)
 refine codeAny_call_builtin_code (Code.quiet_builtin _ F.quiet) (wpAny_check_new_subT F T hC ?_)
 refine codeAny_exc_new_subT F T hC ?_ hrest
 show wpAny _ _ _ _ _ _
 have k : ∀ b o, h.get? b = some o → ((h.push (El rest)).push (Fd C h.objs.size)).get? b = some o := fun b o e => Heap.get?_push_of_some _ (Heap.get?_push_of_some _ e)
 have hC₁ := k _ _ hC
 have hget : ((h.push (El rest)).push (Fd C h.objs.size)).get? (h.objs.size + 1) = some (Fd C h.objs.size) := by heap_get
 have hcC : (Value.ref C :: bm).contains (.ref C) = true := by simp
 have i1 := hi.keeps k
 have b1 := (hb (.ref (h.objs.size + 1))).keeps k
 unfold isInstance
 repeat (first | with_reducible refine wpAny_loadPart_at hget ?_ | (with_reducible refine wpAny_isSubtype_exc hC₁ ?_; rw [hcC]) | wp_step)
 show wpAny _ _ (typeLookup (.ref C) _) _ _ _
 refine i1.at ?_
 dsimp only
 refine wpAny_holding (wpAny_bind (b1.at ?_))
 dsimp only
 refine wpAny_bind (wpAny_call (codeAny_mono hq fun r s' z => ?_))
 rcases r with e | (v | _ | _ | _) <;> first | exact z | exact z.elim | skip
 obtain ⟨rfl, z⟩ := z
 exact wpAny_pure (wpAny_pure z)
theorem Vz (F : ExcBaseFacts B newId initId bmB) (T : OwnTail h bmB bm) {rest : List Value} {init : Value}
  (hC : h.get? C = some (excClassObj nm q C N bs bm hdct sn sub ab col dd k0 k1 k2 k3 k5 newId)) (hi : Looks (model prog w) h (typeLookup (.ref C) "__init__") (some init)) (hb : ∀ self, Looks (model prog w) h (bindSpecial init self) (init, [self]))
  (hq : codeAny (model prog w) (A.under (.builtin "type.__call__" ⟨.ref C :: rest, []⟩)) (.call init ⟨.ref (h.objs.size + 1) :: rest, []⟩) (InitBack (h.objs.size + 1) R) ⟨(h.push (El rest)).push (Fd C h.objs.size), g, d, t, os⟩) (hrest : rest.length ≤ sizeLine) :
  codeAny (model prog w) A (.call (.ref C) ⟨rest, []⟩) R ⟨h, g, d, t, os⟩ := by
 have f1 := tc_lookup
 have f2 := tc_bind (.ref C)
 have hT : (⟨h, g, d, t, os⟩ : Shared).TypeIs (.ref C) "type" := ⟨_, hC, rfl⟩
 refine codeAny_of_tree ?_
 show wpAny _ _ (callAny (.ref C) _) _ _ _
 repeat (any_goals (first | assumption | with_reducible refine wpAny_loadPart_at hC ?_ | wp_step))
 refine ⟨rfl, ?_⟩
 refine codeAny_call_builtin_at (Code.quiet_builtin _ (by decide +kernel)) entry_typeCall (wpAny_check_type_call_sub hC (Kc F T hC hi hb (codeAny_mono hq fun r s' z => ?_) hrest))
 rcases r with e | (v | _ | _ | _) <;> first | exact z | exact z.elim
end
end EX
namespace EX
open PySem PySem.W PySem.Spec PyProof.Rows PySem.Calls
section
variable {prog : Program} {w : World} {A : Around} {E : Value → Shared → Prop} {s : Shared} {K : Frag} {x C : Addr} {ox : Obj} {od : Option Obj} {name : Str} {v : Value}
theorem YJ {expr : Bool} {Q : Value → Shared → Prop} (X : K.In s.heap) (I : InstAt s.heap x ox C od) (hga : findIn K (.ref C) "__getattribute__" = some (some (.builtin "BaseException.__getattribute__"))) (hgt : findIn K (.ref C) "__getattr__" = some none)
  (hsub : subIn K (.ref C) (.type "BaseException") = some true) (hf : findObj K C od name = some (.value v)) (hh : handedIn v = true) (h : Q v { s with toks := s.toks + 1 }) : wpAny (model prog w) A (getAttr (.ref x) name expr) Q E s := by
 obtain ⟨hp, g, d, t, os⟩ := s
 have L0 := I.type (M := model prog w)
 have L1 := looks_findIn (M := model prog w) X hga
 have L2 := looks_findIn (M := model prog w) X hgt
 have L3 := looks_find (M := model prog w) X I hf
 have L4 := looks_subIn (M := model prog w) X hsub
 have f3 := F.attr_ValueError.ga.bind (.ref x)
 have hk : builtinKind "BaseException.__getattribute__" = some .slot := by decide +kernel
 have hsplit : splitId "BaseException.__getattribute__" = some ("BaseException", "__getattribute__") := by decide +kernel
 have hx2 : (Value.builtin "BaseException.__getattribute__" == Value.builtin "object.__getattribute__") = false := by decide +kernel
 have hx1 : (onTheHeap (Value.ref C) && Value.builtin "BaseException.__getattribute__" == Value.builtin "object.__getattribute__") = false := by rw [hx2]; rfl
 have hx0 : (expr && onTheHeap (Value.builtin "BaseException.__getattribute__")) = false := by cases expr <;> rfl
 unfold getAttr getAttrBy
 refine wpAny_bind (wpAny_mkText (wpAny_holding (wpAny_bind (L0.at (wpAny_bind (L1.at ?_))))))
 dsimp only
 rw [hx1, if_neg (by decide)]
 have ck : ∀ (Q : Unit → Shared → Prop) (B : Around) (E' : Value → Shared → Prop), Q () ⟨hp, g, d, t + 1, os⟩ → wpAny (model prog w) B (checkBuiltinCall "BaseException.__getattribute__" ⟨[.ref x, .str name t], []⟩) Q E' ⟨hp, g, d, t + 1, os⟩ := fun Q B E' hq => by
  have ha := F.args_bexc_ga (.ref x) (.str name t)
  simp only [checkBuiltinCall, hk, hsplit]
  refine wpAny_bind ?_
  unfold isInstance
  refine wpAny_bind (L0.at (L4.at ?_))
  repeat (any_goals (first | assumption | wp_step))
 have run : ∀ (B : Around) (R : Result → Shared → Prop), R (.ok (.ret v)) ⟨hp, g, d, t + 1, os⟩ → codeAny (model prog w) B (.call (.builtin "BaseException.__getattribute__") ⟨[.ref x, .str name t], []⟩) R ⟨hp, g, d, t + 1, os⟩ := fun B R hq =>
  codeAny_call_builtin F.attr_ValueError.ga.plain F.entry_bexc_ga (ck _ _ _ (by
   unfold Builtin.«object.__getattribute__»
   repeat (any_goals (first | assumption | with_reducible refine L0.at ?_ | with_reducible refine L3.at ?_ | wp_step))))
 repeat (any_goals (first | assumption | with_reducible refine L2.at ?_ | wp_step))
 refine run _ _ ?_
 show wpAny _ _ (handedOut v) _ _ _
 rw [handedOut_of hh]
 exact wpAny_pure h
open Builtin Builtin.ObjectAttr in
theorem YK {R : Addr} {cd : ClassData} {vs : Array Value} {Q : Unit → Shared → Prop} (X : K.In s.heap) (I : InstAt s.heap x ox C none) (hfl : ox.data = .fields vs) (hs : findIn K (.ref C) "__setattr__" = some (some (.builtin "object.__setattr__"))) (hc : clsIn K C = some cd)
  (hm : cd.mro = [.ref C, .ref R, .type "ValueError", .type "Exception", .type "BaseException", .type "object"]) (hd : cd.hasDict = true) (ht : findIn K (.ref C) name = some none)
  (h : ∀ h' : Heap, h'.get? x = some { ox with dict := some s.heap.objs.size } → h'.Ns1 s.heap.objs.size (fun y => if y = name then some v else none) → (∀ b o, b ≠ x → s.heap.get? b = some o → h'.get? b = some o) → Q () { s with heap := h', toks := s.toks + 2 }) :
  wpAny (model prog w) A (setAttr (.ref x) name v) Q E s := by
 obtain ⟨hp, g, d, t, os⟩ := s
 have SF := F.store_object
 have VF := F.store_ValueError
 have hpass : refuseLoop (.ref x) "__setattr__" cd.mro = pure () := by rw [hm, refuseLoop_ref, refuseLoop_ref]; exact VF.passes _
 have sub : Looks (model prog w) hp (isInstance (.ref x) (.type "object")) true := I.type.andThen (looks_mroIn X (by unfold mroIn; rw [hc, Option.bind_some, hm]; rfl))
 have lm : Looks (model prog w) hp (mroOf (.ref C)) cd.mro := (looks_clsIn X hc).andThen .now
 have la := looks_findIn (M := model prog w) X ht
 have lt := I.type (M := model prog w)
 have lc := looks_clsIn (M := model prog w) X hc
 refine set_plain X I hs (codeAny_call_builtin SF.slot.plain SF.entry ?_)
 refine @check_slot (model prog w) _ _ ⟨hp, g, d, t + 1, os⟩ "object.__setattr__" "object" "__setattr__" (.ref x) [.str name t, v] [] _ SF.kind SF.split sub (SF.args (.ref x) (.str name t) v) ?_
 rw [osa_eq, refuse_eq]
 refine wpAny_bind (wpAny_bind (lt.at (wpAny_bind (lm.at ?_))))
 rw [hpass]
 refine wpAny_pure (wpAny_bind (lt.at (wpAny_bind (la.at (wpAny_bind (wpAny_pure ?_))))))
 dsimp only
 obtain ⟨hx, hcl, hn, hdi⟩ := I
 obtain ⟨oc, odi, oda, osl⟩ := ox
 dsimp only at hcl hdi hfl
 subst hcl hfl
 have hdn : odi = none := by
  cases odi with
  | none => rfl
  | some z => exact hdi.elim
 subst hdn
 have hxs : x ≠ hp.objs.size := Nat.ne_of_lt (Heap.lt_size hx)
 have hx1 : (hp.push { cls := .type "dict", data := .dict #[] }).get? x = some ⟨.ref C, none, .fields vs, osl⟩ := Heap.get?_push_of_some _ hx
 unfold storeInOwnDict
 refine wpAny_bind (wpAny_pure (wpAny_bind (wpAny_bind (wpAny_loadPart hx (wpAny_bind (lc.at ?_))))))
 rw [hd]
 refine wpAny_bind (wpAny_alloc' (wpAny_bind (wpAny_update' hx1 (wpAny_pure ?_))))
 have hgd : ((hp.push { cls := .type "dict", data := .dict #[] }).update x fun o => { cls := o.cls, dict := some hp.objs.size, data := o.data, slots := o.slots }).get? hp.objs.size = some { cls := .type "dict", data := .dict #[] } := (Heap.get?_update_other _ _ hxs).trans (Heap.get?_push_size _ rfl)
 have hgx : ((hp.push { cls := .type "dict", data := .dict #[] }).update x fun o => { cls := o.cls, dict := some hp.objs.size, data := o.data, slots := o.slots }).get? x = some ⟨.ref C, some hp.objs.size, .fields vs, osl⟩ := Heap.get?_update_self _ hx1 rfl
 have ho : ∀ b o, b ≠ x → hp.get? b = some o → ((hp.push { cls := .type "dict", data := .dict #[] }).update x fun o => { cls := o.cls, dict := some hp.objs.size, data := o.data, slots := o.slots }).get? b = some o := fun b o nb z => (Heap.get?_update_other _ _ (Ne.symm nb)).trans (Heap.get?_push_of_some _ z)
 generalize (hp.push { cls := .type "dict", data := .dict #[] }).update x (fun o => { cls := o.cls, dict := some hp.objs.size, data := o.data, slots := o.slots }) = h2 at hgd hgx ho ⊢
 have hnd : h2.Ns hp.objs.size (fun _ => none) := ⟨_, #[], _, hgd, rfl, fun e he => absurd he (by simp), fun _ => rfl⟩
 show wpAny _ _ (storeInDict hp.objs.size (.str name t) name v) _ _ _
 unfold storeInDict newKeyGuard
 refine wpAny_bind (wpAny_pure (wpAny_bind (wpAny_nsSet1 (Heap.Ns1.of_empty hnd) fun h' hn' hs' => ?_)))
 obtain ⟨oD, esD, epD, hoD, hdD, hcD⟩ := hn'.count (Within.cons name v Within.nil)
 refine wpAny_bind (wpAny_lookBehind hoD (by rw [hdD]; exact pastItsLine_dict (Nat.le_trans hcD (by rw [List.length_cons, List.length_nil, sizeLine_eq]; omega))) ?_)
 exact wpAny_pure (h h' ((hs'.2 x hxs).trans hgx) hn' fun b o nb z => (hs'.2 b (Nat.ne_of_lt (Heap.lt_size z))).trans (ho b o nb z))
end
end EX
namespace EX
open PySem PySem.Spec L2
open PyProof.Rows hiding St
abbrev bmV : List Value := [.type "ValueError", .type "Exception", .type "BaseException", .type "object"]
def excX (K : PySem.W.Frag) (C : Addr) : Bool := match K.lookup C with
 | some ⟨.type "type", _, .cls cd, sl⟩ => (match cd.mro, sl.toList with
  | .ref C' :: bm, [_, _, _, _, some (.builtin n), _] => C' == C && n == "ValueError.__new__" && !cd.hasDel && PySem.W.tailIn K bmV bm
  | _, _ => false)
 | _ => false
theorem Hq {K : PySem.W.Frag} {h : Heap} {C : Addr} (X : K.In h) (q : excX K C = true) : ∃ nm qn N bs bm hdct sn sub ab col dd k0 k1 k2 k3 k5, h.get? C = some (excClassObj nm qn C N bs bm hdct sn sub ab col dd k0 k1 k2 k3 k5 "ValueError.__new__") ∧ OwnTail h bmV bm := by
 unfold excX at q
 split at q
 ·rename_i dd cd sl ho
  split at q
  ·rename_i C' bm k0 k1 k2 k3 n k5 hm hs
   simp only [Bool.and_eq_true, beq_iff_eq, Bool.not_eq_true'] at q
   obtain ⟨⟨⟨e1, e2⟩, e3⟩, e4⟩ := q
   subst e1 e2
   obtain ⟨nm, bs, mro, ns, qn, hd, sn, sub, ab, col, del⟩ := cd
   obtain ⟨l⟩ := sl
   simp only at hm hs e3
   subst hm e3 hs
   exact ⟨nm, qn, ns, bs, bm, hd, sn, sub, ab, col, dd, k0, k1, k2, k3, k5, X _ _ ho, PySem.W.tail_of_in X e4⟩
  ·cases q
 ·cases q
structure XC (K : PySem.W.Frag) (C R : Addr) : Prop where
 obj : excX K C = true
 sa : PySem.W.findIn K (.ref C) "__setattr__" = some (some (.builtin "object.__setattr__"))
 ga : PySem.W.findIn K (.ref C) "__getattribute__" = some (some (.builtin "BaseException.__getattribute__"))
 gt : PySem.W.findIn K (.ref C) "__getattr__" = some none
 cd : (PySem.W.clsIn K C).any (fun cd => cd.mro == [.ref C, .ref R, .type "ValueError", .type "Exception", .type "BaseException", .type "object"] && cd.hasDict) = true
theorem XC.cls {K : PySem.W.Frag} {C R : Addr} (x : XC K C R) : ∃ cd, PySem.W.clsIn K C = some cd ∧ cd.mro = [.ref C, .ref R, .type "ValueError", .type "Exception", .type "BaseException", .type "object"] ∧ cd.hasDict = true := by
 obtain ⟨cd, h1, h2⟩ := PySem.W.any_some x.cd
 simp only [Bool.and_eq_true, beq_iff_eq] at h2
 exact ⟨cd, h1, h2.1, h2.2⟩
theorem Pk {H : Hp} {a : Addr} {o : HO} (h : H a = some o) : upd H a o = H := by
 funext b
 unfold upd
 split
 ·rename_i e; rw [e, h]
 ·rfl
section
variable {X : Cx} {pins : List (Addr × Obj)} {σ : St} {H : Hp} {s : Shared} {e C R dx : Addr} {od tb : Option Addr} {A : Around} {E : Value → Shared → Prop} {f : Str}
theorem V0 {u : Value} {Q : Value → Shared → Prop} (I : Inv X pins σ H s) (he : H e = some (excO e C od tb)) (x : XC X.K C R) (hQ : ∀ s', Inv X pins σ H s' → Q .none s') :
  wpAny (model X.prog X.w) A (call (.builtin "ValueError.__init__") [.ref e, u]) Q E s := by
 have F := PySem.F.excBase_ValueError
 obtain ⟨⟨o, vs, q1, q2, q3, q4, q5, q6⟩, _⟩ := I.hok e _ he
 obtain ⟨nm, qn, N, bs, bm, hdct, sn, sub, ab, col, dd, k0, k1, k2, k3, k5, hC, T⟩ := Hq I.kIn x.obj
 have I1 := I.kept (h' := s.heap.push { cls := .type "tuple", data := .seq [u].toArray }) (t' := s.toks) fun b v z => Heap.get?_push_of_some _ z
 have g1 := Heap.get?_push_of_some (h := s.heap) { cls := .type "tuple", data := .seq [u].toArray } q1
 have I2 := Hb (u' := excO e C od tb) (i := 0) (v := .ref s.heap.objs.size) I1 he trivial g1 q4 fun h' o' r1 r2 r3 r4 => ExcP.ok ⟨o', _, r1, r2.trans q2, r3.trans q3, r4, by simpa using q5, by rw [Array.getElem?_setIfInBounds_ne (by decide)]; exact q6⟩
 rw [Pk he] at I2
 obtain ⟨hp, g, d, t, os⟩ := s
 have h0 : ∃ v0, vs[0]? = some v0 := ⟨vs[0]'(by omega), by simp⟩
 obtain ⟨v0, h0⟩ := h0
 refine wpAny_call (codeAny_call_builtin F.init.plain F.initEntry (wpAny_check_init_subT F T hC q1 q2 ?_))
 unfold Builtin.«BaseException.__init__»
 dsimp only
 rw [if_neg (by simp)]
 unfold newTuple Builtin.BaseException.bexcPut
 refine wpAny_bind (wpAny_newObj_type (wpAny_bind (wpAny_bind (wpAny_field g1 q4 h0 (wpAny_bind (wpAny_setField g1 q4 (by omega) ?_))))) (by show 1 ≤ sizeLine; decide))
 have z := hQ _ I2
 cases v0 <;> first | exact wpAny_letGo (wpAny_pure z) | exact wpAny_pure (wpAny_pure z)
theorem YL {y : V} {u : Value} {Q : Unit → Shared → Prop} (I : Inv X pins σ H s) (he : H e = some (excO e C none tb)) (x : XC X.K C R) (n : BW X.K C f) (ry : RelV y u)
  (h : ∀ dx s', H dx = none → Inv X pins σ (upd (upd H dx (.xd [(f, y)])) e (excO e C (some dx) tb)) s' → Q () s') : wpAny (model X.prog X.w) A (setAttr (.ref e) f u) Q E s := by
 obtain ⟨⟨o, vs, q1, q2, q3, q4, q5, q6⟩, _⟩ := I.hok e _ he
 obtain ⟨cd, c1, c2, c3⟩ := x.cls
 have ia : PySem.W.InstAt s.heap e o C none := ⟨q1, q2, by unfold PySem.W.notCls; rw [q4], by rw [q3]; trivial⟩
 refine YK I.kIn ia q4 x.sa c1 c2 c3 n fun h' r1 r2 r3 => h s.heap.objs.size _ I.fresh ?_
 have hf := I.fresh
 have ne : e ≠ s.heap.objs.size := An he hf
 have hs : ∃ o', h'.get? s.heap.objs.size = some o' := let ⟨o', _, _, z, _⟩ := r2; ⟨o', z⟩
 have nx : ∀ b v, H b = some v → (∀ φ, v ≠ .ext φ) → b ≠ e ∧ b ≠ s.heap.objs.size := fun b v q z => ⟨fun w => by rw [w, he] at q; cases q; exact z _ rfl, An q hf⟩
 have ot : ∀ b v, H b = some v → (∀ φ, v ≠ .ext φ) → upd (upd H s.heap.objs.size (.xd [(f, y)])) e (excO e C (some s.heap.objs.size) tb) b = some v := fun b v q z => by rw [Ad (nx b v q z).1, Ad (nx b v q z).2]; exact q
 refine I.un ⟨fun b ob z nb _ _ => r3 b ob (Ne.symm (An he nb)) z, fun b ob z nb _ _ => ⟨ob.slots, r3 b ob (Ne.symm (An he nb)) z⟩, fun b ob z nb _ => ?_, fun b ob z _ => ?_, fun b xs z => ot b _ z (fun _ z => nomatch z), fun b o' u' z => ot b _ z (fun _ z => nomatch z), fun b ps z => ⟨#[], by rw [ot b _ z (fun _ z => nomatch z)]; simp⟩⟩ fun b v z => ?_
 ·rw [Ad (Ne.symm (An he nb)), Ad (Nat.ne_of_lt (Heap.lt_size z))]; exact nb
 ·by_cases hb : b = e
  ·rw [hb]; exact ⟨_, r1⟩
  ·exact ⟨ob, r3 b ob hb z⟩
 ·by_cases hb : b = e
  ·subst hb
   rw [Ae] at z
   cases z
   exact ExcP.ok ⟨_, vs, r1, q2, rfl, q4, q5, q6⟩
  ·rw [Ad hb] at z
   by_cases hb2 : b = s.heap.objs.size
   ·subst hb2
    rw [Ae] at z
    cases z
    refine ⟨_, r2, fun g => ?_⟩
    by_cases hg : g = f
    ·subst hg; simp [List.lookup]; exact ry
    ·have : (g == f) = false := beq_eq_false_iff_ne.mpr hg
     simp [List.lookup, this, hg]; trivial
   ·rw [Ad hb2] at z
    refine (I.hok b v z).stay (fun c w hc k => r3 c w ?_ k) (fun c q => ot c _ q (fun _ z => nomatch z)) (fun c xs q => ot c _ q (fun _ z => nomatch z))
    rcases hc with hc | hc
    ·rw [hc]; exact hb
    ·exact (nx c _ hc (fun _ z => nomatch z)).1
theorem YM {b : Bool} {fs : List (Str × V)} {v : V} {Q : Value → Shared → Prop} (I : Inv X pins σ H s) (he : H e = some (excO e C (some dx) tb)) (hd : H dx = some (.xd fs)) (x : XC X.K C R) (n : BW X.K C f) (l : fs.lookup f = some v)
  (h : ∀ u s', Inv X pins σ H s' → RelV v u → Q u s') : wpAny (model X.prog X.w) A (getAttr (.ref e) f b) Q E s := by
 obtain ⟨⟨o, vs, q1, q2, q3, q4, q5, q6⟩, _⟩ := I.hok e _ he
 obtain ⟨mA, ns, r⟩ := I.hok dx _ hd
 obtain ⟨u, hu, ru⟩ := RelO.some_of (v := v) (o := mA f) (by rw [← l]; exact r f)
 obtain ⟨oD, g1, g2⟩ := Hz ns
 obtain ⟨cd, c1, c2, c3⟩ := x.cls
 have ia : PySem.W.InstAt s.heap e o C (some oD) := ⟨q1, q2, by unfold PySem.W.notCls; rw [q4], by rw [q3]; exact g1⟩
 have hh : PySem.W.hasDictIn X.K C = true := by unfold PySem.W.hasDictIn; rw [c1]; exact c3
 refine YJ I.kIn ia x.ga x.gt ?_ (PySem.W.findObj_own hh n rfl (by rw [g2, hu])) (Ky ru) (h u _ (I.tok _) ru)
 show PySem.W.mroIn X.K C _ = _
 unfold PySem.W.mroIn
 rw [c1, Option.bind_some, c2]
 rfl
end
end EX
namespace EX
open PySem PySem.Spec L2
open PyProof.Rows hiding St
section
variable {X : Cx} {a b : Expr} {es : List Expr} {t : TA} {p pos apos : Pos} {x : Str} {R : Addr}
def PP (X : Cx) (c : St → Prop) (e : Expr) : Prop := ∀ (pins : List (Addr × Obj)) (s : Shared) (σ : St) (H : Hp), Inv X pins σ H s → c σ →
 wpAny (model X.prog X.w) X.A (eval e X.env) (fun v s' => ∃ y t, v = .str y t ∧ y.length ≤ 2000000 ∧ Inv X pins σ H s') X.xe s
theorem aj {c : St → Prop} {z : Str} {j} (h : z.length ≤ 2000000 := by decide) : PP X c (.Constant (.str z) j pos) := fun pins s σ H I _ => Calls.Constant_str ⟨z, _, rfl, h, I.tok _⟩
def V1 (i : Nat) (σ : St) : Prop := ∃ z : Str, σ[i]? = some (some (.str z)) ∧ z.length ≤ 100000 ∧ ∀ c ∈ z.cps.toList, c < 16 ^ 8
theorem YQ {i : Nat} {e : Expr} (h : PE X e (tVar i)) : PP X (V1 i) (.FormattedValue e 114 none pos) := fun pins s σ H I ⟨z, h1, h2, h3⟩ => by
 refine wpAny_FormattedValue_repr (thn (h pins s σ H (fun v H' => v = .str z ∧ H' = H) I ⟨_, h1, rfl, rfl⟩) fun u s1 ⟨v, H1, I1, r1, q1, q2⟩ => ?_)
 subst q1 q2
 obtain ⟨t, rfl⟩ := (show ∃ t, u = Value.str z t from r1)
 have hl : (reprText z).length ≤ 2000000 := by have := PySem.StrLaws.reprText_len z h3; omega
 refine wpAny_pyReprObj_str ?_ (PV.CG (by omega))
 exact wpAny_formatField_str ⟨_, _, rfl, hl, I1.tok _⟩ ⟨_, _, rfl, hl, (I1.tok _).tok _⟩ (PV.CG (by omega))
theorem Sq (y : Str) : (Str.empty ++ y).length = y.length := by rw [PV.CZ]; simp [Str.length, Str.empty]
def tTxt (c : St → Prop) : TE := fun σ H Q => c σ ∧ ∀ y, Q (.str y) H
theorem V2 {c : St → Prop} {e1 e2 : Expr} (h1 : PP X c e1) (h2 : PP X c e2) : PE X (.JoinedStr [e1, e2] pos) (tTxt c) := fun pins s σ H Q I ⟨hc, q⟩ => by
 refine wpAny_JoinedStr ?_
 refine thn (h1 pins s σ H I hc) fun v s1 ⟨y, t, e, l, I1⟩ => ⟨y, t, e, PV.CG (by rw [Sq]; omega), ?_⟩
 have b2 : ∀ y2 : Str, y2.length ≤ 2000000 → (Str.empty ++ y ++ y2).length ≤ sizeLine := fun y2 l2 => PV.CG (by rw [PV.CZ, Sq]; omega)
 exact thn (h2 pins s1 σ H I1 hc) fun v s2 ⟨y2, t2, e2, l2, I2⟩ => ⟨y2, t2, e2, b2 y2 l2, b2 y2 l2, ⟨.str _, H, I2.tok _, ⟨_, rfl⟩, q _⟩⟩
def tSup (K : PySem.W.Frag) (t : TA) : TE := fun σ H Q => t σ H fun vs H1 => ∃ e y C R od tb, vs = [.ref e, .str y] ∧ H1 e = some (excO e C od tb) ∧ XC K C R ∧ Q .non H1
theorem V3 {pl : Sem Bool} (hg : Gl X x) (hm : X.mg x = some (.ref R)) (h1 : PySem.W.specialIn X.K (.ref R) "__getattribute__" = some (some (.builtin "type.__getattribute__"))) (h2 : PySem.W.readsIn X.K R (.type "type") = true)
  (h3 : PySem.W.findCls X.K (.ref R) (.type "type") "__init__" = some (.val (.builtin "ValueError.__init__"))) (ha : PA X (a :: es) t) (hdb : (x == ("__debug__" : Str)) = false := by decide)
  (hst : starEach (a :: es) X.env = (false, eval a X.env) :: starEach es X.env := by rfl) (hpl : (backTo pos (starEach es X.env)).any (·.1) = false := by rfl)
  (ht : eval (.Call (.Attribute (.Name x p) "__init__" apos) (a :: es) [] pos) X.env = (do
   let ov ← eval (.Name x p) X.env
   standAt apos.atName
   let (f, first) ← holding [ov] (getMethod ov "__init__" pl)
   callWith pos f first (backTo pos (starEach (a :: es) X.env)) (backToKw pos (keywordEach [] X.env))) := by rfl) :
  PE X (.Call (.Attribute (.Name x p) "__init__" apos) (a :: es) [] pos) (tSup X.K t) := by
 intro pins s σ H Q I h
 refine PySem.W.methodCall_KW (pl := pl) (Gj I hg hm ?_ hdb) ht
 refine PySem.W.method_cls I.kIn h1 (PySem.W.cls_value I.kIn h2 h3 rfl ?_)
 refine callWith_builtin1 (thn (ha pos pins _ σ H _ (I.tok _) h) fun us s1 ⟨vs, H1, I1, r, e, y, C, R', od, tb, ev, he, xc, q⟩ => ?_) hst hpl
 subst ev
 cases r with
 | cons r1 r =>
  cases r with
  | cons r2 r =>
   cases r
   obtain rfl := (show _ = Value.ref e from r1)
   exact V0 I1 he xc fun s' I' => ⟨.non, H1, I', rfl, q⟩
end
end EX
namespace EX
open PySem PySem.Spec L2
open PyProof.Rows hiding St
section
variable {X : Cx} {o value : Expr} {ta tv : TE} {pos pos' : Pos} {f : Str}
def sXf (K : PySem.W.Frag) (ta tv : TE) (f : Str) : TS := fun D σ H => tv σ H fun y H1 => ta σ H1 fun x H2 => ∃ e C R tb, x = .ref e ∧ H2 e = some (excO e C none tb) ∧ XC K C R ∧ BW K C f ∧
 ∀ dx, H2 dx = none → D.nx σ (upd (upd H2 dx (.xd [(f, y)])) e (excO e C (some dx) tb))
theorem YS (ha : PE X o ta) (hv : PE X value tv) (hs : swapsWith value (some (.Attribute o f pos')) pos.line X.env = pure false) : PS X (.Assign [.Attribute o f pos'] value pos) (sXf X.K ta tv f) := by
 intro pins s σ H D I h
 refine plainObj_wpAny_Assign_Attribute (thn (hv pins s σ H _ I h) fun u s1 ⟨y, H1, I1, ry, q⟩ => thn (ha pins s1 σ H1 _ I1 q) fun ov s2 ⟨x, H2, I2, rx, e, C, R, tb, ex, ea, c, n, q2⟩ => ?_) hs
 subst ex
 obtain rfl : ov = Value.ref e := rx
 exact YL I2 ea c n ry fun dx s3 hd I3 => ⟨σ, _, I3, q2 dx hd⟩
end
def spE (K : PySem.W.Frag) (f : Str) (c : V → Prop) : Sp := fun vs H Q _ => ∃ e y C R, vs = [.ref e, y] ∧ H e = some (excO e C none none) ∧ XC K C R ∧ BW K C f ∧ c y ∧ ∀ dx, H dx = none → Q .non (upd (upd H dx (.xd [(f, y)])) e (excO e C (some dx) none))
theorem T_ {K : PySem.W.Frag} {f : Str} {c : V → Prop} {cs : St → Prop} {vs : List V} {H : Hp} {Q : VK} {E : XK} {N : List Str} (h : spE K f c vs H Q E) (hN : N.length = 2) (hc : ∀ e y, c y → cs [some (.ref e), some y]) :
  tSeq (Yt (tSup K (Q_ (tVar 0) (Q_ (tTxt cs) tNil)))) (sXf K (tVar 0) (tVar 1) f) { nx := fun _ H' => Q .non H', rt := Q } (start N vs) H := by
 obtain ⟨e, y, C, R, rfl, he, xc, n, cy, q⟩ := h
 have st : start N [.ref e, y] = [some (.ref e), some y] := by unfold L2.start; rw [hN]; rfl
 rw [st]
 exact ⟨_, rfl, hc e y cy, fun z => ⟨e, z, C, R, none, none, rfl, he, xc, _, rfl, _, rfl, e, C, R, none, rfl, he, xc, n, q⟩⟩
theorem YT {K : PySem.W.Frag} {f : Str} {c : V → Prop} {vs : List V} {H : Hp} {Q : VK} {E : XK} (h : spE K f c vs H Q E) : vs.length = 2 := by
 obtain ⟨e, y, C, R, rfl, _⟩ := h
 rfl
def okS (y : V) : Prop := ∃ z : Str, y = .str z ∧ z.length ≤ 100000 ∧ ∀ c ∈ z.cps.toList, c < 16 ^ 8
theorem ak (e : Addr) (y : V) (h : okS y) : V1 1 [some (.ref e), some y] := by obtain ⟨n, rfl, h⟩ := h; exact ⟨n, rfl, h⟩
section
variable {X : Cx} {pins : List (Addr × Obj)} {σ : St} {H : Hp} {s : Shared} {C R fi : Addr} {k : Nat} {fd : FuncData} {ps : List Str} {f : Str} {c : V → Prop}
theorem Inv.exc {us : List Value} (I : Inv X pins σ H s) : Inv X pins σ (upd H (s.heap.objs.size + 1) (excO (s.heap.objs.size + 1) C none none)) { s with heap := (s.heap.push (El us)).push (Fd C s.heap.objs.size) } := by
 have I1 := I.kept (h' := s.heap.push (El us)) (t' := s.toks) fun b v z => Heap.get?_push_of_some _ z
 have hs : (s.heap.push (El us)).objs.size = s.heap.objs.size + 1 := by simp [Heap.size_push]
 refine I1.laid (a := s.heap.objs.size + 1) (h' := (s.heap.push (El us)).push (Fd C s.heap.objs.size)) (t' := s.toks) (fun b v z => Heap.get?_push_of_some _ z) (Nat.le_of_eq hs) ?_
 have g := Heap.get?_push_size (s.heap.push (El us)) (o := Fd C s.heap.objs.size) rfl
 rw [hs] at g
 exact ExcP.ok ⟨_, _, g, rfl, rfl, rfl, rfl, rfl⟩
theorem YW {Q : VK} {us : List Value} {y : V} (x : XC X.K C R) (hi : PySem.W.findIn X.K (.ref C) "__init__" = some (some (.ref fi))) (hf : PySem.W.isFn X.K (.ref fi) = true) (n : BW X.K C f)
  (F : FnOk X.prog X.w X.K X.mg X.base CX0 k fi fd ps (spE X.K f c)) (hr : Room (k + 1) X.A) (hb : Binds X.K fd ps []) (I : Inv X pins σ H s) (r : Vals [y] us) (cy : c y)
  (h : ∀ e dx, H e = none → H dx = none → dx ≠ e → Q (.ref e) (upd (upd H dx (.xd [(f, y)])) e (excO e C (some dx) none))) : wpAny (model X.prog X.w) X.A (call (.ref C) us) (EP X pins σ Q) X.xe s := by
 have I2 := Inv.exc (C := C) (us := us) I
 have hfe : H (s.heap.objs.size + 1) = none := I.hok.fresh (Nat.le_succ _)
 have sp : spE X.K f c [.ref (s.heap.objs.size + 1), y] (upd H (s.heap.objs.size + 1) (excO (s.heap.objs.size + 1) C none none)) (fun v H2 => v = .non ∧ Q (.ref (s.heap.objs.size + 1)) H2) E0 := by
  refine ⟨_, y, C, R, rfl, Ae, x, n, cy, fun dx hd => ⟨rfl, ?_⟩⟩
  have ne : dx ≠ s.heap.objs.size + 1 := fun z => by rw [z, Ae] at hd; cases hd
  rw [Ad ne] at hd
  have := h _ dx hfe hd ne
  have e : upd (upd (upd H (s.heap.objs.size + 1) (excO (s.heap.objs.size + 1) C none none)) dx (.xd [(f, y)])) (s.heap.objs.size + 1) (excO (s.heap.objs.size + 1) C (some dx) none) = upd (upd H dx (.xd [(f, y)])) (s.heap.objs.size + 1) (excO (s.heap.objs.size + 1) C (some dx) none) := by
   funext b
   unfold upd
   split <;> rfl
  rw [e]
  exact this
 have r2 : Vals [V.ref (s.heap.objs.size + 1), y] (Value.ref (s.heap.objs.size + 1) :: us) := .cons rfl r
 have hl : (Value.ref (s.heap.objs.size + 1) :: us).length = ps.length := by rw [← r2.length]; exact F.len _ _ _ _ sp
 have hb' := hb { s with heap := (s.heap.push (El us)).push (Fd C s.heap.objs.size) } (Value.ref (s.heap.objs.size + 1) :: us) I2.kIn (by rw [List.append_nil]; exact hl)
 rw [List.append_nil] at hb'
 have hus : us.length ≤ sizeLine := by rw [← r.length]; exact PV.CG (by show 1 ≤ _; decide)
 obtain ⟨nm, qn, N, bs, bm, hdct, sn, sub, ab, col, dd, k0, k1, k2, k3, k5, hC, T⟩ := Hq I.kIn x.obj
 have KI := I.kIn
 have run := F.run _ X.stack _ _ ⟨Value.ref (s.heap.objs.size + 1) :: us, []⟩ (Value.ref (s.heap.objs.size + 1) :: us) _ _ E0 (hr.make C us []) (I2.env0.make C us []) hb' r2 sp
 obtain ⟨hp, g, d, t, os⟩ := s
 refine wpAny_call (Vz PySem.F.excBase_ValueError T hC (PySem.W.looks_findIn KI hi) (fun self => PySem.W.bind_fn KI self (beq_iff_eq.mp hf)) (codeAny_mono run fun r s' hq' => ?_) hus)
 cases r with
 | error e => exact hq'.elim
 | ok fl =>
  cases fl with
  | ret u =>
   obtain ⟨v, H', I3, rv, ev, q3⟩ := I2.after hq'
   subst ev
   exact ⟨rv, ⟨V.ref (hp.objs.size + 1), H', I3, rfl, q3⟩⟩
  | next => exact False.elim hq'
  | brk => exact False.elim hq'
  | cont => exact False.elim hq'
end
end EX
namespace EX
open PySem PySem.Spec L2
open PyProof.Rows hiding St
section
variable {M : Model} {A : Around} {E : Value → Shared → Prop} {env : Env} {K : PySem.W.Frag}
theorem V4 {s : Shared} {x : Sem Value} {Q : Flow → Shared → Prop} (hh : A.handled = none)
  (h : wpAny M A x (fun v s₁ => ∃ e C od, v = .ref e ∧ ExcP e C od none s₁.heap ∧ K.In s₁.heap ∧ excX K C = true ∧ E (.ref e) s₁) E s) : wpAny M A (raiseStmt env (some x) none) Q E s := by
 unfold raiseStmt
 refine wpAny_bind (wpAny_mono h (fun v s₁ h₁ => ?_) fun _ _ x => x)
 obtain ⟨e, C, od, rfl, ⟨o, vs, q1, q2, q3, q4, q5, q6⟩, KI, hx, hE⟩ := h₁
 obtain ⟨nm, qn, N, bs, bm, hdct, sn, sub, ab, col, dd, k0, k1, k2, k3, k5, hC, T⟩ := Hq KI hx
 have hcB : (Value.ref C :: bm).contains (.type "BaseException") = true := by rw [List.contains_cons, T.hasType (by decide +kernel : bmV.contains (.type "BaseException") = true), Bool.or_true]
 obtain ⟨hp, g, d, tk, os⟩ := s₁
 obtain ⟨oc, odi, oda, osl⟩ := o
 dsimp only at q2 q3 q4
 subst q2 q4
 have h6 : vs[1]? = some Value.none := q6
 repeat (first | with_reducible refine wpAny_loadPart_at q1 ?_ | with_reducible refine wpAny_loadPart_at hC ?_ | (with_reducible refine wpAny_isSubtype_exc hC ?_; rw [hcB]) | with_reducible refine wpAny_field q1 rfl h6 ?_ | wp_step)
 exact wpAny_raiseNew_none hh hE
end
end EX
namespace PV
open PySem PySem.Spec L2 EX
open PyProof.Rows hiding St
def excF (c f : Str) (ok : D → Bool) (fa : FE) : FE := fun ρ => (fa ρ).bind fun d => if ok d = true then some (.exc c [(f, d)]) else none
section
variable {X : Cx} {G : Gx} {a : Expr} {fa : FE} {np cpos pos : Pos} {C R fi : Addr} {k : Nat} {fd : FuncData} {ps : List Str} {f cx cn : Str} {c : V → Prop} {ok : D → Bool}
theorem V5 {H : Hp} {v y : V} {d : D} (r : Rep G H v d) (h : flV d = some y) : v = y := by
 cases r <;> first | (cases h; rfl) | (cases h)
theorem UG (x : XC X.K C R) (hi : PySem.W.findIn X.K (.ref C) "__init__" = some (some (.ref fi))) (hf : PySem.W.isFn X.K (.ref fi) = true) (kp : PySem.W.keepIn X.K (.ref C) = true) (n : BW X.K C f)
  (F : FnOk X.prog X.w X.K X.mg X.base CX0 k fi fd ps (spE X.K f c)) (hr : Room (k + 1) X.A) (hb : Binds X.K fd ps []) (hg : Gl X cx) (hm : X.mg cx = some (.ref C)) (hcl : G.xcl cn = some C) (hc : X.calm = true) (hok : ∀ d, ok d = true → ∃ y, flV d = some y ∧ c y)
  (ha : PF X G a fa) (hdb : (cx == ("__debug__" : Str)) = false := by decide) (he : starEach [a] X.env = [(false, eval a X.env)] := by rfl) (hpl : (backTo cpos (starEach [] X.env)).any (·.1) = false := by rfl) :
  PSZ X G (.Raise (some (.Call (.Name cx np) [a] [] cpos)) none pos) (retF (excF cn f ok fa)) := fun A0 He pins s σ H D I ⟨ρ, o, ⟨A, w⟩, e, k, kx⟩ => by
 unfold retF excF at e
 cases e1 : fa ρ with
 | none => simp [e1] at e
 | some d =>
  rw [e1] at e
  by_cases hd : ok d = true
  ·simp only [Option.bind_some, hd, if_true, Option.map_some] at e
   cases e
   obtain ⟨y, hy, cy⟩ := hok d hd
   have kx : Rz X G A0 He cn [(f, d)] ρ := kx cn [(f, d)] rfl
   have call : wpAny (model X.prog X.w) X.A (eval (.Call (.Name cx np) [a] [] cpos) X.env) (fun v s₁ => ∃ e C od, v = .ref e ∧ ExcP e C od none s₁.heap ∧ X.K.In s₁.heap ∧ excX X.K C = true ∧ X.xe (.ref e) s₁) X.xe s := by
    refine wpAny_Call_Name_kw (Gj I hg hm ?_ hdb)
    have pa := Cp (@ha A) Ft he cpos pins s σ H (fun vs H1 => vs = [y] ∧ OkW G A0 He A σ H1 ρ) I ⟨ρ, d, w.ok, e1, fun v H1 s1 r1 => ⟨by rw [V5 r1 hy], w.mono s1⟩⟩
    refine PySem.W.callWith_K (h₀ := X.base) I.ok.mod.kin kp (thn pa fun us s1 ⟨vs, H1, I1, r, ev, w1⟩ => ⟨I1.kIn, ?_⟩) he hpl
    ·subst ev
     refine thn (YW (Q := fun v H2 => ∃ e dx, v = .ref e ∧ H1 e = none ∧ H1 dx = none ∧ dx ≠ e ∧ H2 = upd (upd H1 dx (.xd [(f, y)])) e (excO e C (some dx) none)) x hi hf n F hr hb I1 r cy fun e dx h1 h2 h3 => ⟨e, dx, rfl, h1, h2, h3, rfl⟩) fun u s2 ⟨v2, H2, I2, r2, e, dx, ev, h1, h2, h3, eH⟩ => ?_
     subst ev eH
     obtain rfl : u = Value.ref e := r2
     refine ⟨e, C, some dx, rfl, (I2.hok e _ Ae).1, I2.kIn, x.obj, ?_⟩
     refine kx pins σ H1 _ s2 e none I2 ⟨A, w1⟩ ⟨⟨C, some dx, [(f, y)], hcl, Ae, (show upd (upd H1 dx (.xd [(f, y)])) e (excO e C (some dx) none) dx = _ by rw [Ad h3]; exact Ae), ?_, fun d q => by cases q; exact h2⟩, fun b u q => ?_, h1, fun T z => nomatch z⟩
     ·simp [FsV, hy]
     ·rw [Ad (An q h1), Ad (An q h2)]; exact q
   show wpAny _ _ (exec (.Raise (some (.Call (.Name cx np) [a] [] cpos)) none pos) X.env) _ _ _
   rw [arm_exec_Raise]
   refine wpAny_bind (wpAny_standAt (V4 (K := X.K) (I.ok.hd hc) ?_))
   exact wpAny_bind (thn call fun v s1 q => wpAny_bind (wpAny_standAt (wpAny_pure q)))
  ·simp [hd] at e
end
end PV
namespace EX
open PySem PySem.Spec L2
open PyProof.Rows hiding St
abbrev Cx.mk2 (X : Cx) (e : Addr) : Cx := { X with A := X.A.mark (some (.ref e)), calm := false, xe := fun _ _ => False }
section
variable {X : Cx} {pins : List (Addr × Obj)} {σ : St} {H : Hp} {s : Shared} {e C R : Addr} {K : PySem.W.Frag}
theorem Pn (I : Inv X pins σ H s) : Inv (Cx.mk2 X e) pins σ H s :=
 ⟨⟨I.ok.mod, I.ok.kind, I.ok.glob, I.ok.blt, I.ok.above, I.ok.inj, I.ok.has, I.ok.cab, (fun z => nomatch z), I.ok.frames, I.ok.stk, I.ok.exf, I.ok.bs, I.ok.bsz, I.ok.noex, I.ok.exfs, I.ok.funs, I.ok.frf⟩, I.os, I.bare, I.base, I.loc, I.cell, I.free, I.freeC, I.pin, I.hok, I.len⟩
theorem Kd (ok : X.Ok) (I : Inv (Cx.mk2 X e) pins σ H s) : Inv X pins σ H s := ⟨ok, I.os, I.bare, I.base, I.loc, I.cell, I.free, I.freeC, I.pin, I.hok, I.len⟩
abbrev Cx.tr (X : Cx) (E : Value → Shared → Prop) (pn : List (Addr × Obj)) : Cx := { X with xe := E, pn := pn }
theorem cV {E : Value → Shared → Prop} {pn : List (Addr × Obj)} (ok : X.Ok) : (Cx.tr X E pn).Ok := ⟨ok.mod, ok.kind, ok.glob, ok.blt, ok.above, ok.inj, ok.has, ok.cab, ok.hd, ok.frames, ok.stk, ok.exf, ok.bs, ok.bsz, ok.noex, ok.exfs, ok.funs, ok.frf⟩
theorem ao {E : Value → Shared → Prop} (I : Inv X pins σ H s) : Inv (Cx.tr X E (X.pn ++ pins)) [] σ H s := ⟨cV I.ok, I.os, I.bare, I.base, I.loc, I.cell, I.free, I.freeC, fun p hp => I.pin p (by simpa using hp), I.hok, I.len⟩
theorem GR {E : Value → Shared → Prop} {pins' : List (Addr × Obj)} (ok : X.Ok) (I : Inv (Cx.tr X E (X.pn ++ pins)) pins' σ H s) : Inv X pins σ H s := ⟨ok, I.os, I.bare, I.base, I.loc, I.cell, I.free, I.freeC, fun p hp => I.pin p (List.mem_append_left _ hp), I.hok, I.len⟩
theorem Jt {E : Value → Shared → Prop} {pins' : List (Addr × Obj)} {D : Ends} {f : Flow} {s' : Shared} (ok : X.Ok) (h : SP (Cx.tr X E (X.pn ++ pins)) pins' D f s') : SP X pins D f s' := by
 cases f with
 | next => obtain ⟨σ', H', I, q⟩ := h; exact ⟨σ', H', GR ok I, q⟩
 | brk => obtain ⟨σ', H', I, q⟩ := h; exact ⟨σ', H', GR ok I, q⟩
 | cont => obtain ⟨σ', H', I, q⟩ := h; exact ⟨σ', H', GR ok I, q⟩
 | ret u => obtain ⟨v, σ', H', I, r, q⟩ := h; exact ⟨v, σ', H', GR ok I, r, q⟩
theorem V6 {M : Model} {A : Around} {E : Value → Shared → Prop} {Q : Unit → Shared → Prop} {od : Option Addr} {T : Addr} (I : Inv X pins σ H s) (he : H e = some (excO e C od (some T))) (ht : H T = some (tbO T .none)) (k : ∀ s', Inv X pins σ H s' → Q () s') : wpAny M A (setFlight (.ref e) none) Q E s := by
 obtain ⟨⟨o, vs, q1, q2, q3, q4, q5, q6⟩, _⟩ := I.hok e _ he
 obtain ⟨⟨oT, ts, r1, r2, r3, r4⟩, _⟩ := I.hok T _ ht
 have z3 : 3 < ts.size := (Array.getElem?_eq_some_iff.mp r3).1
 unfold setFlight
 refine wpAny_bind (wpAny_field q1 q4 q6 ?_)
 rw [if_pos (show (tbV (some T) != Value.none) = true from by simp [tbV])]
 refine wpAny_setField r1 r2 z3 (k _ ?_)
 have I1 := Hb (u' := tbO T .none) (i := 3) (v := (none : Option Addr).elim Value.none fun f => rawInt f) I ht trivial r1 r2 fun h' o' y1 y2 y3 y4 => TbP.ok ⟨o', _, y1, y4, by simp [z3], y2.trans r4⟩
 rwa [Pk ht] at I1
theorem Ss {M : Model} {A : Around} {E : Value → Shared → Prop} {Q : Unit → Shared → Prop} {i : Nat} {n : Str} {pos : Pos} (I : Inv X pins σ H s) (hN : X.N.Nodup) (hi : X.N[i]? = some n) (hk : X.env.kindOf n = some .local)
  (h : ∀ s', Inv X pins (σ.set i none) H s' → Q () s') : wpAny M A (do bindName X.env n .none; unbindBehindTheSuite X.env n pos) Q E s := by
 obtain ⟨m, hn, hl⟩ := I.loc
 have hcls : (X.env.scope.kind == .class || (X.env.scope.kind == .module && X.env.locals != X.env.globals)) = false := by rw [I.ok.kind]; rfl
 have cne := I.cne
 obtain ⟨oL, _, _, hoL, _⟩ := id hn
 refine wpAny_nameGoes_keeps hk hn hcls fun h' v hn' hs => h _ ?_
 have ne : ∀ b o, X.s₀.heap.get? b = some o → b ≠ X.env.locals := fun b o z => Nat.ne_of_lt (Nat.lt_of_lt_of_le (Heap.lt_size z) I.ok.above)
 refine ⟨I.ok, I.os, I.bare, ⟨fun b o z n hb hx => (hs.2 b (ne b o z)).trans (I.base.keep b o z n hb hx), fun b o z n hb hx => ?_, I.base.free, fun b o z hx => ?_, I.base.tups, I.base.frzs, I.base.tbls⟩, ⟨_, hn', fun j y v' e1 e2 e3 => ?_⟩, fun y c z => ?_, I.free, I.freeC, fun p hp => ?_, fun b ob z => ?_, by simpa using I.len⟩
 ·obtain ⟨sl, e1⟩ := I.base.slot b o z n hb hx
  exact ⟨sl, (hs.2 b (ne b o z)).trans e1⟩
 ·obtain ⟨o', e1⟩ := I.base.there b o z hx
  exact ⟨o', (hs.2 b (ne b o z)).trans e1⟩
 ·by_cases hj : j = i
  ·subst hj
   rw [List.getElem?_set] at e2
   split at e2
   ·split at e2 <;> cases e2
   ·rename_i z; exact absurd rfl z
  ·rw [List.getElem?_set_ne (Ne.symm hj)] at e2
   obtain ⟨u', r', q⟩ := hl j y v' e1 e2 e3
   refine ⟨u', r', ?_⟩
   rcases q with ⟨k, z⟩ | ⟨k, c, z, z'⟩
   ·refine .inl ⟨k, ?_⟩
    have : y ≠ n := fun w => hj (Jw hN e1 (w ▸ hi))
    simp [this, z]
   ·exact .inr ⟨k, c, z, z'.sameBut hs (cne y c z)⟩
 ·obtain ⟨w', z'⟩ := I.cell y c z
  exact ⟨w', z'.sameBut hs (cne y c z)⟩
 ·obtain ⟨z, n, ne, nf, d⟩ := I.pin p hp
  exact ⟨(hs.2 p.1 ne).trans z, n, ne, nf, d⟩
 ·refine (I.hok b ob z).stay (fun c w' hc q => (hs.2 c ?_).trans q) (fun _ q => q) fun _ _ q => q
  rintro rfl
  rcases hc with hc | hc
  ·rw [← hc, I.free] at z; cases z
  ·rw [I.free] at hc; cases hc
theorem N7 {M : Model} {A : Around} {E : Value → Shared → Prop} {Q : Bool → Shared → Prop} {oe : Obj} (KI : K.In s.heap) {R' : Addr} (hR : excX K R = true) (xc : XC K C R') (hRR : R = R' ∨ R = C) (he : s.heap.get? e = some oe) (hcls : oe.cls = .ref C) (hq : Q true s) :
  wpAny M A (excMatches (.ref e) (.ref R)) Q E s := by
 obtain ⟨nm, qn, N, bs, bm, hdct, sn, sub, ab, col, dd, k0, k1, k2, k3, k5, hC, T⟩ := Hq KI hR
 obtain ⟨cd, c1, c2, c3⟩ := xc.cls
 have L : PySem.W.Looks M s.heap (isSubtype (.ref C) (.ref R)) true := PySem.W.looks_subIn KI (by show PySem.W.mroIn K C _ = _; unfold PySem.W.mroIn; rw [c1, Option.bind_some, c2]; rcases hRR with rfl | rfl <;> simp)
 have hcB : (Value.ref R :: bm).contains (.type "BaseException") = true := by rw [List.contains_cons, T.hasType (by decide +kernel : bmV.contains (.type "BaseException") = true), Bool.or_true]
 have f := tc_notTuple
 obtain ⟨hp, g, d, t, os⟩ := s
 unfold excMatches
 repeat (first | (with_reducible refine wpAny_loadPart_at he ?_; rw [hcls]) | with_reducible refine wpAny_loadPart_at hC ?_ | (with_reducible refine wpAny_isSubtype_exc hC ?_; rw [hcB]) | with_reducible refine L.at ?_ | wp_step)
 exact hq
end
end EX
namespace PV
open PySem PySem.Spec L2 EX
open PyProof.Rows hiding St
def offO (i : Nat) (o : Option Out) : Option Out := match o with
 | some (.nx ρ) => some (.nx (ρ.set i .un))
 | some (.rt d ρ) => some (.rt d (ρ.set i .un))
 | _ => none
def tryO (cs : List Str) (i : Nat) (h : FS) (o : Option Out) : Option Out := match o with
 | some (.rt d ρ) => (match excOf d with
  | some (c, gs) => if cs.contains c = true then offO i (h (ρ.set i (.fz (.err c gs)))) else none
  | none => some (.rt d ρ))
 | o => o
def tryF (cs : List Str) (i : Nat) (g h : FS) : FS := fun ρ => tryO cs i h (g ρ)
section
variable {X : Cx} {G : Gx} {A0 A : List Addr} {He H : Hp} {σ : St} {ρ : Rho}
theorem OkW.unset (w : OkW G A0 He A σ H ρ) (i : Nat) : OkW G A0 He A (σ.set i none) H (ρ.set i .un) := by
 have key : ∀ (j : Nat) (z : Slot), z ≠ .un → (ρ.set i .un)[j]? = some z → j ≠ i ∧ ρ[j]? = some z := fun j z nz h => by
  by_cases hj : j = i
  ·subst hj
   rw [List.getElem?_set] at h
   split at h
   ·split at h
    ·cases h; exact absurd rfl nz
    ·cases h
   ·rename_i q; exact absurd rfl q
  ·rw [List.getElem?_set_ne (Ne.symm hj)] at h; exact ⟨hj, h⟩
 have ks : ∀ (j : Nat), j ≠ i → (σ.set i none)[j]? = σ[j]? := fun j hj => List.getElem?_set_ne (Ne.symm hj)
 refine ⟨w.same, w.sub, w.fr, w.l0, ⟨by rw [List.length_set, List.length_set]; exact w.ok.len, w.ok.live, fun j d h => ?_, fun j d h => ?_, fun j k d e a h1 h2 h3 h4 => ?_⟩, fun j d a h1 h2 => ?_, fun x d hx h0 => ?_⟩
 ·obtain ⟨hj, h⟩ := key j _ (by simp) h; rw [ks j hj]; exact w.ok.fz j d h
 ·obtain ⟨hj, h⟩ := key j _ (by simp) h; rw [ks j hj]; exact w.ok.ow j d h
 ·obtain ⟨hj, h1⟩ := key j _ (by simp) h1
  obtain ⟨hk, h2⟩ := key k _ (by simp) h2
  rw [ks j hj] at h3
  rw [ks k hk] at h4
  exact w.ok.inj j k d e a h1 h2 h3 h4
 ·obtain ⟨hj, h1⟩ := key j _ (by simp) h1
  rw [ks j hj] at h2
  exact w.ow0 j d a h1 h2
 ·obtain ⟨hj, h0⟩ := key 0 _ (by simp) h0
  rw [ks 0 hj]
  exact w.lt x d hx h0
theorem YX {cs : List Str} {i : Nat} {n rx : Str} {R : Addr} {body suite : List Stmt} {b0 : Stmt} {np hpos pos : Pos} {g h : FS} (hst : X.stack = X.env :: X.outer) (hf : X.env.frame = some X.env.locals) (hN : X.N.Nodup) (hi : X.N[i]? = some n) (hk : X.env.kindOf n = some .local) (hg : Gl X rx) (hm : X.mg rx = some (.ref R)) (hR : excX X.K R = true)
  (hcl : ∀ c C, cs.contains c = true → G.xcl c = some C → ∃ R', XC X.K C R' ∧ (R = R' ∨ R = C)) (hb : ∀ E pn, PSZs (Cx.tr X E pn) G body g) (hs : ∀ e, PSDs (Cx.mk2 X e) G (b0 :: suite) h) (hdb : (rx == ("__debug__" : Str)) = false := by decide) :
  PSD X G (.Try body [.ExceptHandler (some (.Name rx np)) (some n) (b0 :: suite) hpos] [] [] pos) (tryF cs i g h) := fun A0 He pins s σ H D I ⟨ρ, o, ok, e, k⟩ => by
 refine wpAny_Try_except ?_
 unfold tryF at e
 cases e1 : g ρ with
 | none => rw [e1] at e; cases e
 | some o1 =>
  rw [e1] at e
  have fin : ∀ {E' : Value → Shared → Prop} (f : Flow) (s1 : Shared), SP (Cx.tr X E' (X.pn ++ pins)) [] D f s1 → (match f with | .next => wpAny (model X.prog X.w) X.A (execs [] X.env) (SP X pins D) X.xe s1 | f => SP X pins D f s1) := fun f s1 q => by
   cases f with
   | next => exact wpAny_execs_nil (Jt I.ok q)
   | brk => exact Jt I.ok q
   | cont => exact Jt I.ok q
   | ret u => exact Jt I.ok q
  refine wpAny_mono (hb (fun e s1 => wpAny (model X.prog X.w) X.A (noteFrame e X.env) (fun _ s2 => wpAny (model X.prog X.w) X.A (setFlight e none) (fun _ s3 => wpAny (model X.prog X.w) X.A (handleBy e X.env [.ExceptHandler (some (.Name rx np)) (some n) (b0 :: suite) hpos]) (SP X pins D) X.xe s3) X.xe s2) X.xe s1) (X.pn ++ pins) He [] s σ H D (ao I) ⟨ρ, o1, ok, e1, ?_, ?_⟩) (fun f s1 q => fin f s1 q) fun e s1 q => q
  ·cases o1 with
   | nx ρ' => cases e; exact k
   | bk ρ' => cases e; exact k
   | ct ρ' => cases e; exact k
   | rt d ρ' =>
    cases e2 : excOf d with
    | none => simp only [tryO, e2] at e; cases e; exact k
    | some q => exact fun v σ' H' A w r => absurd e2 (by rw [Qs r]; simp)
  ·cases o1 with
   | nx ρ' => trivial
   | bk ρ' => trivial
   | ct ρ' => trivial
   | rt d ρ' =>
    intro c gs e2 pins' σ1 H1 H2 s2 ea tb I2 ⟨A1, w1⟩ x
    simp only [tryO, e2] at e
    by_cases hc : cs.contains c = true
    ·rw [if_pos hc] at e
     have I2 := GR I.ok I2
     refine Ka hst hf I2 x fun T H3 s3 I3 x3 => ?_
     obtain ⟨C, dx, fs, y1, y2, y3, y4, y5⟩ := x3.ex
     obtain ⟨R', xc, hRR⟩ := hcl c C hc y1
     have w3 := w1.mono x3.same
     obtain ⟨⟨oe, vs, q1, q2, q3, q4, q5, q6⟩, _⟩ := I3.hok ea _ y2
     refine wpAny_handleBy_cons (codeAny_handlers_test ?_) (by intro q; cases q)
     refine Gj (X := Cx.mk2 X ea) (Pn I3) hg hm ?_ hdb
     refine N7 I3.kIn hR xc hRR q1 q2 ?_
     refine codeAny_handlers_suite_as (V6 I3 y2 (x3.tbk T rfl).1 fun s4 I4 => ?_)
     have noA : ∀ b, H1 b = none → b ∉ A1 := fun b z q => (w1.ok.live b q).ne z
     have rp : Rep G (hid A1 H3) (.ref ea) (.err c gs) := .err y1 (by rw [Bb (noA ea x3.new)]; exact y2) (by cases dx with | none => exact y3 | some dx => exact (by show hid A1 H3 dx = _; rw [Bb (noA dx (y5 dx rfl))]; exact y3)) y4
     refine HR (X := Cx.mk2 X ea) (Pn I4) hN hi (Or.inl hk) (show RelV (.ref ea) (.ref ea) from rfl) (fun s5 I5 => ?_) (.inr hk)
     cases e5 : h (ρ'.set i (.fz (.err c gs))) with
     | none => rw [e5] at e; cases e
     | some o5 =>
      rw [e5] at e
      refine wpAny_mono (hs ea He pins s5 _ H3 { nx := fun σ' H' => D.nx (σ'.set i none) H', rt := D.rt } I5 ⟨_, o5, ⟨A1, w3.set rp i⟩, e5, ?_⟩) (fun f s6 q => ?_) fun _ _ z => z.elim
      ·cases o5 with
       | nx ρ5 => cases e; exact fun σ6 H6 ⟨A6, w6⟩ => k _ _ ⟨A6, w6.unset i⟩
       | rt d5 ρ5 => cases e; exact fun v σ6 H6 A6 w6 r6 => k v _ H6 A6 (w6.unset i) r6
       | bk ρ5 => cases e
       | ct ρ5 => cases e
      ·cases f with
       | next =>
        obtain ⟨σ6, H6, I6, q⟩ := q
        exact Ss (Kd I.ok I6) hN hi hk fun s7 I7 => ⟨_, H6, I7, q⟩
       | ret u =>
        obtain ⟨v, σ6, H6, I6, r, q⟩ := q
        exact Ss (Kd I.ok I6) hN hi hk fun s7 I7 => ⟨v, _, H6, I7, r, q⟩
       | brk => obtain ⟨_, _, _, q⟩ := q; exact q.elim
       | cont => obtain ⟨_, _, _, q⟩ := q; exact q.elim
    ·rw [if_neg hc] at e; cases e
end
end PV
namespace EX
open PySem PySem.W PySem.Spec PyProof.Rows PySem.Calls
section
variable {prog : Program} {w : World} {A : Around} {E : Value → Shared → Prop} {s : Shared} {K : Frag} {x C : Addr} {ox : Obj} {od : Option Obj}
theorem UJ {Q : Option Value → Shared → Prop} (X : K.In s.heap) (I : InstAt s.heap x ox C od) (hga : findIn K (.ref C) "__getattribute__" = some (some (.builtin "BaseException.__getattribute__"))) (hgt : findIn K (.ref C) "__getattr__" = some none)
  (hsub : subIn K (.ref C) (.type "BaseException") = some true) (hcl : (clsIn K C).isSome = true) (ha : findIn K (.ref C) "__class__" = some (some (.builtin "object.__class__")))
  (hn : specialIn K (.builtin "object.__class__") "__get__" = some (some (.builtin "getset_descriptor.__get__"))) (htk : takesIn K (.builtin "object.__class__") = some true) (hm : mroIn K C (.type "object") = some true) (h : Q (some (.ref C)) { s with toks := s.toks + 1 }) : wpAny (model prog w) A (getAttr? (.ref x) "__class__") Q E s := by
 have hf : findObj K C od "__class__" = some (.bind (.builtin "getset_descriptor.__get__") (.builtin "object.__class__")) := by (obtain ⟨cdx, hcx⟩ := Option.isSome_iff_exists.mp hcl; unfold findObj; rw [hcx, Option.bind_some, ha, Option.bind_some]; simp [hn, htk])
 obtain ⟨hp, g, d, t, os⟩ := s
 have L0 := I.type (M := model prog w)
 have L1 := looks_findIn (M := model prog w) X hga
 have L2 := looks_findIn (M := model prog w) X hgt
 have L3 := looks_find (M := model prog w) X I hf
 have L4 := looks_subIn (M := model prog w) X hsub
 have f3 := F.attr_ValueError.ga.bind (.ref x)
 have hk : builtinKind "BaseException.__getattribute__" = some .slot := by decide +kernel
 have hsplit : splitId "BaseException.__getattribute__" = some ("BaseException", "__getattribute__") := by decide +kernel
 have hx2 : (Value.builtin "BaseException.__getattribute__" == Value.builtin "object.__getattribute__") = false := by decide +kernel
 have hx1 : (onTheHeap (Value.ref C) && Value.builtin "BaseException.__getattribute__" == Value.builtin "object.__getattribute__") = false := by rw [hx2]; rfl
 unfold getAttr? getAttrBy? getAttrBy
 refine wpAny_bind (wpAny_mkText (wpAny_bind (wpAny_attempt (wpAny_holding (wpAny_bind (L0.at (wpAny_bind (L1.at ?_))))))))
 dsimp only
 rw [hx1, if_neg (by decide)]
 have ck : ∀ (Q : Unit → Shared → Prop) (B : Around) (E' : Value → Shared → Prop), Q () ⟨hp, g, d, t + 1, os⟩ → wpAny (model prog w) B (checkBuiltinCall "BaseException.__getattribute__" ⟨[.ref x, .str "__class__" t], []⟩) Q E' ⟨hp, g, d, t + 1, os⟩ := fun Q B E' hq => by
  have ha := F.args_bexc_ga (.ref x) (.str "__class__" t)
  simp only [checkBuiltinCall, hk, hsplit]
  refine wpAny_bind ?_
  unfold isInstance
  refine wpAny_bind (L0.at (L4.at ?_))
  repeat (any_goals (first | assumption | wp_step))
 have run : ∀ (B : Around) (R : Result → Shared → Prop), R (.ok (.ret (.ref C))) ⟨hp, g, d, t + 1, os⟩ → codeAny (model prog w) B (.call (.builtin "BaseException.__getattribute__") ⟨[.ref x, .str "__class__" t], []⟩) R ⟨hp, g, d, t + 1, os⟩ := fun B R hq =>
  codeAny_call_builtin F.attr_ValueError.ga.plain F.entry_bexc_ga (ck _ _ _ (by
   unfold Builtin.«object.__getattribute__»
   repeat (any_goals (first | assumption | with_reducible refine L0.at ?_ | with_reducible refine L3.at ?_ | wp_step))
   exact class_get (s := ⟨hp, g, d, t + 1, os⟩) (ox := ox) (od := od) X I hm (wpAny_pure hq)))
 repeat (any_goals (first | assumption | with_reducible refine L2.at ?_ | wp_step))
 refine run _ _ ?_
 show wpAny _ _ (handedOut (.ref C)) _ _ _
 rw [handedOut_of rfl]
 exact wpAny_pure (wpAny_pure h)
structure XK2 (K : Frag) (C : Addr) : Prop where
 ha : findIn K (.ref C) "__class__" = some (some (.builtin "object.__class__"))
 hn : specialIn K (.builtin "object.__class__") "__get__" = some (some (.builtin "getset_descriptor.__get__"))
 htk : takesIn K (.builtin "object.__class__") = some true
theorem V7 {R : Addr} (xc : XC K C R) (k : XK2 K C) : KitX K (.ref x) (.ref C) (fun h => ∃ ox od, InstAt h x ox C od) := by
 obtain ⟨cd, c1, c2, c3⟩ := xc.cls
 have mi : ∀ v, (cd.mro.contains v) = true → mroIn K C v = some true := fun v hv => by unfold mroIn; rw [c1, Option.bind_some, hv, c2]; rfl
 refine ⟨fun M h _ ⟨ox, od, I⟩ => I.type, fun M h X _ => ?_, fun h tp dd its n sl X htp => ?_, fun {prog w A E Q s} X ⟨ox, od, I⟩ h => UJ X I xc.ga xc.gt (mi _ (by rw [c2]; rfl)) (by rw [c1]; rfl) k.ha k.hn k.htk (mi _ (by rw [c2]; rfl)) h⟩
 ·have hcD := c1
  unfold clsIn at hcD
  split at hcD
  ·rename_i c' d' cd' sl' ho
   intro A' Q' E' s' k q
   unfold isType loadHead
   exact wpAny_bind (wpAny_loadPart (k _ _ (X _ _ ho)) (wpAny_pure q))
  ·cases hcD
 ·have hcD := c1
  refine Bool.eq_false_iff.mpr fun q => ?_
  have e : C = tp := Value.ref.inj (beq_iff_eq.mp q)
  subst e
  unfold clsIn at hcD
  split at hcD
  ·rename_i c' d' cd' sl' ho
   have z := (X _ _ ho).symm.trans htp
   cases z
  ·cases hcD
end
end EX
namespace PV
open PySem PySem.Spec L2 EX
open PyProof.Rows hiding St
structure XT (G : Gx) (cs : List Str) (R : Addr) : Prop where
 xc : ∀ c C, cs.contains c = true → G.xcl c = some C → XC G.K C R
 xk : ∀ c C, cs.contains c = true → G.xcl c = some C → XK2 G.K C
def isxD (cs ns : List Str) : D → Option D
 | .non => some (.bl (ns.contains "NoneType"))
 | .bl _ => some (.bl (ns.contains "bool"))
 | .int _ => some (.bl (ns.contains "int"))
 | .str _ => some (.bl (ns.contains "str"))
 | .err c _ => if cs.contains c = true then some (.bl (ns.contains c)) else none
 | _ => none
structure Kit (G : Gx) (cs : List Str) (cv : List Value) (ns : List Str) : Prop where
 non : PySem.W.kitAny G.K (.type "NoneType") cv = some (ns.contains "NoneType")
 bl : PySem.W.kitAny G.K (.type "bool") cv = some (ns.contains "bool")
 int : PySem.W.kitAny G.K (.type "int") cv = some (ns.contains "int")
 str : PySem.W.kitAny G.K (.type "str") cv = some (ns.contains "str")
 err : ∀ c C, cs.contains c = true → G.xcl c = some C → PySem.W.kitAny G.K (.ref C) cv = some (ns.contains c)
inductive SpecV (H : Hp) : V → List Value → Prop
 | cls (C : Addr) : SpecV H (.ref C) [.ref C]
 | ty (T : String) : SpecV H (.ty T) [.type T]
 | tup {p : Addr} {Cs : List Addr} : H p = some (.tup (Cs.map V.ref)) → SpecV H (.ref p) (Cs.map Value.ref)
theorem Lf : ∀ {Cs : List Addr} {ws : List Value}, Vals (Cs.map V.ref) ws → ws = Cs.map Value.ref
 | [], _, .nil => rfl
 | _ :: _, _, .cons r t => by rw [Lf t, (show _ = Value.ref _ from r)]; rfl
def Pq (cv : List Value) : TE := fun _ H Q => ∀ v H', Same H H' → SpecV H' v cv → Q v H'
def Su (Cs : List Addr) : TA := fun _ H Q => Q (Cs.map V.ref) H
section
variable {X : Cx} {G : Gx} {a sp : Expr} {es : List Expr} {fa : FE} {pos p : Pos} {cs ns : List Str} {cv : List Value} {R : Addr} {Cs : List Addr}
theorem Lg {x : Str} {C : Addr} (hg : Gl X x) (hm : X.mg x = some (.ref C)) (hd : (x == ("__debug__" : Str)) = false := by decide) : PE X (.Name x pos) (Pq [.ref C]) := Bp (Dz (v := .ref C) hg hm rfl hd) fun σ H Q h => h _ H (Same.refl H) (.cls C)
theorem V8 {x : Str} {T : String} (hg : Gl X x) (hm : X.mg x = none) (hv : bootBuiltins x = some (.type T)) (hn : x ≠ "__name__" := by decide) (hd : (x == ("__debug__" : Str)) = false := by decide) : PE X (.Name x pos) (Pq [.type T]) := Bp (W6 (v := .ty T) hg hm hv rfl hn hd) fun σ H Q h => h _ H (Same.refl H) (.ty T)
theorem UL : PA X [] (Su []) := Ft
theorem DK {x : Str} {C : Addr} (hm : X.mg x = some (.ref C)) (hr : PA X es (Su Cs)) (hg : Gl X x := by rfl) (hd : (x == ("__debug__" : Str)) = false := by decide) (hs : starEach (.Name x pos :: es) X.env = (false, eval (.Name x pos) X.env) :: starEach es X.env := by rfl) : PA X (.Name x pos :: es) (Su (C :: Cs)) := Cp (Dz (v := .ref C) hg hm rfl hd) hr hs
theorem UT {x1} (h : PA X es (Su Cs)) (hz : Nat.ble Cs.length 1000 = true := by rfl) : PE X (.Tuple es x1 pos) (Pq (Cs.map Value.ref)) := Bp (Lw h) fun σ H Q h => ⟨by rw [List.length_map]; exact CG (Nat.le_trans (Nat.le_of_ble_eq_true hz) (by decide)), fun p hp => h _ _ (BJ hp _) (.tup Ae)⟩
theorem Sv {K : PySem.W.Frag} {t c : Value} {b : Bool} (h : PySem.W.kitAny K t [c] = some b) : PySem.W.kitOne K t c = some b := by
 unfold PySem.W.kitAny at h
 split at h
 ·rename_i e; rw [e]; exact h
 ·rename_i e; rw [e]; exact h
 ·cases h
theorem Gp {pins : List (Addr × Obj)} {σ : St} {H : Hp} {s : Shared} {x t : Value} {v : V} {u : Value} {b : Bool} {HH : Heap → Prop} {A : Around} {E : Value → Shared → Prop} {Q : Value → Shared → Prop} (I : Inv X pins σ H s) (Z : PySem.W.KitX X.K x t HH) (hh : HH s.heap) (e : PySem.W.kitAny X.K t cv = some b)
  (hx : x ≠ .builtin "__main__.__loader__#opaque") (sv : SpecV H v cv) (ru : RelV v u) (h : ∀ tk, Q (.bool b) { s with toks := tk }) : wpAny (model X.prog X.w) A (call (.builtin "isinstance") [x, u]) Q E s := by
 cases sv with
 | cls C => obtain rfl := (show u = Value.ref C from ru); exact PySem.W.kia_one Z I.kIn hh (Sv e) hx h
 | ty T => obtain rfl := (show u = Value.type T from ru); exact PySem.W.kia_one Z I.kIn hh (Sv e) hx h
 | tup hp =>
  obtain rfl := (show u = Value.ref _ from ru)
  obtain ⟨_, its, r, o, g1, g2, n, g3⟩ := I.hok _ _ hp
  have := Lf r
  subst this
  obtain ⟨oc, od, oda, osl⟩ := o
  dsimp only at g2 g3
  subst g2 g3
  exact PySem.W.kia_tup Z I.kIn hh g1 e hx h
theorem V9 {pins : List (Addr × Obj)} {σ : St} {H : Hp} {s : Shared} {e C : Addr} {od tb : Option Addr} {fs : List (Str × V)} (I : Inv X pins σ H s) (he : H e = some (excO e C od tb)) (hd : XdA H od fs) : ∃ ox oD, PySem.W.InstAt s.heap e ox C oD := by
 obtain ⟨⟨o, vs, q1, q2, q3, q4, q5, q6⟩, _⟩ := I.hok e _ he
 cases od with
 | none => exact ⟨o, none, q1, q2, by unfold PySem.W.notCls; rw [q4], by rw [q3]; trivial⟩
 | some dx =>
  obtain ⟨mA, ns, r⟩ := I.hok dx _ hd
  obtain ⟨oD, g1, g2⟩ := Hz ns
  exact ⟨o, some oD, q1, q2, by unfold PySem.W.notCls; rw [q4], by rw [q3]; exact g1⟩
theorem V_ (hG : G.K = X.K) (t : XT G cs R) (kt : Kit G cs cv ns) : D_ X (.builtin "isinstance") (fun xs H Q => ∃ x v A d b, xs = [x, v] ∧ Rep G (hid A H) x d ∧ isxD cs ns d = some (.bl b) ∧ SpecV H v cv ∧ Q (.bl b) H) := by
 rintro pins s σ H xs us Q I r ⟨x, v, A, d, b, rfl, rp, e, sv, q⟩
 cases r with
 | cons rx r =>
  cases r with
  | cons rv r =>
   cases r
   have fin : ∀ tk, EP X pins σ Q (.bool b) { s with toks := tk } := fun tk => ⟨.bl b, H, I.tok _, rfl, q⟩
   cases rp with
   | non => obtain rfl := (show _ = Value.none from rx); cases e; exact Gp I PySem.W.kitx_none True.intro (hG ▸ kt.non) (fun z => nomatch z) sv rv fin
   | bl y => obtain rfl := (show _ = Value.bool y from rx); cases e; exact Gp I PySem.W.kitx_bool True.intro (hG ▸ kt.bl) (fun z => nomatch z) sv rv fin
   | int i => obtain ⟨t', rfl⟩ := (show ∃ t, _ = Value.int i t from rx); cases e; exact Gp I PySem.W.kitx_int True.intro (hG ▸ kt.int) (fun z => nomatch z) sv rv fin
   | str i => obtain ⟨t', rfl⟩ := (show ∃ t, _ = Value.str i t from rx); cases e; exact Gp I PySem.W.kitx_str True.intro (hG ▸ kt.str) (fun z => nomatch z) sv rv fin
   | @err a C dx tb c fs gs hC h1 h2 h3 =>
    obtain rfl := (show _ = Value.ref a from rx)
    have e' : (if cs.contains c = true then some (D.bl (ns.contains c)) else none) = some (.bl b) := e
    split at e'
    ·rename_i hc
     cases e'
     exact Gp I (V7 (hG ▸ t.xc c C hc hC) (hG ▸ t.xk c C hc hC)) (V9 I (Al _ _ h1) (h2.mono Al)) (hG ▸ kt.err c C hc hC) (fun z => nomatch z) sv rv fin
    ·cases e'
   | tup => cases e
   | lst => cases e
   | dk => cases e
   | dt => cases e
   | adr => cases e
   | ob => cases e
theorem aq {d d' : D} (h : isxD cs ns d = some d') : ∃ b, d' = .bl b := by
 unfold isxD at h
 split at h
 ·cases h; exact ⟨_, rfl⟩
 ·cases h; exact ⟨_, rfl⟩
 ·cases h; exact ⟨_, rfl⟩
 ·cases h; exact ⟨_, rfl⟩
 ·split at h
  ·cases h; exact ⟨_, rfl⟩
  ·cases h
 ·cases h
theorem Qt {x : Str} (hG : G.K = X.K) (t : XT G cs R) (kt : Kit G cs cv ns) (hg : Gl X x) (hm : X.mg x = none) (hv : bootBuiltins x = some (.builtin "isinstance")) (ha : PF X G a fa) (hsp : PE X sp (Pq cv))
  (hn : x ≠ "__name__" := by decide) (hdb : (x == ("__debug__" : Str)) = false := by decide) (he : starEach [a, sp] X.env = (false, eval a X.env) :: starEach [sp] X.env := by rfl) (he2 : starEach [sp] X.env = (false, eval sp X.env) :: starEach [] X.env := by rfl) :
  PF X G (.Call (.Name x p) [a, sp] [] pos) (uF (isxD cs ns) fa) := fun A => Bp (J2 (V_ hG t kt) hg hm hv (Cp (@ha A) (Cp hsp Ft he2) he) hn hdb he (by rw [he2]; rfl)) fun σ H Q ⟨ρ, d, o, e, k⟩ => by
 unfold uF at e
 cases e1 : fa ρ with
 | none => simp [e1] at e
 | some dx =>
  rw [e1] at e
  have e2 : isxD cs ns dx = some d := e
  obtain ⟨b, rfl⟩ := aq e2
  exact ⟨ρ, dx, o, e1, fun v H1 s1 r1 => fun w H2 s2 sv => ⟨v, w, A, dx, b, rfl, r1.mono (Aw s2), e2, sv, k _ H2 (s1.trans s2) (.bl b)⟩⟩
def fldE (cs : List Str) (f : Str) : D → Option D
 | .err c gs => if cs.contains c = true then gs.lookup f else none
 | _ => none
theorem YZ {fs : List (Str × V)} {gs : List (Str × D)} {f : Str} {d : D} (h : FsV fs gs) (l : gs.lookup f = some d) : ∃ y, fs.lookup f = some y ∧ flV d = some y := by
 unfold FsV at h
 induction fs generalizing gs with
 | nil => cases gs with
  | nil => cases l
  | cons q t => cases h
 | cons q t ih =>
  cases gs with
  | nil => cases l
  | cons q' t' =>
   obtain ⟨k, v⟩ := q; obtain ⟨k', v'⟩ := q'
   simp only [List.map_cons, List.cons.injEq, Prod.mk.injEq] at h
   obtain ⟨⟨rfl, h1⟩, h2⟩ := h
   simp only [List.lookup] at l ⊢
   split at l
   ·cases l; exact ⟨v, rfl, h1.symm⟩
   ·exact ih h2 l
theorem WD {H : Hp} {d : D} {y : V} (h : flV d = some y) : Rep G H y d := by
 cases d <;> first | (cases h; constructor) | cases h
theorem Yb {f : Str} (hG : G.K = X.K) (t : XT G cs R) (ha : PF X G a fa) (n : ∀ c C, cs.contains c = true → G.xcl c = some C → BW G.K C f)
  (hb : attributeBase a f X.env (eval a X.env) = eval a X.env := by rfl) :
  PF X G (.Attribute a f pos) (uF (fldE cs f) fa) := fun A pins s σ H Q I ⟨ρ, d, o, e, k⟩ => by
 unfold uF at e
 cases e1 : fa ρ with
 | none => simp [e1] at e
 | some d0 =>
  rw [e1] at e
  have e2 : fldE cs f d0 = some d := e
  refine Q9 hb (thn (@ha A pins s σ H (fun v H1 => Same H H1 ∧ Rep G (hid A H1) v d0) I ⟨ρ, d0, o, e1, fun v H1 s1 r1 => ⟨s1, r1⟩⟩) fun u s1 ⟨v, H1, I1, rv, s1', rp⟩ => ?_)
  cases rp with
  | @err ae C dx tb c fs gs hC h1 h2 h3 =>
   obtain rfl := (show u = Value.ref ae from rv)
   have e' : (if cs.contains c = true then gs.lookup f else none) = some d := e2
   split at e'
   ·rename_i hc
    obtain ⟨y, l1, l2⟩ := YZ h3 e'
    cases dx with
    | none => cases h2; cases l1
    | some dx => exact YM I1 (Al _ _ h1) (Al _ _ h2) (hG ▸ t.xc c C hc hC) (hG ▸ n c C hc hC) l1 fun u' s2 I2 ru => ⟨y, H1, I2, ru, k y H1 s1' (WD l2)⟩
   ·cases e'
  | _ => cases e2
end
end PV
namespace PV
open PySem PySem.Spec
section
variable {prog : Program} {w : World} {A : Around} {E : Value → Shared → Prop} {s : Shared} {T : String} {r d : Addr} {n : Nat} {P : Nat → Value → Prop} {OK : Heap → Prop}
theorem Pr {R : List Value → Shared → Prop} (K : PySem.W.KdlSrc prog w T r d n P OK) (hh : A.handled = none) (hok : OK s.heap) (hn : n ≤ sizeLine)
  (h : ∀ (h' : Heap) (tk : Nat) (acc : Array Value), (∀ b o, s.heap.get? b = some o → h'.get? b = some o) → s.heap.objs.size ≤ h'.objs.size → ItemsOf P acc n → R acc.toList { s with heap := h', toks := tk }) :
  wpAny (model prog w) A (collect (.ref r)) R E s := by
 obtain ⟨hr, hd⟩ := K.there _ hok
 have gS : (s.heap.push { cls := .type "list", data := .seq ([] : List Value).toArray }).get? s.heap.objs.size = some { cls := .type "list", data := .seq #[] } := Heap.get?_push_size _ rfl
 unfold collect
 refine wpAny_bind (wpAny_runValue (codeAny_builtin PyProof.Rows.entry_proto_collect' ?_))
 rw [Around.under_plainId PySem.F.plain_proto_collect _]
 show wpAny _ A.in1 (newList [] >>= fun l => again (.builtin "list.__iadd__" ⟨[l, .ref r], []⟩)) _ _ s
 refine wpAny_bind (wpAny_newObj_type (wpAny_pure ⟨plainId_quiet PySem.F.plain_list_iadd _, codeAny_builtin PyProof.Rows.entry_list_iadd' ?_⟩))
 rw [Around.under_plainId PySem.F.plain_list_iadd _]
 show wpAny _ A.in1 (Builtin.List.listExtendWith (.ref s.heap.objs.size) (.ref r) (.ref s.heap.objs.size)) _ _ _
 have key := PySem.W.kdl_extend (A := A) (s := { s with heap := s.heap.push { cls := .type "list", data := .seq ([] : List Value).toArray } }) K
  (R := fun q s' => ∃ (h' : Heap) (tk : Nat) (acc' : Array Value) (c' : Nat), q = .ok (.ret (.ref s.heap.objs.size)) ∧ s' = { s with heap := h', toks := tk } ∧ (∀ b o, s.heap.get? b = some o → h'.get? b = some o) ∧ h'.get? s.heap.objs.size = some { cls := .type "list", dict := none, data := .seq acc' c', slots := #[] } ∧ ItemsOf P acc' n)
  hh (K.keep _ _ hok fun b _ o e => Heap.get?_push_of_some _ e) s.heap.objs.size (Nat.ne_of_gt hr) (Nat.ne_of_gt hd) (.ref s.heap.objs.size) 0 gS
  (fun h' tk acc' c' hk hS' hi => ⟨h', tk, acc', c', rfl, rfl, fun b o e => hk b o (Nat.ne_of_lt (Heap.lt_size e)) (Heap.get?_push_of_some _ e), hS', hi⟩) hn
 refine wpAny_mono key (fun fin s' x => ?_) fun e s' x => ?_
 ·cases fin with
  | done f =>
   obtain ⟨h', tk, acc', c', e, rfl, hk, hS', hi⟩ := x
   cases e
   show wpAny _ A (load s.heap.objs.size >>= _) _ _ _
   exact wpAny_bind (wpAny_load hS' (wpAny_pure (h h' tk acc' hk (Nat.le_of_lt (Heap.lt_size hS')) hi)))
  | again c =>
   refine ⟨x.1, codeAny_mono x.2 fun r2 s2 y => ?_⟩
   obtain ⟨h', tk, acc', c', e, rfl, hk, hS', hi⟩ := y
   cases e
   show wpAny _ A (load s.heap.objs.size >>= _) _ _ _
   exact wpAny_bind (wpAny_load hS' (wpAny_pure (h h' tk acc' hk (Nat.le_of_lt (Heap.lt_size hS')) hi)))
 ·obtain ⟨h', tk, acc', c', e, _⟩ := x
  cases e
end
section
variable {prog : Program} {w : World} {A : Around} {E : Value → Shared → Prop} {s : Shared} {q : Addr}
theorem Lh {ks : List Str} {v : Value} {Q : Value → Shared → Prop} (nd : ks.Nodup) (h60 : ks.length ≤ 60)
  (hc : ∀ (R : List Value → Shared → Prop) (E' : Value → Shared → Prop), (∀ (vs : List Value) (h' : Heap) (tk : Nat), PyProof.Rows.StrsAre vs ks → s.heap.objs.size ≤ h'.objs.size → (∀ b o, s.heap.get? b = some o → h'.get? b = some o) → R vs { s with heap := h', toks := tk }) → wpAny (model prog w) A.in1 (collect v) R E' s)
  (k : ∀ (its : List Value) (e : Nat) (l : Addr) (h' : Heap) (tk : Nat), PyProof.Rows.StrsAre its (Bv ks) → h'.get? l = some (PyProof.Rows.seqObj "list" its.toArray e) → s.heap.objs.size ≤ l → (∀ b o, s.heap.get? b = some o → h'.get? b = some o) → Q (.ref l) { s with heap := h', toks := tk }) :
  wpAny (model prog w) A (call (.builtin "sorted") [v]) Q E s := by
 refine Calls.call_function_entry PyProof.Rows.kind_sorted PyProof.Rows.plain_sorted PyProof.Rows.entry_sorted (PyProof.Rows.args_sorted1 _) ?_
 unfold Builtin.«sorted»
 refine wpAny_bind (m := checkCount "sorted" 1 1 _) (wpAny_pure (wpAny_bind (hc _ _ fun vs h1 tk hS le kp => ?_)))
 have hlen : vs.length ≤ 60 := by rw [hS.length]; exact h60
 refine wpAny_bind (wpAny_newList ?_ (Nat.le_trans hlen (by decide)))
 have gl : (h1.push { cls := .type "list", data := .seq vs.toArray }).get? h1.objs.size = some (PyProof.Rows.seqObj "list" vs.toArray 0) := Heap.get?_push_size _ rfl
 refine wpAny_bind (wpAny_holding (wpAny_call_entry PyProof.Rows.slot_list_sort ⟨_, gl, rfl⟩ PyProof.Rows.entry_list_sort (PyProof.Rows.list_sort_treeK PyProof.Rows.strKind_oneLt gl hS.keysOf (fun a b r e => PyProof.Rows.keyKind_strs (by rw [← e]; exact hS)) (by omega) fun st a1 a2 => ⟨_, rfl, ?_⟩) (PyProof.Rows.args_list_sort _)))
 obtain ⟨ss, o1, o2, o3⟩ := PyProof.Rows.sorted_out_str hS a1 a2
 have e : ss = Bv ks := VG (Nq o3 (o2.nodup_iff.mpr nd)) (KC ks) fun y => by rw [Ib, o2.mem_iff]
 subst e
 obtain ⟨c, hc⟩ : ∃ c, (PyProof.Rows.sortedHeap (h1.push { cls := .type "list", data := .seq vs.toArray }) h1.objs.size vs ((PyProof.Rows.arrOf st).map (·.2))).get? h1.objs.size = some (PyProof.Rows.seqObj "list" ((PyProof.Rows.arrOf st).map (·.2)).toList.toArray c) := by
  obtain ⟨c, hc⟩ := PyProof.Rows.sortedHeap_at (out := (PyProof.Rows.arrOf st).map (·.2)) gl
  exact ⟨c, by rw [hc, Array.toArray_toList]⟩
 refine wpAny_pure ⟨_, rfl, k _ c _ _ tk o1 hc le fun b o g => ?_⟩
 have lb := Heap.lt_size (kp b o g)
 rw [PyProof.Rows.sortedHeap_old (Nat.ne_of_lt lb) (by rw [Heap.size_push]; exact Nat.lt_succ_of_lt lb)]
 exact Heap.get?_push_of_some _ (kp b o g)
end
open L2
section
variable {X : Cx} {G : Gx} {a : Expr} {fa : FE} {pos p : Pos}
theorem Fe : ∀ {zs : List Str} {us : List Value}, Vals (zs.map V.str) us → PyProof.Rows.StrsAre us zs
 | [], _, .nil => .nil
 | _ :: _, _, .cons r t => by obtain ⟨u, rfl⟩ := r; exact .cons _ _ (Fe t)
theorem G3 (hc : X.calm = true) : D_ X (.builtin "sorted") (fun xs H Q => ∃ p kvs zs, xs = [.ref p] ∧ Rd H p (.dK kvs) ∧ kvs.map (fun q => kV q.1) = zs.map V.str ∧ zs.Nodup ∧ zs.length ≤ 60 ∧ ∀ l, H l = none → Q (.ref l) (upd H l (.lst ((Bv zs).map V.str)))) := by
 intro pins s σ H xs us Q I r h
 obtain ⟨p, kvs, zs, rfl, e, ez, nd, hz, k⟩ := h
 obtain ⟨u, rfl, ru⟩ := r.one
 cases ru
 obtain ⟨z, hd, vs, rel, dd⟩ := J5 I.hok e
 obtain ⟨ep, dd⟩ := dd.dictAt
 have hl : kvs.length = vs.length := rel.length
 refine Lh (ks := zs) nd hz (fun R E' hR => Pr (PySem.W.kdl_dict (knd := A_ X.prog X.w) (kvs := vs) (ep := ep) hd) (I.ok.hd hc) dd (by omega) fun h' tk acc kp le hi => hR _ h' tk ?_ le kp) fun its e2 l h' tk hS g le kp => ?_
 ·have va : Vals (kvs.map fun q => kV q.1) acc.toList := by
   refine Ry (P := X.prog) (w := X.w) (by simp [hi.1, hl]) fun j u hu => ?_
   obtain ⟨k, x, h1, h2⟩ := hi.2 j u (by simpa using hu)
   have hj : j < kvs.length := by rw [hl]; exact (List.getElem?_eq_some_iff.mp h1).1
   refine ⟨kvs[j], by simp [hj], ?_⟩
   rw [(Jr rel (by simp [hj]) h1).1]
   exact h2
  rw [ez] at va
  exact Fe va
 ·have hv := Ii hS
  refine ⟨.ref l, _, I.laid (a := l) (o := .lst ((Bv zs).map V.str)) (t' := tk) kp le ⟨?_, its, e2, hv, g⟩, rfl, k l (I.hok.fresh le)⟩
  rw [List.length_map]
  have := sub_len (O8 (KC zs)) (m := zs) fun y m => (Ib y zs).mp m
  exact Nat.le_trans this (Nat.le_trans hz (by decide))
def sdkL (kds : List (Key × D)) : Option D := (Fj (kds.map fun p => kDt p.1)).bind fun zs => if zs.Nodup ∧ zs.length ≤ 60 then some (.lst ((Bv zs).map .str)) else none
def sdkD : D → Option D
 | .dk kds => sdkL kds
 | _ => none
theorem Sw : SndC G (fun xs H Q => ∃ p kvs zs, xs = [.ref p] ∧ Rd H p (.dK kvs) ∧ kvs.map (fun q => kV q.1) = zs.map V.str ∧ zs.Nodup ∧ zs.length ≤ 60 ∧ ∀ l, H l = none → Q (.ref l) (upd H l (.lst ((Bv zs).map V.str)))) sdkD := by
 intro A H x dx d Q lv r e k
 cases dx with
 | dk kds =>
  have e : sdkL kds = some d := e
  obtain ⟨p, kvs, rfl, h1, h2, h3⟩ := r.dk
  unfold sdkL at e
  cases ez : Fj (kds.map fun p => kDt p.1) with
  | none => rw [ez] at e; cases e
  | some zs =>
   rw [ez] at e
   have e' : (if zs.Nodup ∧ zs.length ≤ 60 then some (D.lst ((Bv zs).map .str)) else none) = some d := e
   split at e'
   ·rename_i hz
    cases e'
    refine ⟨p, kvs, zs, rfl, h1, Vi (G := G) (H := hid A H) (Y8 h2) ez, hz.1, hz.2, fun l hl => k _ _ (BJ hl _) (Dc lv hl ⟨by simp, fun i v d h1 h2 => ?_⟩)⟩
    rw [List.getElem?_map] at h1 h2
    cases q : (Bv zs)[i]? with
    | none => rw [q] at h1; cases h1
    | some z => rw [q] at h1 h2; cases h1; cases h2; exact .str z
   ·cases e'
 | _ => cases e
end
end PV
namespace PV
open PySem PySem.Spec L2 EX
open PyProof.Rows hiding St
def okSD : D → Bool
 | .str z => decide (z.length ≤ 100000) && z.cps.toList.all fun c => decide (c < 4294967296)
 | _ => false
theorem Ju (d : D) (h : okSD d = true) : ∃ y, flV d = some y ∧ okS y := by
 cases d with
 | str z =>
  simp only [okSD, Bool.and_eq_true, decide_eq_true_eq, List.all_eq_true] at h
  exact ⟨_, rfl, z, rfl, h.1, h.2⟩
 | _ => cases h
structure Mx (K : PySem.W.Frag) (C : Addr) (m qual : Str) (st : Stmt) (ps : List Str) where
 f : Addr
 fd : FuncData
 F : Fun K m qual st f fd
 B : Binds K fd ps []
 me : Meth K C m f
structure Rx (K : PySem.W.Frag) (mg : Str → Option Value) (rn : Str) where
 R : Addr
 m : mg rn = some (.ref R)
 x : excX K R = true
 h1 : PySem.W.specialIn K (.ref R) "__getattribute__" = some (some (.builtin "type.__getattribute__"))
 h2 : PySem.W.readsIn K R (.type "type") = true
 h3 : PySem.W.findCls K (.ref R) (.type "type") "__init__" = some (.val (.builtin "ValueError.__init__"))
structure Xx (G : Gx) (mg : Str → Option Value) (R : Addr) (cn f qual : Str) (st : Stmt) (ps : List Str) where
 C : Addr
 fi : Addr
 fd : FuncData
 g : G.xcl cn = some C
 xc : XC G.K C R
 hi : PySem.W.findIn G.K (.ref C) "__init__" = some (some (.ref fi))
 hf : PySem.W.isFn G.K (.ref fi) = true
 kp : PySem.W.keepIn G.K (.ref C) = true
 na : BW G.K C f
 m : mg cn = some (.ref C)
 F : Fun G.K "__init__" qual st fi fd
 B : Binds G.K fd ps []
section
variable {X : Cx} {G : Gx} {a ob : Expr} {es : List Expr} {fs : FA} {fa fo : FE} {pos p np cpos apos : Pos}
theorem mO {k k' : Nat} {C : Addr} {c m qual : Str} {st : Stmt} {ps : List Str} {d : Mx X.K C m qual st ps} {g : List D → Option D} {pl : Sem Bool} (hc : G.cl c = some C) (cl : Cls X.K C) (F : FnOk X.prog X.w X.K X.mg X.base CX0 k d.f d.fd ps (spD G g)) (hr : Room k' X.A) (ho : PF X G ob fo) (hle : k ≤ k' := by omega)
  (ht : eval (.Call (.Attribute ob m apos) [] [] pos) X.env = (do
   let ov ← eval ob X.env
   standAt apos.atName
   let (f, first) ← holding [ov] (getMethod ov m pl)
   callWith pos f first (backTo pos (starEach [] X.env)) (backToKw pos (keywordEach [] X.env))) := by rfl) :
  PF X G (.Call (.Attribute ob m apos) [] [] pos) (GQ c m g fo nilA) := fun A => Bp (Us (@ho A) cl d.me F (hr.mono hle) d.B .nil U6 ht) fun σ H Q ⟨ρ, dd, o, e, k⟩ => by
 unfold GQ at e
 cases e0 : fo ρ with
 | none => simp [e0] at e
 | some oo =>
  rw [e0] at e
  have e' : (if Eb c m oo = true then (nilA ρ).bind fun ds => g (oo :: ds) else none) = some dd := e
  split at e'
  ·rename_i hob
   have e2 : g [oo] = some dd := e'
   refine ⟨ρ, oo, o, e0, fun v H1 s1 r1 => ?_⟩
   cases oo with
   | ob c' gs =>
    simp only [Eb, Bool.and_eq_true, beq_iff_eq, Option.isNone_iff_eq_none] at hob
    obtain ⟨rfl, hn⟩ := hob
    cases r1 with
    | ob hC h1 l1 r2 =>
     rw [hc] at hC
     cases hC
     exact ⟨_, _, _, rfl, Al _ _ h1, Le l1 hn, A, [.ob c' gs], dd, (o.mono s1).live, .cons (.ob hc h1 l1 r2) .nil, e2, fun v H3 s3 r4 => k v H3 (s1.trans s3) r4⟩
   | _ => simp [Eb] at hob
  ·cases e'
theorem rZ {R : Addr} {cn f qual : Str} {st : Stmt} {ps : List Str} {x : Xx G X.mg R cn f qual st ps} {k k' : Nat} {c : V → Prop} {ok : D → Bool} (F : FnOk X.prog X.w X.K X.mg X.base CX0 k x.fi x.fd ps (spE X.K f c)) (hr : Room k' X.A) (hok : ∀ d, ok d = true → ∃ y, flV d = some y ∧ c y) (ha : PF X G a fa) (hle : k + 1 ≤ k' := by omega) (hG : G.K = X.K := by rfl) (hg : Gl X cn := by rfl) (hc : X.calm = true := by rfl)
  (hdb : (cn == ("__debug__" : Str)) = false := by decide) (he : starEach [a] X.env = [(false, eval a X.env)] := by rfl) (hpl : (backTo cpos (starEach [] X.env)).any (·.1) = false := by rfl) : PSZ X G (.Raise (some (.Call (.Name cn np) [a] [] cpos)) none pos) (retF (excF cn f ok fa)) :=
 UG (hG ▸ x.xc) (hG ▸ x.hi) (hG ▸ x.hf) (hG ▸ x.kp) (hG ▸ x.na) F (hr.mono hle) (hG ▸ x.B) hg x.m x.g hc hok ha hdb he hpl
theorem sZ (hN : X.N.Nodup) (i : Nat) {x : Str} (ha : PFZ X G a fa) (hi : X.N[i]? = some x := by rfl) (hx : Loc X.env.scope x := by first | exact Or.inl rfl | exact Or.inr rfl) (hs : swapsWith a (some (.Name x p)) pos.line X.env = pure false := by rfl)
  (hf : X.fn x = true ∨ X.env.scope.names.lookup x = some .local := by first | exact .inl rfl | exact .inr rfl | assumption) : PSZ X G (.Assign [.Name x p] a pos) (setZ i fa) := YH (fun _ h => QH hN hi hx h hs hf) ha
end
section
variable {mg : Str → Option Value} {x : Str} {st : Stmt} {ps : List Str} {P : Program} {w : World} {G : Gx} {base : Heap} {N : List Str} {k : Nat} {b : FS}
end
end PV
namespace PV
open PySem PySem.Spec L2 EX
open PyProof.Rows hiding St
def gx2 (K : PySem.W.Frag) (cn : Str) (C : Addr) (l : List (Str × Addr)) : Gx := { K := K, cl := fun c => if c = cn then some C else none, xcl := fun c => l.lookup c }
section
variable {K : PySem.W.Frag} {h : Heap} {mg : Str → Option Value} {x qual cn m : Str} {st : Stmt} {ps : List Str} {f C R : Addr} {oc : Value} {od an : Option Addr} {osl : Array (Option Value)} {dV kV doc pm cdv ct : Value} {l : List (Str × Addr)}
theorem au : (gx2 K cn C l).cl cn = some C := if_pos rfl
theorem Qu (X : K.In h) (cl : Cls K C) (n : PySem.W.findIn K (.ref C) x = some none) : ∀ c C', (gx2 K cn C l).cl c = some C' → Cls K C' ∧ BW K C' x := fun c C' h => by
 unfold gx2 at h
 simp only at h
 split at h
 ·cases h; exact ⟨cl, n⟩
 ·cases h
theorem N8 {P : Addr → Prop} : ∀ {l : List (Str × Addr)}, (∀ p ∈ l, P p.2) → ∀ {c : Str} {C : Addr}, l.lookup c = some C → P C
 | [], _, _, _, h => nomatch h
 | (k, v) :: r, hp, c, C, h => by
  simp only [List.lookup] at h
  split at h
  ·cases h; exact hp (k, v) List.mem_cons_self
  ·exact N8 (fun p hm => hp p (List.mem_cons_of_mem _ hm)) h
theorem az {cs : List Str} (X : K.In h) (hp : ∀ p ∈ l, XC K p.2 R ∧ XK2 K p.2) : XT (gx2 K cn C l) cs R := ⟨fun c C' _ g => (N8 (P := fun C => XC K C R ∧ XK2 K C) hp g).1, fun c C' _ g => (N8 (P := fun C => XC K C R ∧ XK2 K C) hp g).2⟩
theorem a_ {cs : List Str} (X : K.In h) (hp : ∀ p ∈ l, PySem.W.findIn K (.ref p.2) x = some none) : ∀ c C', cs.contains c = true → (gx2 K cn C l).xcl c = some C' → BW (gx2 K cn C l).K C' x := fun c C' _ g => N8 (P := fun C => PySem.W.findIn K (.ref C) x = some none) hp g
theorem WF {cv : List Value} {ns : List Str} : ∀ {l : List (Str × Addr)}, (∀ p ∈ l, PySem.W.kitAny K (.ref p.2) cv = some (ns.contains p.1)) → ∀ {c : Str} {C : Addr}, l.lookup c = some C → PySem.W.kitAny K (.ref C) cv = some (ns.contains c)
 | [], _, _, _, h => nomatch h
 | (k, v) :: r, hp, c, C, h => by
  simp only [List.lookup] at h
  split at h
  ·rename_i e
   have : c = k := by simpa using e
   cases h; subst this; exact hp (c, v) List.mem_cons_self
  ·exact WF (fun p hm => hp p (List.mem_cons_of_mem _ hm)) h
theorem N_ {cs ns : List Str} {cv : List Value} (X : K.In h) (h1 : PySem.W.kitAny K (.type "NoneType") cv = some (ns.contains "NoneType")) (h2 : PySem.W.kitAny K (.type "bool") cv = some (ns.contains "bool")) (h3 : PySem.W.kitAny K (.type "int") cv = some (ns.contains "int")) (h4 : PySem.W.kitAny K (.type "str") cv = some (ns.contains "str"))
  (hp : ∀ p ∈ l, PySem.W.kitAny K (.ref p.2) cv = some (ns.contains p.1)) : Kit (gx2 K cn C l) cs cv ns := ⟨h1, h2, h3, h4, fun c C' _ g => WF hp g⟩
def kx2 {g : Addr} {n : Nat} {its : Array Value} {xs : List Str} (X : K.In h) (N : h.Ns mainGlobals mg) (a : PySem.W.nsIn K mainGlobals x = some (some (.ref g))) (lk : K.lookup g = some ⟨.type "tuple", od, .seq its n, osl⟩) (hz : its.size ≤ sizeLine) (r : Vals (xs.map V.str) its.toList) : Kx (gx2 K cn C l) mg x (.tup (xs.map .str)) := ⟨g, PySem.W.mg_of X N a, LK lk hz r⟩
def mx (X : K.In h) (a : PySem.W.findIn K (.ref C) m = some (some (.ref f))) (i : PySem.W.isFn K (.ref f) = true) (lk : K.lookup f = some ⟨oc, od, .func (PySem.W.fnOf m qual (Bl st) (BV st) (Ab st) .none kV doc pm an cdv ct), osl⟩) (c : PySem.W.codeIn K cdv qual = true) (k : PySem.W.keepIn K (.ref f) = true)
  (b : ∀ (kV doc pm : Value) (an : Option Addr) (cdv ct : Value) (us : List Value), us.length = ps.length → bindArgs (PySem.W.fnOf m qual (Bl st) (BV st) (Ab st) .none kV doc pm an cdv ct) ⟨us, []⟩ = pure (ps.zip us)) : Mx K C m qual st ps := ⟨f, _, G9 lk c k, (G9 lk c k).binds b, a, i, k⟩
def rx (X : K.In h) (N : h.Ns mainGlobals mg) (a : PySem.W.nsIn K mainGlobals x = some (some (.ref R))) (e : excX K R = true) (h1 : PySem.W.specialIn K (.ref R) "__getattribute__" = some (some (.builtin "type.__getattribute__"))) (h2 : PySem.W.readsIn K R (.type "type") = true)
  (h3 : PySem.W.findCls K (.ref R) (.type "type") "__init__" = some (.val (.builtin "ValueError.__init__"))) : Rx K mg x := ⟨R, PySem.W.mg_of X N a, e, h1, h2, h3⟩
def xx {fn : Str} {fi : Addr} (X : K.In h) (N : h.Ns mainGlobals mg) (a : PySem.W.nsIn K mainGlobals x = some (some (.ref f))) (g : l.lookup x = some f) (xc : XC K f R) (hi : PySem.W.findIn K (.ref f) "__init__" = some (some (.ref fi))) (i : PySem.W.isFn K (.ref fi) = true) (kp : PySem.W.keepIn K (.ref f) = true) (na : PySem.W.findIn K (.ref f) fn = some none)
  (lk : K.lookup fi = some ⟨oc, od, .func (PySem.W.fnOf "__init__" qual (Bl st) (BV st) (Ab st) .none kV doc pm an cdv ct), osl⟩) (c : PySem.W.codeIn K cdv qual = true) (k : PySem.W.keepIn K (.ref fi) = true)
  (b : ∀ (kV doc pm : Value) (an : Option Addr) (cdv ct : Value) (us : List Value), us.length = ps.length → bindArgs (PySem.W.fnOf "__init__" qual (Bl st) (BV st) (Ab st) .none kV doc pm an cdv ct) ⟨us, []⟩ = pure (ps.zip us)) : Xx (gx2 K cn C l) mg R x fn qual st ps := ⟨f, fi, _, g, xc, hi, i, kp, na, PySem.W.mg_of X N a, G9 lk c k, (G9 lk c k).binds b⟩
theorem Ku : bootBuiltins "ValueError" = some (.type "ValueError") := by decide +kernel
end
end PV
namespace PV
open PySem PySem.Spec L2
open PyProof.Rows hiding St
def cW : R2 := fun x y H Q => ∃ a kvs k b, y = .ref a ∧ Rd H a (.dT kvs) ∧ x = .ref b ∧ H b = some (.tup (k.map kV)) ∧ Q (.bl (valV kvs k).isSome) H
def inTO (ds : Option (List D)) (y : Option D) : Option D := ds.bind fun ds => y.bind fun y => match y with
 | .dt kds => if ds.length ≤ sizeLine then (GJ ds).map fun k => .bl (getK k kds).isSome else none
 | _ => none
def inTF (fs : FA) (fb : FE) : FE := fun ρ => inTO (fs ρ) (fb ρ)
section
variable {X : Cx} {G : Gx} {b : Expr} {fb : FE} {pos p1 : Pos} {es : List Expr} {fs : FA}
theorem Yc (hu : X.A.units + 1 < cLine) : OpR X (compareOp .In) cW := by
 intro pins s σ H x y v u Q I rx ry h
 obtain ⟨a, kvs, k, b, rfl, e, rfl, eb, q⟩ := h
 cases ry
 exact d_in hu I (.inr ⟨kvs, k, b, e, rfl, eb, rfl⟩) rx fun s' I' => ⟨.bl _, H, I', rfl, q⟩
theorem bA {x1} {k : Nat} (hr : Room k X.A) (ha : PFA X G es fs) (hb : PU X G b fb) (hm : behindInMarks .In b = false := by with_unfolding_all rfl) : PF X G (.Compare (.Tuple es x1 p1) [.In] [b] pos) (inTF fs fb) := fun A => Bp (Q7 (Yc (Fx hr)) (Lw (@ha A)) (@hb A) hm) fun σ H Q ⟨ρ, d, o, e, k⟩ => by
 unfold inTF inTO at e
 cases e1 : fs ρ with
 | none => simp [e1] at e
 | some ds =>
  cases e2 : fb ρ with
  | none => simp [e1, e2] at e
  | some y =>
   rw [e1, e2] at e
   cases y with
   | dt kds =>
    have e' : (if ds.length ≤ sizeLine then (GJ ds).map fun k => D.bl (getK k kds).isSome else none) = some d := e
    split at e'
    ·rename_i hz
     cases e3 : GJ ds with
     | none => simp [e3] at e'
     | some ks =>
      rw [e3] at e'
      cases e'
      refine ⟨ρ, ds, o, e1, fun xs H1 s1 r1 => ⟨by rw [r1.1]; exact hz, fun p hp => ?_⟩⟩
      have ex := Ij r1 e3
      have s2 : Same H1 (upd H1 p (.tup xs)) := BJ hp _
      refine ⟨ρ, .dt kds, o.mono (s1.trans s2), e2, fun v H3 s3 r3 => ?_⟩
      obtain ⟨a, kvs, rfl, h1, h2, r⟩ := r3.dt
      have h3 := (Gn (k := ks) h2 r).2
      refine ⟨a, kvs, ks, p, rfl, h1, rfl, by rw [s3 _ _ Ae, ex], ?_⟩
      rw [h3]
      exact k _ H3 ((s1.trans s2).trans s3) (.bl _)
    ·cases e'
   | _ => cases e
end
structure Ax (mg : Str → Option Value) (x : Str) where
 a : Addr
 m : mg x = some (.ref a)
def ax {K : PySem.W.Frag} {h : Heap} {mg : Str → Option Value} {x : Str} {C : Addr} (X : K.In h) (N : h.Ns mainGlobals mg) (a : PySem.W.nsIn K mainGlobals x = some (some (.ref C))) : Ax mg x := ⟨C, PySem.W.mg_of X N a⟩
end PV
namespace PV
open PySem PySem.Spec L2 EX
open PyProof.Rows hiding St
def tXZ (X : Cx) (G : Gx) (A0 : List Addr) (He : Hp) (h : FZ) : TE := fun σ H Q => ∃ ρ d ρ' A, OkW G A0 He A σ H ρ ∧ h ρ = some (d, ρ') ∧ (∀ v H' A', OkW G A0 He A' σ H' ρ' → Same (hid A H) (hid A' H') → Rep G (hid A' H') v d → Q v H') ∧ RzO X G A0 He d ρ'
def PXZ (X : Cx) (G : Gx) (e : Expr) (h : FZ) : Prop := ∀ ⦃A0⦄ He, PE X e (tXZ X G A0 He h)
section
variable {X : Cx} {G : Gx} {a b c : Expr} {fa fb fc : FE} {pos p2 px rp p apos : Pos} {es : List Expr} {fs : FA} {h : FZ} {hs : FZA} {A0 : List Addr} {He : Hp}
theorem PX.x (ha : PX X G a h) : PXZ X G a h := fun A0 He pins s σ H Q I ⟨ρ, d, ρ', A, w, e, k, _⟩ => @ha A0 He pins s σ H Q I ⟨ρ, d, ρ', A, w, e, k⟩
end
end PV
namespace PV
open PySem PySem.Spec L2 EX
open PyProof.Rows hiding St
section
variable {X : Cx} {k : Nat} {f C : Addr} {fd : FuncData} {ps : List Str} {sp : Sp} {m : Str} {pos apos : Pos} {o : Expr} {ta : TE}
end
section
variable {X : Cx} {G : Gx} {b : Expr} {rp p pos apos : Pos} {es : List Expr} {fs : FA} {A0 : List Addr} {He : Hp}
end
end PV
namespace PV
open PySem PySem.Spec L2 EX
open PyProof.Rows hiding St
def nxD (d : D) : Option D := match excOf d with | none => some d | some _ => none
def noX (g : List D → Option D) : List D → Option D := fun ds => (g ds).bind nxD
section
variable {P : Program} {w : World} {K : PySem.W.Frag} {mg : Str → Option Value} {base : Heap} {k : Nat} {f : Addr} {fd : FuncData} {ps : List Str} {G : Gx} {sp sp' : Sp}
theorem Yd (F : FnOk P w K mg base (CX1 P w) k f fd ps sp) (h : ∀ vs H Q E, sp' vs H Q E → sp vs H Q fun _ _ _ => False) : FnOk P w K mg base CX0 k f fd ps sp' :=
 ⟨fun vs H Q E q => F.len vs H Q _ (h _ _ _ _ q), fun A outer s H args us vs Q E hr he hb hv hs => codeAny_mono (F.run A outer s H args us vs Q _ hr he hb hv (h _ _ _ _ hs)) fun r s' q => by
  cases r with
  | error v => obtain ⟨_, _, _, _, _, _, _, z⟩ := q; exact z.elim
  | ok fl => cases fl <;> exact q⟩
theorem Pu {g : List D → Option D} {ds : List D} {d : D} (e : noX g ds = some d) : g ds = some d ∧ excOf d = none := by
 unfold noX nxD at e
 cases e1 : g ds with
 | none => simp [e1] at e
 | some d' =>
  rw [e1, Option.bind_some] at e
  split at e
  ·rename_i z; cases e; exact ⟨rfl, z⟩
  ·cases e
theorem ZF {g : List D → Option D} (F : FnOk P w K mg base (CX1 P w) k f fd ps (spZ G g)) : FnOk P w K mg base CX0 k f fd ps (spD G (noX g)) :=
 Yd F fun vs H Q E ⟨A, ds, d, lv, r, e, q⟩ => ⟨A, ds, d, lv, r, (Pu e).1, q, fun c gs z => by rw [(Pu e).2] at z; cases z⟩
end
section
variable {X : Cx} {G : Gx} {a b : Expr} {es : List Expr} {fs : FA} {rp p pos apos : Pos} {h : FZ}
end
end PV
namespace PV
open PySem PySem.Spec L2
open PyProof.Rows hiding St
theorem Fun.d {K : PySem.W.Frag} {x qual : Str} {st : Stmt} {f : Addr} {fd : FuncData} (F : Fun K x qual st f fd) : FunD K x qual st f fd := ⟨let ⟨oc, od, kV, q⟩ := F.ex; ⟨oc, od, .none, kV, q⟩, F.kp⟩
end PV
namespace L2
theorem Fun.d {K : PySem.W.Frag} {x qual : PySem.Str} {st : PySem.Stmt} {f : PySem.Addr} {fd : PySem.FuncData} (F : Fun K x qual st f fd) : PV.FunD K x qual st f fd := PV.Fun.d F
end L2
namespace PV
open PySem PySem.Spec L2
section
variable {es l1 l2 : List Expr} {env : Env} {pos : Pos} {a b c : Expr}
theorem JF {k j} : starEach (.Constant k j pos :: es) env = (false, eval (.Constant k j pos) env) :: starEach es env := rfl
theorem Ai {x} : starEach (.Name x pos :: es) env = (false, eval (.Name x pos) env) :: starEach es env := rfl
theorem WK {o} : starEach (.BinOp a o b pos :: es) env = (false, eval (.BinOp a o b pos) env) :: starEach es env := rfl
theorem OD : starEach (.Subscript a b pos :: es) env = (false, eval (.Subscript a b pos) env) :: starEach es env := rfl
theorem Ff {x} : starEach (.Attribute a x pos :: es) env = (false, eval (.Attribute a x pos) env) :: starEach es env := rfl
theorem WL {x} : starEach (.Tuple l1 x pos :: es) env = (false, eval (.Tuple l1 x pos) env) :: starEach es env := rfl
theorem OJ {k} : starEach (.Call a l1 k pos :: es) env = (false, eval (.Call a l1 k pos) env) :: starEach es env := rfl
theorem Sy {k} : starEach (.Dict k l1 pos :: es) env = (false, eval (.Dict k l1 pos) env) :: starEach es env := rfl
end
section
variable {X : Cx} {G : Gx} {es : List Expr} {fs : FA} {pos : Pos}
theorem iS {i j} (h : PFA X G es fs) : PFA X G (.Constant (.str i) j pos :: es) (Aa (kF (.str i)) fs) := Ac HB h JF
theorem iI {i j} (h : PFA X G es fs) : PFA X G (.Constant (.int i) j pos :: es) (Aa (kF (.int i)) fs) := Ac VL h JF
end
section
variable {G : Gx} {mg : Str → Option Value} {cs : List Str} {R : Addr} {cn f qual : Str} {st : Stmt} {ps : List Str}
theorem Ye (x : XT G cs R) : ∀ c C, cs.contains c = true → G.xcl c = some C → ∃ R', EX.XC G.K C R' ∧ (R = R' ∨ R = C) := fun c C h g => ⟨R, x.xc c C h g, .inl rfl⟩
end
end PV
namespace PV
open PySem PySem.Spec L2
open PyProof.Rows hiding St
section
variable {X : Cx} {G : Gx} {a b : Expr} {fs : FA} {pos px py pt : Pos}
end
end PV
namespace PV
open PySem PySem.Spec L2 EX
open PyProof.Rows hiding St
section
variable {X : Cx} {G : Gx} {a tg : Expr} {fa : FE} {pos np cpos p : Pos} {body : List Stmt} {gb : FS} {es : List Expr} {fs : FA}
theorem OutX.base {A0 : List Addr} {He Hf : Hp} {o : Out} (k : OutX X G A0 He o) (s : Same He Hf) (l0 : ∀ a ∈ A0, He a ≠ none) : OutX X G A0 Hf o := by
 cases o with
 | rt d ρ => exact fun c gs z pins σ H1 H s' e tb I ⟨A, w⟩ x => k c gs z pins σ H1 H s' e tb I ⟨A, w.base s l0⟩ x
 | _ => trivial
end
end PV
namespace EX
open PySem PySem.W PySem.Spec PyProof.Rows PySem.Calls
section
variable {prog : Program} {w : World} {A : Around} {E : Value → Shared → Prop} {s : Shared} {K : Frag} {x C : Addr} {ox : Obj} {name : Str} {v : Value}
end
end EX
namespace EX
open PySem PySem.Spec L2
open PyProof.Rows hiding St
section
variable {X : Cx} {pins : List (Addr × Obj)} {σ : St} {H : Hp} {s : Shared} {e C R dx : Addr} {tb : Option Addr} {A : Around} {E : Value → Shared → Prop} {f : Str}
end
end EX
namespace EX
open PySem PySem.Spec L2
open PyProof.Rows hiding St
section
variable {X : Cx} {o value : Expr} {ta tv : TE} {pos pos' : Pos} {f : Str}
theorem PP.imp {c c' : St → Prop} {e : Expr} (h : PP X c e) (w : ∀ σ, c' σ → c σ) : PP X c' e := fun pins s σ H I hc => h pins s σ H I (w σ hc)
end
section
variable {X : Cx} {pins : List (Addr × Obj)} {σ : St} {H : Hp} {s : Shared} {C R fi : Addr} {k : Nat} {fd : FuncData} {ps : List Str} {f g : Str} {c : V → V → Prop}
end
end EX
namespace PV
open PySem PySem.Spec L2 EX
open PyProof.Rows hiding St
structure Xx2 (G : Gx) (mg : Str → Option Value) (R : Addr) (cn f g qual : Str) (st : Stmt) (ps : List Str) where
 C : Addr
 fi : Addr
 fd : FuncData
 gc : G.xcl cn = some C
 xc : XC G.K C R
 hi : PySem.W.findIn G.K (.ref C) "__init__" = some (some (.ref fi))
 hf : PySem.W.isFn G.K (.ref fi) = true
 kp : PySem.W.keepIn G.K (.ref C) = true
 na : BW G.K C f
 nb : BW G.K C g
 m : mg cn = some (.ref C)
 F : Fun G.K "__init__" qual st fi fd
 B : Binds G.K fd ps []
section
variable {X : Cx} {G : Gx} {a b : Expr} {fs : FA} {np cpos pos : Pos} {R : Addr} {cn f g qual : Str} {st : Stmt} {ps : List Str} {x : Xx2 G X.mg R cn f g qual st ps} {k k' : Nat}
end
end PV
namespace EX
open PySem PySem.Spec L2
open PyProof.Rows hiding St
section
variable {X : Cx} {pins : List (Addr × Obj)} {σ : St} {H : Hp} {s : Shared} {C R : Addr}
end
end EX
namespace PV
open PySem PySem.Spec L2 EX
open PyProof.Rows hiding St
section
variable {X : Cx} {G : Gx} {a : Expr} {fa : FE} {np cpos pos : Pos} {R : Addr} {cn : Str}
end
end PV
namespace PV
open PySem PySem.Spec L2 EX
open PyProof.Rows hiding St
section
variable {K : PySem.W.Frag} {h : Heap} {mg : Str → Option Value} {x qual cn : Str} {st : Stmt} {ps : List Str} {f C R : Addr} {oc : Value} {od an : Option Addr} {osl : Array (Option Value)} {kV doc pm cdv ct : Value} {l : List (Str × Addr)}
end
end PV
namespace PV
open PySem PySem.Spec L2 EX
open PyProof.Rows hiding St
abbrev EO := Sum (Rho × Ef) (D × Rho)
abbrev FEz := Rho → Ef → Option EO
def Fo (g : FEs) : FEz := fun ρ ε => (g ρ ε).map .inl
def rtZ (o : Option Out) : Option EO := match o with
 | some (.rt d ρ') => if noOw ρ' = true ∧ (excOf d).isSome = true then some (.inr (d, ρ')) else none
 | _ => none
def ifEZ (t : FTE) (g : FS) : FEz := fun ρ ε => match t ρ ε with
 | some false => some (.inl (ρ, ε))
 | some true => rtZ (g ρ)
 | none => none
def nilZ : FEz := fun ρ ε => some (.inl (ρ, ε))
def G4 (o : Option EO) (gs : FEz) : Option EO := o.bind fun o => match o with | .inl r => gs r.1 r.2 | .inr q => some (.inr q)
def seqZ (g gs : FEz) : FEz := fun ρ ε => G4 (g ρ ε) gs
def Dh (tg : FG) (b : FEz) : List D → FEz
 | [] => fun ρ ε => some (.inl (ρ, ε))
 | d :: r => fun ρ ε => (tg d ρ).bind fun ρ' => if noOw ρ' = true then G4 (b ρ' ε) (Dh tg b r) else none
def forZ (src : FI) (tg : FG) (b : FEz) : FEz := fun ρ ε => (src ρ).bind fun ds => Dh tg b ds ρ ε
def endZ : EO → Sum Ef D
 | .inl r => .inl r.2
 | .inr q => .inr q.1
def Px (n np : Nat) (b : FEz) (x : Addr) (ds : List D) : Option (Sum Ef D) := if ds.length + 1 = np then (b (Ny n x ds) []).map endZ else none
open Classical in
noncomputable def mkIZ (c : Str) (g : Addr → List D → Option (Sum Ef D)) (fs : FA) : FE := fun ρ => (fs ρ).bind fun ds => (g 0 ds).bind fun o => if ∀ y, g y ds = some o then (match o with | .inl ε => some (finE c ε) | .inr d => if (excOf d).isSome = true then some d else none) else none
def tEZ (X : Cx) (G : Gx) (c : Str) (A0 : List Addr) (He : Hp) (x : Addr) (g : FEz) : TS := fun D σ H => ∃ ρ ε o, EOkS G c A0 He x σ H ρ ε ∧ g ρ ε = some o ∧ (∀ r, o = .inl r → ∀ σ' H', EOkS G c A0 He x σ' H' r.1 r.2 → D.nx σ' H') ∧ ∀ q, o = .inr q → RzO X G A0 He q.1 q.2
def PSEZ (X : Cx) (G : Gx) (c : Str) (st : Stmt) (g : FEz) : Prop := ∀ ⦃A0⦄ He x, PS X st (tEZ X G c A0 He x g)
def S5 (X : Cx) (G : Gx) (c : Str) (st : List Stmt) (g : FEz) : Prop := ∀ ⦃A0⦄ He x, PSs X st (tEZ X G c A0 He x g)
theorem WN {X : Cx} {G : Gx} {c : Str} {A0 : List Addr} {He : Hp} {x : Addr} {A : List Addr} {σ : St} {H : Hp} {ρ ρ' : Rho} {ε : Ef} {d : D} (o : EOk G c A0 He x A σ H ρ ε) (kx : RzO X G A0 He d ρ') (no : noOw ρ' = true) (s0 : ρ'[0]? = some (.fz (.adr x))) : RzO X G A H d ρ' := fun c gs z pins σ' H1 H2 s e tb I ok y => by
 obtain ⟨B, w⟩ := o.unframe ok no s0
 exact kx c gs z pins σ' H1 H2 s e tb I ⟨B, w.w⟩ y
theorem bB {o : Option Out} {r : EO} (h : rtZ o = some r) : ∃ d ρ', o = some (.rt d ρ') ∧ noOw ρ' = true ∧ (excOf d).isSome = true ∧ r = .inr (d, ρ') := by
 unfold rtZ at h
 split at h
 ·rename_i d ρ'
  split at h
  ·rename_i hz
   cases h
   exact ⟨d, ρ', rfl, hz.1, hz.2, rfl⟩
  ·cases h
 ·cases h
section
variable {X : Cx} {G : Gx} {c : Str} {a b e k it tg : Expr} {fa fb fk : FE} {pos p2 p px : Pos} {st : Stmt} {rest body : List Stmt} {g gs : FEz} {gp : FS} {ta tb : FTE} {tp : FT}
theorem PSE.z {g : FEs} (h : PSE X G c st g) : PSEZ X G c st (Fo g) := fun A0 He x pins s σ H D I ⟨ρ, ε, o, ok, e, k, _⟩ => by
 unfold Fo at e
 cases e1 : g ρ ε with
 | none => simp [e1] at e
 | some r =>
  simp only [e1, Option.map_some] at e
  cases e
  exact @h A0 He x pins s σ H D I ⟨ρ, ε, r, ok, e1, k r rfl⟩
theorem Py (h1 : PSEZ X G c st g) : S5 X G c [st] g := fun A0 He x => Ja (@h1 A0 He x)
theorem Li (h1 : PSEZ X G c st g) (h2 : S5 X G c rest gs) : S5 X G c (st :: rest) (seqZ g gs) := fun A0 He x pins s σ H D I ⟨ρ, ε, o, ok, e, k, kx⟩ => by
 refine Fq (@h1 A0 He x) (@h2 A0 He x) pins s σ H D I ?_
 unfold seqZ G4 at e
 cases e1 : g ρ ε with
 | none => simp [e1] at e
 | some q =>
  simp only [e1, Option.bind_some] at e
  refine ⟨ρ, ε, q, ok, e1, fun r hr σ' H' o' => ?_, fun r hr => ?_⟩
  ·subst hr
   exact ⟨r.1, r.2, o, o', e, k, kx⟩
  ·subst hr
   cases e
   exact kx r rfl
theorem S6 {s1 : List Stmt} (ht : PTE X G c e ta) (h1 : PSZs X G s1 gp) (hk2 : ∀ ρ d ρ', gp ρ = some (.rt d ρ') → ρ'[0]? = ρ[0]?) : PSEZ X G c (.If e s1 [] pos) (ifEZ ta gp) := fun A0 He x pins s σ H D I ⟨ρ, ε, q, ⟨A, o⟩, e, k, kx⟩ => by
 have h1' : PSs X s1 (fun D σ H => ∃ A He, tSZ X G A He gp D σ H) := fun pins s σ H D I ⟨A, He, q⟩ => @h1 A He pins s σ H D I q
 refine Ug (@ht A0 He x) h1' Lr pins s σ H D I ?_
 unfold ifEZ at e
 split at e
 ·rename_i e1
  cases e
  exact ⟨A, ρ, ε, _, o, e1, fun H1 s1 => iteF (k _ rfl σ H1 ⟨A, o.mono s1⟩)⟩
 ·rename_i e1
  obtain ⟨d, ρ', e2, no, hd, rfl⟩ := bB e
  have s0 : ρ'[0]? = some (.fz (.adr x)) := by rw [hk2 ρ d ρ' e2]; exact o.s0
  refine ⟨A, ρ, ε, _, o, e1, fun H1 s1 => iteT ⟨A, H1, ρ, _, (o.mono s1).frame, e2, fun v σ' H' B w r => ?_, WN (o.mono s1) (kx _ rfl) no s0⟩⟩
  rw [Qs r] at hd
  cases hd
 ·cases e
theorem RzO.base' {A0 : List Addr} {He Hf : Hp} {d : D} {ρ : Rho} (h : RzO X G A0 He d ρ) (s : Same He Hf) (l0 : ∀ a ∈ A0, He a ≠ none) : RzO X G A0 Hf d ρ := fun c gs z pins σ H1 H2 s2 e tb I ⟨B, w⟩ y => h c gs z pins σ H1 H2 s2 e tb I ⟨B, w.base s l0⟩ y
theorem Pz {src : FI} {fg : FG} {gb : FEz} (hp : PassesOwn (model X.prog X.w) X.A X.env X.xe) (hc : X.calm = true) (hi : PFI X G false tg it src) (hg : PGD X G tg fg) (hk : ∀ d ρ ρ', fg d ρ = some ρ' → ρ'[0]? = ρ[0]?) (hb : S5 X G c body gb)
  (hs : ∀ x, foldedSetIterable it X.env x = pure x := by intro _; rfl) : PSEZ X G c (.For tg it body [] pos) (forZ src fg gb) := fun A0 He x pins s σ H D I ⟨ρ, ε, r, ⟨A, o⟩, e, k, kx⟩ => by
 cases e1 : src ρ with
 | none => simp [forZ, e1] at e
 | some ds =>
  have e' : Dh fg gb ds ρ ε = some r := by simpa [forZ, e1] using e
  have hb' : PSs X body (fun D σ H => ∃ A0 He x, tEZ X G c A0 He x gb D σ H) := fun pins s σ H D I ⟨A0, He, x, q⟩ => @hb A0 He x pins s σ H D I q
  have hg' : PG X tg (fun v σ H Q => ∃ A0 He, tGD G A0 He fg v σ H Q) := fun pins s σ H v u Q I r ⟨A0, He, q⟩ => @hg A0 He pins s σ H v u Q I r q
  refine Uj hp hc (@hi A) hg' hb' hs pins s σ H D I ⟨ρ, ds, o.w.ok, e1, fun J H1 s1 sr => ?_⟩
  have o1 := o.mono s1
  obtain ⟨sHe, w2⟩ := o1.w.here
  generalize hHf : hid (A.filter fun a => decide (a ∉ A0)) H1 = Hf at sHe w2
  have k2 : ∀ q, r = .inl q → ∀ σ' H', EOkS G c A0 Hf x σ' H' q.1 q.2 → D.nx σ' H' := fun q hq σ' H' ⟨B, z⟩ => k q hq σ' H' ⟨B, z.w.base sHe o.w.l0, z.no, z.xA, z.x0, z.s0, z.ob⟩
  have kx2 : ∀ q, r = .inr q → RzO X G A0 Hf q.1 q.2 := fun q hq => (kx q hq).base' sHe o.w.l0
  refine ⟨fun i m σ' H' => m = ds.length - i ∧ i ≤ ds.length ∧ ∃ ρ' ε', EOkS G c A0 Hf x σ' H' ρ' ε' ∧ Dh fg gb (ds.drop i) ρ' ε' = some r, ⟨ds.length, by simp, Nat.zero_le _, ρ, ε, ⟨A, w2, o1.no, o1.xA, o1.x0, o1.s0, o1.ob⟩, by simpa using e'⟩, ?_⟩
  rintro i m σ3 H3 ⟨rfl, hil, ρ3, ε3, ⟨B, o3⟩, e3⟩
  have pl : Same (hid A H1) (hid B H3) := by rw [← hHf] at o3; exact OkW.plain o.w.sub o3.w
  by_cases hlt : i < ds.length
  ·right
   have hd : ds[i]? = some ds[i] := by simp [hlt]
   have ed : ds.drop i = ds[i] :: ds.drop (i + 1) := List.drop_eq_getElem_cons hlt
   rw [ed] at e3
   unfold Dh at e3
   refine ⟨sr.go i H3 (pl.trans Al) hlt, fun σ' H' => ∃ ρ' ε', EOkS G c A0 Hf x σ' H' ρ' ε' ∧ Dh fg gb (ds.drop (i + 1)) ρ' ε' = some r, fun σ' H' q => ⟨ds.length - (i + 1), by omega, rfl, hlt, q⟩, fun y H' yy => ?_⟩
   obtain ⟨sy, rx⟩ := sr.yld i H3 y H' _ (pl.trans Al) hd yy
   have o4 := o3.mono sy
   cases e4 : fg ds[i] ρ3 with
   | none => simp [e4] at e3
   | some ρ4 =>
    simp only [e4, Option.bind_some] at e3
    split at e3
    ·rename_i no
     refine ⟨B, H', B, ρ3, ds[i], ρ4, o4.frameW, rx B o3.w.ok.live pl, e4, fun σ5 H5 ok5 => ?_⟩
     unfold G4 at e3
     cases e5 : gb ρ4 ε3 with
     | none => simp [e5] at e3
     | some q =>
      simp only [e5, Option.bind_some] at e3
      refine ⟨A0, Hf, x, ρ4, ε3, q, o4.unframe ok5 no (by rw [hk _ _ _ e4]; exact o4.s0), e5, fun u hu σ' H' o' => ?_, fun u hu => ?_⟩
      ·subst hu
       exact ⟨u.1, u.2, o', e3⟩
      ·subst hu
       cases e3
       exact kx2 u rfl
    ·cases e3
  ·left
   have ei : i = ds.length := by omega
   subst ei
   rw [List.drop_length] at e3
   cases e3
   exact ⟨sr.stop _ H3 (pl.trans Al) (Nat.le_refl _), k2 _ rfl σ3 H3 ⟨B, o3⟩⟩
end
def tEIZ (X : Cx) (G : Gx) (c : Str) (A0 : List Addr) (He : Hp) (x : Addr) (g : FEz) : TS := fun D σ H => ∃ ρ ε o, EOkS G c A0 He x σ H ρ ε ∧ g ρ ε = some o ∧ (∀ r, o = .inl r → ∀ σ' H', Same He H' → Rep G (hid A0 H') (.ref x) (finE c r.2) → D.nx σ' H') ∧ ∀ q, o = .inr q → RzO X G A0 He q.1 q.2
def PSIZ (X : Cx) (G : Gx) (c : Str) (st : List Stmt) (g : FEz) : Prop := ∀ ⦃A0⦄ He x, PSs X st (tEIZ X G c A0 He x g)
theorem WP {X : Cx} {G : Gx} {c : Str} : PSIZ X G c [] nilZ := fun A0 He x pins s σ H D I ⟨ρ, ε, r, ⟨A, o⟩, e, k, _⟩ => by
 cases e
 obtain ⟨H', I', q1, q2⟩ := o.whole I
 exact Lr pins s σ H' D I' (k _ rfl σ H' q1 q2)
theorem Ci {X : Cx} {G : Gx} {c : Str} {st : Stmt} {rest : List Stmt} {g gs : FEz} (h1 : PSEZ X G c st g) (h2 : PSIZ X G c rest gs) : PSIZ X G c (st :: rest) (seqZ g gs) := fun A0 He x pins s σ H D I ⟨ρ, ε, o, ok, e, k, kx⟩ => by
 refine Fq (@h1 A0 He x) (@h2 A0 He x) pins s σ H D I ?_
 unfold seqZ G4 at e
 cases e1 : g ρ ε with
 | none => simp [e1] at e
 | some q =>
  simp only [e1, Option.bind_some] at e
  refine ⟨ρ, ε, q, ok, e1, fun r hr σ' H' o' => ?_, fun r hr => ?_⟩
  ·subst hr
   exact ⟨r.1, r.2, o, o', e, k, kx⟩
  ·subst hr
   cases e
   exact kx r rfl
def spIZ (G : Gx) (c : Str) (g : Addr → List D → Option (Sum Ef D)) : Sp := fun vs H Q E => ∃ A x vs' ds o C dx, vs = .ref x :: vs' ∧ (∀ a ∈ A, Nt (H a)) ∧ x ∉ A ∧ H x = some (.ins C dx []) ∧ G.cl c = some C ∧ RepL G (hid (x :: A) H) vs' ds ∧ g x ds = some o ∧
 (∀ ε, o = .inl ε → ∀ H', JB x H H' → Rep G (hid A H') (.ref x) (finE c ε) → Q .non H') ∧ ∀ d, o = .inr d → XW G (hid [x] H) d E
theorem Yg {P : Program} {w : World} {G : Gx} {mg : Str → Option Value} {base : Heap} {N : List Str} {qual : Str} {scope : Scope} {f : Addr} {cd : Value} {A : Around} {outer : List Env} {s : Shared} {H He : Hp} {E : XK} {A0 : List Addr} {d : D} {ρ : Rho} (h : XW G He d E) :
  RzO (cxOf (CX1 P w) P w G.K mg base N qual scope f cd A outer s H E) G A0 He d ρ := fun c gs z pins σ H1 H2 s2 e tb I ⟨A1, ok⟩ x => by
 show wpAny _ _ (leaving _ _) _ _ _
 unfold leaving
 refine wpAny_bind (Ka (X := cxOf (CX1 P w) P w G.K mg base N qual scope f cd A outer s H E) rfl rfl I (x.base ok.same) fun T H' s' I' x' => ?_)
 exact ⟨e, H', rfl, I'.os, I'.bare, I'.base, I'.hok, h c gs z e T H' x'⟩
theorem cX {P : Program} {w : World} {G : Gx} {mg : Str → Option Value} {base : Heap} {x qual c : Str} {st : Stmt} {f : Addr} {fd : FuncData} {N ps : List Str} {k : Nat} {b : FEz} (F : Fun G.K x qual st f fd) (S : FnScope N ps (Ab st)) (hl : ps.length ≤ N.length)
  (hb : ∀ (cdv : Value) (A : Around) (outer : List Env) (s : Shared) (H : Hp) (E : XK), Room k (A.deeper (envOfC qual (Ab st) s.heap.objs.size f cdv)) → PSIZ (cxOf (CX1 P w) P w G.K mg base N qual (Ab st) f cdv A outer s H E) G c (BV st) b) :
  FnOk P w G.K mg base (CX1 P w) (k + 1) f fd ps (spIZ G c (Px N.length ps.length b)) := by
 obtain ⟨oc, od, kV, doc, pm, an, cdv, ct, osl, rfl, lk, hcd⟩ := F.ex
 refine RB lk hcd S (fun vs H Q E h => ?_) (fun A outer s H vs Q E hr h => ?_)
 ·obtain ⟨A, x, vs', ds, o, C, dx, rfl, lv, hx, hH, hc, r, e, _⟩ := h
  unfold Px at e
  split at e
  ·rename_i hz; rw [List.length_cons, r.1]; exact hz
  ·cases e
 ·obtain ⟨A1, x, vs', ds, o, C, dx, rfl, lv, hx, hH, hc, r, e, k, kx⟩ := h
  unfold Px at e
  split at e
  ·rename_i hz
   have lv' : ∀ a ∈ x :: A1, Nt (H a) := fun a ha => by
    rcases List.mem_cons.mp ha with z | z
    ·rw [z, hH]; exact Nt.ins
    ·exact lv a z
   have r' : RepL G (hid (x :: A1) H) (.ref x :: vs') (.adr x :: ds) := .cons (.adr x) r
   obtain ⟨B, w⟩ := Hm (N := N) lv' r' (by rw [List.length_cons, r.1]; omega)
   cases e1 : b (Ny N.length x ds) [] with
   | none => simp [e1] at e
   | some q =>
    simp only [e1, Option.map_some] at e
    cases e
    have hzz := hb cdv A outer s H E hr
    refine ⟨_, @hzz A1 (hid [x] H) x, Ny N.length x ds, [], q, ?_, e1, fun u hu σ' H' s' rv => ?_, fun u hu => ?_⟩
    ·refine ⟨B, ⟨Al, fun a ha => w.sub a (List.mem_cons_of_mem _ ha), fun a ha => ?_, fun a ha => ?_, w.ok, fun i d a h _ => absurd h (Bg (HF _ _) i d), fun y d _ h => absurd h (Bg (HF _ _) 0 d)⟩, HF _ _, w.sub x List.mem_cons_self, hx, rfl, C, dx, [], [], hH, hc, .nil⟩
     ·rcases w.fr a ha with z | z
      ·rcases List.mem_cons.mp z with z | z
       ·right; unfold hid; rw [if_pos (by simp [z])]
       ·exact .inl z
      ·right; unfold hid; split
       ·rfl
       ·exact z
     ·rw [Bb (fun z => hx (by simp at z; rw [← z]; exact ha))]
      exact (lv a ha).ne
    ·subst hu
     exact k _ rfl H' (fun b o hb ho => s' b o (by rw [Bb (by simpa using hb)]; exact ho)) rv
    ·subst hu
     exact Yg (kx _ rfl)
  ·cases e
section
variable {X : Cx} {k : Nat} {f C : Addr} {fd : FuncData} {ps : List Str} {sp : Sp} {x m : Str} {p pos apos : Pos} {e o : Expr} {es : List Expr} {ta : TE} {t : TA}
theorem UV {pins : List (Addr × Obj)} {σ : St} {H : Hp} {s : Shared} {Q : VK} {us : List Value} {vs : List V} (M : Mk X.K C f) (F : FnOk X.prog X.w X.K X.mg X.base (CX1 X.prog X.w) k f fd ps sp) (hr : Room (k + 1) X.A) (hb : Binds X.K fd ps [])
  (I : Inv X pins σ H s) (r : Vals vs us)
  (h : ∀ x dx, H x = none → H dx = none → dx ≠ x → sp (.ref x :: vs) (upd (upd H dx (.own x)) x (.ins C dx [])) (fun v H2 => v = .non ∧ Q (.ref x) H2) (Vy X σ)) :
  wpAny (model X.prog X.w) X.A (call (.ref C) us) (EP X pins σ Q) X.xe s := by
 have hq := h (s.heap.objs.size + 1) s.heap.objs.size (I.hok.fresh (Nat.le_succ _)) (I.hok.fresh (Nat.le_refl _)) (Nat.ne_of_lt (Nat.lt_succ_self _))
 have I2 := Inv.made (C := C) I
 have r2 : Vals (V.ref (s.heap.objs.size + 1) :: vs) (Value.ref (s.heap.objs.size + 1) :: us) := .cons rfl r
 have hl : (Value.ref (s.heap.objs.size + 1) :: us).length = ps.length := by
  have e := r2.length
  rw [F.len _ _ _ _ hq] at e
  exact e.symm
 have hb' := hb _ (Value.ref (s.heap.objs.size + 1) :: us) I2.kIn (by rw [List.append_nil]; exact hl)
 rw [List.append_nil] at hb'
 refine wpAny_call (Uq (f := f) I.kIn M.makes M.init (beq_iff_eq.mp M.fn) (codeAny_mono (F.run _ X.stack _ _ ⟨Value.ref (s.heap.objs.size + 1) :: us, []⟩ (Value.ref (s.heap.objs.size + 1) :: us) _ _ _ (hr.make C us [])
  (I2.env0.make C us []) hb' r2 hq) fun r s' hq' => ?_))
 cases r with
 | error v =>
  obtain ⟨e, H', rfl, q1, q2, q3, q4, q5⟩ := hq'
  exact q5 pins s' (I2.call' q1 q3 q4 q2 fun _ z => nomatch z)
 | ok fl =>
  cases fl with
  | ret u =>
   obtain ⟨v, H', I3, rv, ev, q3⟩ := I2.after hq'
   subst ev
   exact ⟨rv, ⟨V.ref (s.heap.objs.size + 1), H', I3, rfl, q3⟩⟩
  | next => exact False.elim hq'
  | brk => exact False.elim hq'
  | cont => exact False.elim hq'
def bC (X : Cx) (C : Addr) (sp : Sp) (t : TA) : TE := fun σ H Q => t σ H fun vs H1 => ∀ x dx, H1 x = none → H1 dx = none → dx ≠ x → sp (.ref x :: vs) (upd (upd H1 dx (.own x)) x (.ins C dx [])) (fun v H2 => v = .non ∧ Q (.ref x) H2) (Vy X σ)
theorem WQ (M : Mk X.K C f) (F : FnOk X.prog X.w X.K X.mg X.base (CX1 X.prog X.w) k f fd ps sp) (hr : Room (k + 1) X.A) (hg : Gl X x) (hm : X.mg x = some (.ref C)) (hb : Binds X.K fd ps [])
  (ha : PA X (e :: es) t) (hdb : (x == ("__debug__" : Str)) = false := by decide) (he : starEach (e :: es) X.env = (false, eval e X.env) :: starEach es X.env := by rfl) (hpl : (backTo pos (starEach es X.env)).any (·.1) = false := by rfl) :
  PE X (.Call (.Name x p) (e :: es) [] pos) (bC X C sp t) := by
 intro pins s σ H Q I h
 refine wpAny_Call_Name_kw (Gj I hg hm ?_ hdb)
 refine PySem.W.callWith_K (h₀ := X.base) I.ok.mod.kin M.kp (thn (ha pos pins s σ H _ I h) fun us s1 ⟨vs, H1, I1, r, q⟩ => ⟨I1.kIn, ?_⟩) he hpl
 exact UV M F hr hb I1 r q
end
section
variable {X : Cx} {G : Gx} {a b : Expr} {fa fb : FE} {pos p2 p : Pos} {es : List Expr} {fs : FA}
theorem S7 {k : Nat} {f C : Addr} {fd : FuncData} {ps : List Str} {g : Addr → List D → Option (Sum Ef D)} {cn x : Str} (hcl : G.cl cn = some C) (M : Mk X.K C f) (F : FnOk X.prog X.w X.K X.mg X.base (CX1 X.prog X.w) k f fd ps (spIZ G cn g)) (hr : Room (k + 1) X.A) (hg : Gl X x) (hm : X.mg x = some (.ref C)) (hb : Binds X.K fd ps [])
  (ha : PFA X G (a :: es) fs) (hdb : (x == ("__debug__" : Str)) = false := by decide) (he : starEach (a :: es) X.env = (false, eval a X.env) :: starEach es X.env := by rfl) (hpl : (backTo pos (starEach es X.env)).any (·.1) = false := by rfl) :
  PFZ X G (.Call (.Name x p) (a :: es) [] pos) (mkIZ cn g fs) := fun A0 He => fun pins s σ H Q I ⟨ρ, d, A, w, e, k, kx⟩ => by
 refine WQ M F hr hg hm hb (@ha A) hdb he hpl pins s σ H Q I ?_
 unfold mkIZ at e
 cases e1 : fs ρ with
 | none => simp [e1] at e
 | some ds =>
  cases e3 : g 0 ds with
  | none => simp [e1, e3] at e
  | some o =>
   simp only [e1, e3, Option.bind_some] at e
   split at e
   ·rename_i hall
    refine ⟨ρ, ds, w.ok, e1, fun vs H1 s1 rv => fun y dx hy hdx hne => ?_⟩
    have sm : Same H1 (upd (upd H1 dx (.own y)) y (.ins C dx [])) := (BJ hdx _).trans (BJ (by rw [Ad (Ne.symm hne)]; exact hy) _)
    have lv1 := (w.ok.mono s1).live
    refine ⟨A, y, vs, ds, o, C, dx, rfl, fun b hb => ?_, fun z => (lv1 y z).ne hy, Ae, hcl, rv.mono (Ih sm hy), hall y, fun ε hε H' sx rv' => ?_, fun d' hd' => ?_⟩
    ·exact (lv1 b hb).mono fun u e => sm _ _ e
    ·subst hε
     cases e
     refine ⟨rfl, k _ H' (fun b u hb => sx b u (fun z => ?_) (sm _ _ (s1 _ _ hb))) rv'⟩
     have := s1 _ _ hb
     rw [z, hy] at this
     cases this
    ·subst hd'
     simp only [] at e
     split at e
     ·cases e
      intro c gs z e' T H' x'
      refine cU (w.mono s1) kx c gs z e' T H' (x'.base fun b u hb => ?_)
      rw [Bb (fun z => by simp at z; rw [z, hy] at hb; cases hb)]
      exact sm _ _ hb
     ·cases e
   ·cases e
end
theorem WR {f : FE} (ρ : Rho) (d : D) (ρ' : Rho) (h : retF f ρ = some (.rt d ρ')) : ρ'[0]? = ρ[0]? := by
 unfold retF at h
 cases e : f ρ with
 | none => simp [e] at h
 | some d =>
  simp only [e, Option.map_some] at h
  cases h; rfl
end PV
namespace PV
section
open PySem PySem.Spec L2
variable {X : Cx} {G : Gx}
theorem Hr : D_ X (.builtin "sorted") (fun xs H Q => ∃ p zs, xs = [.ref p] ∧ SqL X.K H p (zs.map V.str) ∧ zs.Nodup ∧ zs.length ≤ 60 ∧ ∀ l, H l = none → Q (.ref l) (upd H l (.lst ((Bv zs).map V.str)))) := by
 intro pins s σ H xs us Q I r h
 obtain ⟨p, zs, rfl, hs, nd, hz, k⟩ := h
 obtain ⟨u, rfl, ru⟩ := r.one
 cases ru
 obtain ⟨its, rv, pl, hz'⟩ := I.list hs
 have hl := pl.isList
 refine Lh (ks := zs) nd hz (fun R E' hR => PyProof.Rows.collect_list hl (hR _ _ s.toks (Fe rv) (by rw [Heap.size_update, Heap.size_push]; exact Nat.le_succ _) fun b o g => by
  rw [Heap.get?_update_ne _ _ _ _ (Nat.ne_of_lt (Heap.lt_size g))]
  exact Heap.get?_push_of_some _ g) (by rw [← rv.length]; exact hz')) fun its e2 l h' tk hS g le kp => ?_
 have hv := Ii hS
 refine ⟨.ref l, _, I.laid (a := l) (o := .lst ((Bv zs).map V.str)) (t' := tk) kp le ⟨?_, its, e2, hv, g⟩, rfl, k l (I.hok.fresh le)⟩
 rw [List.length_map]
 have := sub_len (O8 (KC zs)) (m := zs) fun y m => (Ib y zs).mp m
 exact Nat.le_trans this (Nat.le_trans hz (by decide))
def slsL (ds : List D) : Option D := (Fj ds).bind fun zs => if zs.Nodup ∧ zs.length ≤ 60 then some (.lst ((Bv zs).map .str)) else none
def slsD : D → Option D
 | .lst ds => slsL ds
 | _ => none
theorem S8 (hG : G.K = X.K) : SndC G (fun xs H Q => ∃ p zs, xs = [.ref p] ∧ SqL X.K H p (zs.map V.str) ∧ zs.Nodup ∧ zs.length ≤ 60 ∧ ∀ l, H l = none → Q (.ref l) (upd H l (.lst ((Bv zs).map V.str)))) slsD := by
 intro A H x dx d Q lv r e k
 cases dx with
 | lst ds =>
  have e : slsL ds = some d := e
  obtain ⟨p, xs, rfl, h1, rr⟩ := r.lst
  unfold slsL at e
  cases ez : Fj ds with
  | none => rw [ez] at e; cases e
  | some zs =>
   rw [ez] at e
   have e' : (if zs.Nodup ∧ zs.length ≤ 60 then some (D.lst ((Bv zs).map .str)) else none) = some d := e
   split at e'
   ·rename_i hz
    cases e'
    have ex := KQ rr ez
    subst ex
    refine ⟨p, zs, rfl, hG ▸ h1, hz.1, hz.2, fun l hl => k _ _ (BJ hl _) (Dc lv hl ⟨by simp, fun i v d h1 h2 => ?_⟩)⟩
    rw [List.getElem?_map] at h1 h2
    cases q : (Bv zs)[i]? with
    | none => rw [q] at h1; cases h1
    | some z => rw [q] at h1 h2; cases h1; cases h2; exact .str z
   ·cases e'
 | _ => cases e
end
open PySem PySem.Spec L2 EX
open PyProof.Rows hiding St
def isoD (c : Str) (b : Bool) : D → Option D
 | .ob c' _ => if c' = c then some (.bl b) else none
 | _ => none
def isTD : D → Option D
 | .bl b => some (.bl b)
 | _ => none
section
variable {X : Cx} {G : Gx} {a sp k v : Expr} {es : List Expr} {fa fk fv : FE} {pos p : Pos} {cv : List Value} {c : Str} {C : Addr} {b : Bool}
theorem WT (hG : G.K = X.K) (hc : G.cl c = some C) (cl : Cls G.K C) (k2 : XK2 G.K C) (hm : PySem.W.mroIn G.K C (.type "object") = some true) (kt : PySem.W.kitAny G.K (.ref C) cv = some b) : D_ X (.builtin "isinstance") (fun xs H Q => ∃ x v A gs, xs = [x, v] ∧ Rep G (hid A H) x (.ob c gs) ∧ SpecV H v cv ∧ Q (.bl b) H) := by
 rintro pins s σ H xs us Q I r ⟨x, v, A, gs, rfl, rp, sv, q⟩
 cases r with
 | cons rx r =>
  cases r with
  | cons rv r =>
   cases r
   have fin : ∀ tk, EP X pins σ Q (.bool b) { s with toks := tk } := fun tk => ⟨.bl b, H, I.tok _, rfl, q⟩
   cases rp with
   | @ob y dx C' c' fs gs hC h1 l1 r2 =>
    rw [hc] at hC
    cases hC
    obtain rfl := (show _ = Value.ref y from rx)
    obtain ⟨mA, J, _⟩ := Jb I.hok (Al _ _ h1)
    obtain ⟨od, Ia, _⟩ := J.look
    exact Gp I (PySem.W.kitx_own (hG ▸ cl.get "__class__") (hG ▸ cl.hd) (hG ▸ k2.ha) (hG ▸ k2.hn) (hG ▸ k2.htk) (hG ▸ hm)) Ia (hG ▸ kt) (fun z => nomatch z) sv rv fin
theorem bD {x : Str} (hG : G.K = X.K) (hc : G.cl c = some C) (cl : Cls G.K C) (k2 : XK2 G.K C) (hmr : PySem.W.mroIn G.K C (.type "object") = some true) (kt : PySem.W.kitAny G.K (.ref C) cv = some b) (hg : Gl X x) (hm : X.mg x = none) (hv : bootBuiltins x = some (.builtin "isinstance")) (ha : PF X G a fa) (hsp : PE X sp (Pq cv))
  (hn : x ≠ "__name__" := by decide) (hdb : (x == ("__debug__" : Str)) = false := by decide) (he : starEach [a, sp] X.env = (false, eval a X.env) :: starEach [sp] X.env := by rfl) (he2 : starEach [sp] X.env = (false, eval sp X.env) :: starEach [] X.env := by rfl) :
  PF X G (.Call (.Name x p) [a, sp] [] pos) (uF (isoD c b) fa) := fun A => Bp (J2 (WT hG hc cl k2 hmr kt) hg hm hv (Cp (@ha A) (Cp hsp Ft he2) he) hn hdb he (by rw [he2]; rfl)) fun σ H Q ⟨ρ, d, o, e, k⟩ => by
 unfold uF at e
 cases e1 : fa ρ with
 | none => simp [e1] at e
 | some dx =>
  rw [e1] at e
  have e2 : isoD c b dx = some d := e
  unfold isoD at e2
  split at e2
  ·rename_i c' gs
   split at e2
   ·rename_i hcc
    subst hcc
    cases e2
    exact ⟨ρ, _, o, e1, fun v H1 s1 r1 => fun w H2 s2 sv => ⟨v, w, A, gs, rfl, r1.mono (Aw s2), sv, k _ H2 (s1.trans s2) (.bl b)⟩⟩
   ·cases e2
  ·cases e2
def tIsT (ta : TE) : TE := fun σ H Q => ta σ H fun x H1 => ∃ b, x = .bl b ∧ Q (.bl b) H1
theorem bG {ta : TE} {j pos'} (ha : PE X a ta) : PC X .Is a (.Constant (.bool true) j pos') (tIsT ta) := by
 intro pins s σ H Q I h
 refine thn (ha pins s σ H _ I h) fun v s1 ⟨x, H1, I1, r1, b, e, q1⟩ => ?_
 subst e
 obtain rfl := (show v = Value.bool b from r1)
 exact Constant_bool (is_bool ⟨.bl b, H1, I1, by cases b <;> rfl, q1⟩)
theorem WW {j : Nat} {p' : Pos} (ha : PF X G a fa) : PF X G (.Compare a [.Is] [.Constant (.bool true) j p'] pos) (uF isTD fa) := fun A => Bp (Zh (bG (@ha A))) fun σ H Q ⟨ρ, d, o, e, k⟩ => by
 unfold uF at e
 cases e1 : fa ρ with
 | none => simp [e1] at e
 | some dx =>
  rw [e1] at e
  have e2 : isTD dx = some d := e
  unfold isTD at e2
  split at e2
  ·cases e2
   exact ⟨ρ, _, o, e1, fun v H1 s1 r1 => by cases r1; exact ⟨_, rfl, k _ H1 s1 (.bl _)⟩⟩
  ·cases e2
def JG (fk fv : FE) : FE := fun ρ => (fk ρ).bind fun k => (fv ρ).bind fun v => (keyD k).map fun q => .dk [(q, v)]
theorem S9 (hk : PF X G k fk) (hv : PF X G v fv) : PN X G (.Dict [some k] [v] pos) (JG fk fv) := fun A =>
 have hk' : PE X k (fun σ H Q => ∃ B, tF G B fk σ H Q) := fun pins s σ H Q I ⟨B, q⟩ => @hk B pins s σ H Q I q
 have hv' : PE X v (fun σ H Q => ∃ B, tF G B fv σ H Q) := fun pins s σ H Q I ⟨B, q⟩ => @hv B pins s σ H Q I q
 Bp (Xe (U4 hk' hv' Xd) rfl rfl (by simp) (by simp)) fun σ H Q ⟨ρ, d, o, e, k⟩ => by
 unfold JG at e
 cases e1 : fk ρ with
 | none => simp [e1] at e
 | some kd =>
  cases e2 : fv ρ with
  | none => simp [e1, e2] at e
  | some vd =>
   cases e3 : keyD kd with
   | none => simp [e1, e2, e3] at e
   | some q =>
    simp only [e1, e2, e3, Option.bind_some, Option.map_some] at e
    cases e
    intro p hp
    have s0 : Same H (upd H p (.dK [])) := BJ hp _
    have o0 : Okp G (p :: A) σ (upd H p (.dK [])) ρ := o.fill s0 hp (by rw [Ae]; exact Nt.dK)
    refine ⟨p :: A, ρ, kd, o0, e1, fun u H1 s1 r1 => ⟨p :: A, ρ, vd, o0.mono s1, e2, fun w H2 s2 r2 => ?_⟩⟩
    have ek := Er r1 e3
    subst ek
    have hp2 : H2 p = some (.dK []) := s2 _ _ (s1 _ _ Ae)
    refine ⟨hp2, [(q, w)], rfl, by simp, k p _ (fun b u hb => ?_) hp ⟨[(q, w)], Ae, rfl, ?_⟩⟩
    ·rw [Ad (fun z => by rw [z, hp] at hb; cases hb)]
     exact s2 _ _ (s1 _ _ (s0 _ _ hb))
    ·rw [Ca (List.mem_cons_self ..)]
     exact .cons r2 .nil
end
section
variable {X : Cx} {G : Gx} {a ob : Expr} {es : List Expr} {fs : FA} {fo : FE} {pos p apos : Pos}
theorem mA {k k' : Nat} {C : Addr} {c m qual : Str} {st : Stmt} {ps : List Str} {d : Mx X.K C m qual st ps} {g : List D → Option D} {pl : Sem Bool} (hc : G.cl c = some C) (cl : Cls X.K C) (F : FnOk X.prog X.w X.K X.mg X.base CX0 k d.f d.fd ps (spD G g)) (hr : Room k' X.A) (ho : PF X G ob fo) (ha : PFA X G (a :: es) fs) (hle : k ≤ k' := by omega)
  (hst : starEach (a :: es) X.env = (false, eval a X.env) :: starEach es X.env := by rfl) (hpl : (backTo pos (starEach es X.env)).any (·.1) = false := by rfl)
  (ht : eval (.Call (.Attribute ob m apos) (a :: es) [] pos) X.env = (do
   let ov ← eval ob X.env
   standAt apos.atName
   let (f, first) ← holding [ov] (getMethod ov m pl)
   callWith pos f first (backTo pos (starEach (a :: es) X.env)) (backToKw pos (keywordEach [] X.env))) := by rfl) :
  PF X G (.Call (.Attribute ob m apos) (a :: es) [] pos) (GQ c m g fo fs) := fun A => Bp (XM (@ho A) cl d.me F (hr.mono hle) d.B .nil U6 (@ha A) hst hpl ht) fun σ H Q ⟨ρ, dd, o, e, k⟩ => by
 unfold GQ at e
 cases e0 : fo ρ with
 | none => simp [e0] at e
 | some oo =>
  rw [e0] at e
  have e' : (if Eb c m oo = true then (fs ρ).bind fun ds => g (oo :: ds) else none) = some dd := e
  split at e'
  ·rename_i hob
   cases e1 : fs ρ with
   | none => simp [e1] at e'
   | some ds =>
    have e2 : g (oo :: ds) = some dd := by simpa [e1] using e'
    refine ⟨ρ, oo, o, e0, fun v H1 s1 r1 => ?_⟩
    cases oo with
    | ob c' gs =>
     simp only [Eb, Bool.and_eq_true, beq_iff_eq, Option.isNone_iff_eq_none] at hob
     obtain ⟨rfl, hn⟩ := hob
     cases r1 with
     | ob hC h1 l1 r2 =>
      rw [hc] at hC
      cases hC
      refine ⟨_, _, _, rfl, Al _ _ h1, Le l1 hn, ρ, ds, o.mono s1, e1, fun vs H2 s2 r3 => ?_⟩
      refine ⟨A, .ob c' gs :: ds, dd, ((o.mono s1).mono s2).live, ?_, e2, fun v H3 s3 r4 => k v H3 ((s1.trans s2).trans s3) r4⟩
      rw [List.append_nil]
      exact .cons (Rep.mono (.ob hc h1 l1 r2) (Aw s2)) r3
    | _ => simp [Eb] at hob
  ·cases e'
theorem bH {K : PySem.W.Frag} {h : Heap} {cn : Str} {C : Addr} {l : List (Str × Addr)} (X : K.In h) (h1 : PySem.W.findIn K (.ref C) "__class__" = some (some (.builtin "object.__class__"))) (h2 : PySem.W.specialIn K (.builtin "object.__class__") "__get__" = some (some (.builtin "getset_descriptor.__get__"))) (h3 : PySem.W.takesIn K (.builtin "object.__class__") = some true) : XK2 (gx2 K cn C l).K C := ⟨h1, h2, h3⟩
theorem bI {K : PySem.W.Frag} {h : Heap} {cn : Str} {C : Addr} {l : List (Str × Addr)} (X : K.In h) (h1 : PySem.W.mroIn K C (.type "object") = some true) : PySem.W.mroIn (gx2 K cn C l).K C (.type "object") = some true := h1
theorem bJ {K : PySem.W.Frag} {h : Heap} {cn : Str} {C : Addr} {l : List (Str × Addr)} (X : K.In h) (h1 : PySem.W.kitAny K (.ref C) [.ref C] = some true) : PySem.W.kitAny (gx2 K cn C l).K (.ref C) [.ref C] = some true := h1
end
end PV
namespace K02
open PySem PySem.Spec L2 PV EX
open PyProof.Rows hiding St
noncomputable section
def c_KEPT_TEXTS : D := (.tup ((["not", "and", "or", "some", "all"] : List Str).map .str))
def CQ : FS := seqF (setF 4 (bF addD (vF 4) (bF ixE (vF 1) (bF modD (vF 3) (kF (.int 26)))))) (setF 3 (bF Gy (vF 3) (kF (.int 26))))
def Cj : FS := seqF (setF 1 (kF (.str "abcdefghijklmnopqrstuvwxyz"))) (seqF (setF 2 (lstF (Aa (kF (.str "not")) (Aa (kF (.str "and")) (Aa (kF (.str "or")) (Aa (kF (.str "some")) (Aa (kF (.str "all")) (nilA)))))))) (seqF (setF 3 (bF Gy (vF 0) (kF (.int 8)))) (seqF (ifS (blF (bF (eqD false) (bF modD (vF 0) (kF (.int 8))) (kF (.int 0)))) (seqF (setF 4 (bF ixE (vF 2) (bF modD (vF 3) (kF (.int 5))))) (retF (bF ixE (lstF (Aa (vF 4) (Aa (bF addD (vF 4) (kF (.str "s"))) (Aa (slF (vF 4) (someO (kF (.int 1))) (noO)) (Aa (vF 4) (nilA)))))) (bF modD (bF Gy (vF 3) (kF (.int 5))) (kF (.int 4)))))) (nxF)) (seqF (setF 4 (kF (.str ""))) (seqF (setF 5 (bF modD (vF 3) (kF (.int 11)))) (seqF (setF 3 (bF Gy (vF 3) (kF (.int 11)))) (seqF (forS (rngI (vF 5)) (Dg 6) (CQ)) (seqF (ifS (andT (blF (bF (eqD false) (bF modD (vF 0) (kF (.int 3))) (kF (.int 0)))) (blF (bF (eqD true) (vF 4) (kF (.str ""))))) (seqF (setF 7 (kF (.str " !\"#$&'()*+,-./0123456789:;<=>?@ABCDEFGHIJKLMNOPQRSTUVWXYZ[\\]^_`{|}~"))) (seqF (setF 8 (bF modD (vF 3) (uF lenE (vF 4)))) (seqF (setF 9 (bF ixE (vF 7) (bF modD (bF Gy (vF 3) (uF lenE (vF 4))) (uF lenE (vF 7))))) (setF 4 (bF addD (bF addD (slF (vF 4) (noO) (someO (vF 8))) (vF 9)) (slF (vF 4) (someO (bF addD (vF 8) (kF (.int 1)))) (noO))))))) (nxF)) (retF (vF 4))))))))))
def By : List D → Option D := runF 10 1 Cj
def Ds : FS := ifS (blF (bF gtD (vF 0) (vF 1))) (badF) (nxF)
def BL : List D → Option D := runF 2 2 Ds
def Cu : FS := ifS (orT (blF (bF ltD (vF 1) (kF (.int 0)))) (blF (bF geD (vF 1) (vF 0)))) (badF) (nxF)
def Aj : List D → Option D := runF 2 2 Cu
def CV : FS := seqF (DX (BR (Aj) (Aa (vF 0) (Aa (vF 3) (nilA))))) (putF 2 (vF 3) (kF (.bl true)))
def Em : FS := seqF (setW 2 (kF (.dk []))) (seqF (forS (seqA (vF 1)) (Dg 3) (CV)) (fzS [2] (retF (vF 2))))
def Bt : List D → Option D := runF 4 2 Em
def Cv : FS := seqF (DX (BR (Aj) (Aa (vF 0) (Aa (vF 3) (nilA))))) (seqF (DX (BR (Aj) (Aa (vF 0) (Aa (vF 4) (nilA))))) (PL 2 (Aa (vF 3) (Aa (vF 4) (nilA))) (kF (.bl true))))
def Fg : FS := seqF (setW 2 (kF (.dt []))) (seqF (forS (seqA (vF 1)) (tupG 2 (Bq 3 (Bq 4 (nilG)))) (Cv)) (fzS [2] (retF (vF 2))))
def CK : List D → Option D := runF 5 2 Fg
def De : FE := bF (inF false) (vF 1) (kF (.str "abcdefghijklmnopqrstuvwxyz"))
def Do : FS := seqF (ifS (orT (blF (bF (inF false) (vF 0) (kF c_KEPT_TEXTS))) (orT (blF (bF (eqD false) (uF lenE (vF 0)) (kF (.int 0)))) (blF (bF gtD (uF lenE (vF 0)) (kF (.int 8)))))) (retF (kF (.bl false))) (nxF)) (retF (uF allD (J8 (seqA (vF 0)) (allT) (De))))
def BP : List D → Option D := runF 1 1 Do
def Ao : FEz := seqZ (ifEZ (GK (notT (trF (BR (BP) (Aa (vF 4) (nilA)))))) (retF (excF "NoWord" "word" okSD (vF 4)))) (Fo (JD "marked" (vF 4) (BR (Bt) (Aa (vF 1) (Aa (vF 5) (nilA))))))
def Aq : FEz := seqZ (ifEZ (orTE (GK (notT (trF (BR (BP) (Aa (vF 4) (nilA)))))) (inTE "marked" (vF 4))) (retF (excF "NoWord" "word" okSD (vF 4)))) (Fo (JD "tied" (vF 4) (BR (CK) (Aa (vF 1) (Aa (vF 6) (nilA))))))
def DN : FEz := seqZ (Fo (pureE (DX (BR (BL) (Aa (vF 1) (Aa (kF (.int 5)) (nilA))))))) (seqZ (Fo (pureE (DX (BR (BL) (Aa (uF lenE (vF 2)) (Aa (kF (.int 3)) (nilA))))))) (seqZ (Fo (pureE (DX (BR (BL) (Aa (uF lenE (vF 3)) (Aa (kF (.int 3)) (nilA))))))) (seqZ (Fo (R3 "size" (vF 1))) (seqZ (Fo (JC "marked" (kF (.dk [])))) (seqZ (Fo (JC "tied" (kF (.dk [])))) (seqZ (forZ (FP (vF 2)) (tupG 2 (Bq 4 (Bq 5 (nilG)))) (Ao)) (seqZ (forZ (FP (vF 3)) (tupG 2 (Bq 4 (Bq 6 (nilG)))) (Aq)) (nilZ))))))))
def Ag : Addr → List D → Option (Sum Ef D) := Px 7 4 DN
def DR : FS := putF 2 (vF 3) (lstF (nilA))
def Ck : FS := seqF (setW 2 (kF (.dk []))) (seqF (forS (seqA (vF 0)) (Dg 3) (DR)) (seqF (setF 4 (kF .non)) (seqF (fzS [2] (tryF ["NoWord"] 5 (ifS (trF (vF 1)) (setZ 4 (mkIZ "World" (Ag) (Aa (kF (.int 2)) (Aa (JG (kF (.str "mark")) (lstF (Aa (kF (.int 1)) (nilA)))) (Aa (vF 2) (nilA)))))) (setZ 4 (mkIZ "World" (Ag) (Aa (kF (.int 2)) (Aa (vF 2) (Aa (JG (kF (.str "tie")) (lstF (Aa (tupF (Aa (kF (.int 0)) (Aa (kF (.int 1)) (nilA)))) (nilA)))) (nilA))))))) (setF 4 (vF 5)))) (retF (vF 4)))))
def BZ : List D → Option D := runF 6 2 Ck
def Cd : FS := retF (uF sdkD (uF (fldD "marked") (vF 0)))
def Ar : List D → Option D := runF 1 1 Cd
def Cw : FS := retF (uF sdkD (uF (fldD "tied") (vF 0)))
def Ay : List D → Option D := runF 1 1 Cw
def En : FS := seqF (ifS (blF (bF (inF true) (vF 1) (uF (fldD "tied") (vF 0)))) (retF (excF "NoWord" "word" okSD (vF 1))) (nxF)) (seqF (DX (BR (Aj) (Aa (uF (fldD "size") (vF 0)) (Aa (vF 2) (nilA))))) (seqF (DX (BR (Aj) (Aa (uF (fldD "size") (vF 0)) (Aa (vF 3) (nilA))))) (retF (inTF (Aa (vF 2) (Aa (vF 3) (nilA))) (bF ixE (uF (fldD "tied") (vF 0)) (vF 1))))))
def Bu : List D → Option D := runF 4 4 En
def GX : FS := seqF (ifS (blF (bF (inF true) (vF 1) (uF (fldD "marked") (vF 0)))) (retF (excF "NoWord" "word" okSD (vF 1))) (nxF)) (seqF (DX (BR (Aj) (Aa (uF (fldD "size") (vF 0)) (Aa (vF 2) (nilA))))) (retF (bF (inF false) (vF 2) (bF ixE (uF (fldD "marked") (vF 0)) (vF 1)))))
def Cm : List D → Option D := runF 3 3 GX
def Ec : FS := seqF (setF 2 (BR (BZ) (Aa (vF 0) (Aa (vF 1) (nilA))))) (seqF (ifS (notT (trF (uF (isoD "World" true) (vF 2)))) (retF (kF (.bl false))) (nxF)) (seqF (ifS (trF (vF 1)) (retF (andF (bF (eqD false) (GQ "World" "tie_words" (Ay) (vF 2) nilA) (uF slsD (vF 0))) (andF (bF (eqD false) (GQ "World" "mark_words" (Ar) (vF 2) nilA) (lstF (Aa (kF (.str "mark")) (nilA)))) (uF isTD (GQ "World" "has" (noX (Cm)) (vF 2) (Aa (kF (.str "mark")) (Aa (kF (.int 1)) (nilA)))))))) (nxF)) (retF (andF (bF (eqD false) (GQ "World" "mark_words" (Ar) (vF 2) nilA) (uF slsD (vF 0))) (andF (bF (eqD false) (GQ "World" "tie_words" (Ay) (vF 2) nilA) (lstF (Aa (kF (.str "tie")) (nilA)))) (uF isTD (GQ "World" "leads" (noX (Bu)) (vF 2) (Aa (kF (.str "tie")) (Aa (kF (.int 0)) (Aa (kF (.int 1)) (nilA)))))))))))
def Bh : List D → Option D := runF 3 2 Ec
def Av : FS := ifS (blF (bF (inF true) (vF 1) (kF (.str "abcdefghijklmnopqrstuvwxyz")))) (retF (kF (.bl false))) (nxF)
def Bd : FS := seqF (ifS (orT (blF (bF (inF false) (vF 0) (lstF (Aa (kF (.str "not")) (Aa (kF (.str "and")) (Aa (kF (.str "or")) (Aa (kF (.str "some")) (Aa (kF (.str "all")) (nilA))))))))) (orT (blF (bF (eqD false) (vF 0) (kF (.str "")))) (blF (bF gtD (uF lenE (vF 0)) (kF (.int 8)))))) (retF (kF (.bl false))) (nxF)) (seqF (forS (seqA (vF 0)) (Dg 1) (Av)) (retF (kF (.bl true))))
def Ba : List D → Option D := runF 2 1 Bd
def Dt : FS := seqF (ifS (orT (notT (trF (uF (isxD ["NoWord"] ["NoWord"]) (vF 0)))) (notT (trF (uF (isxD ["NoWord"] ["NoWord"]) (vF 0))))) (retF (kF (.bl false))) (nxF)) (seqF (ifS (trF (uF (isxD ["NoWord"] ["NoName", "NoPointing", "NoSaying", "NoThing", "TooGreat", "Unlike"]) (vF 0))) (retF (kF (.bl false))) (nxF)) (retF (bF (eqD false) (uF (fldE ["NoWord"] "word") (vF 0)) (vF 1))))
def Cy : List D → Option D := runF 2 2 Dt
def CW : FS := seqF (setF 2 (BR (By) (Aa (vF 1) (nilA)))) (seqF (setF 3 (lstF (Aa (vF 2) (Aa (kF (.str "goodone")) (nilA))))) (seqF (ifS (blF (bF (eqD false) (bF modD (bF Gy (vF 1) (kF (.int 4))) (kF (.int 2))) (kF (.int 1)))) (setF 3 (lstF (Aa (kF (.str "goodone")) (Aa (vF 2) (nilA))))) (nxF)) (seqF (setF 4 (bF (eqD false) (bF modD (bF Gy (vF 1) (kF (.int 16))) (kF (.int 2))) (kF (.int 1)))) (seqF (ifS (orT (blF (bF (eqD false) (vF 2) (kF (.str "goodone")))) (orT (andT (blF (bF (eqD false) (vF 2) (kF (.str "mark")))) (trF (vF 4))) (andT (blF (bF (eqD false) (vF 2) (kF (.str "tie")))) (notT (trF (vF 4)))))) (setF 3 (lstF (Aa (kF (.str "goodone")) (nilA)))) (ifS (notT (trF (BR (Ba) (Aa (vF 2) (nilA))))) (seqF (ifS (notT (trF (BR (Cy) (Aa (BR (BZ) (Aa (vF 3) (Aa (vF 4) (nilA)))) (Aa (vF 2) (nilA)))))) (retF (kF (.bl false))) (nxF)) (setF 3 (lstF (Aa (kF (.str "goodone")) (Aa (kF (.str "other")) (nilA)))))) (nxF))) (ifS (notT (trF (BR (Bh) (Aa (vF 3) (Aa (vF 4) (nilA)))))) (retF (kF (.bl false))) (nxF))))))
def WX : FS := seqF (forS (seqA (bF addD (lstF (Aa (kF (.int 0)) (nilA))) (slF (vF 0) (noO) (someO (kF (.int 40)))))) (Dg 1) (CW)) (retF (kF (.bl true)))
def P0 : List D → Option D := runF 5 1 WX
end
end K02
namespace K02
open PySem PySem.Spec L2 PV EX
open PyProof.Rows hiding St
def top (i : Nat) : Stmt := PySem.Challenge.pw_twinrounds_k02_words.main.body.getD i (.Pass ⟨0, 0, 0, 0⟩)
abbrev JH : Stmt := top 22
abbrev GZ : Stmt := top 16
abbrev Ed : Stmt := top 17
abbrev G5 : Stmt := top 18
abbrev Hs : Stmt := top 19
abbrev Ip : Stmt := top 15
abbrev Ke : Stmt := inClass (top 3) 0
abbrev Eu : Stmt := inClass (top 20) 0
abbrev JK : Stmt := top 24
abbrev Du : Stmt := inClass (top 20) 3
abbrev Eg : Stmt := inClass (top 20) 4
abbrev G6 : Stmt := inClass (top 20) 2
abbrev JL : Stmt := inClass (top 20) 1
abbrev JM : Stmt := top 26
abbrev Ga : Stmt := top 23
abbrev Gb : Stmt := top 25
abbrev ZG : Stmt := top 27
structure Tx (G : Gx) (mg : Str → Option Value) where
 C_World : Addr
 gc_World : G.cl "World" = some C_World
 cl_World : Cls G.K C_World
 mC_World : mg "World" = some (.ref C_World)
 x__law_text : Dx G.K mg "_law_text" JH ["_law_cell"]
 x_refuse_above : Dx G.K mg "refuse_above" GZ ["number", "most"]
 x_refuse_no_thing : Dx G.K mg "refuse_no_thing" Ed ["size", "thing"]
 x_kept_things : Dx G.K mg "kept_things" G5 ["size", "things"]
 x_kept_pairs : Dx G.K mg "kept_pairs" Hs ["size", "pairs"]
 x_is_word : Dx G.K mg "is_word" Ip ["text"]
 x_World___init__ : Ix G.K C_World "World.__init__" Eu ["self", "size", "marks", "ties"]
 x__law_made : Dx G.K mg "_law_made" JK ["_law_words", "_law_tied"]
 x_World_mark_words : Mx G.K C_World "mark_words" "World.mark_words" Du ["self"]
 x_World_tie_words : Mx G.K C_World "tie_words" "World.tie_words" Eg ["self"]
 x_World_leads : Mx G.K C_World "leads" "World.leads" G6 ["self", "word", "one", "other"]
 x_World_has : Mx G.K C_World "has" "World.has" JL ["self", "word", "thing"]
 x__law_good : Dx G.K mg "_law_good" JM ["_law_words", "_law_tied"]
 x__law_is_word : Dx G.K mg "_law_is_word" Ga ["_law_word"]
 x__law_refused : Dx G.K mg "_law_refused" Gb ["_law_told", "_law_word"]
 x_law : Dx G.K mg "law" ZG ["_law_script"]
 r : Rx G.K mg "RoundError"
 xt : XT G ["NoWord"] r.R
 e_NoWord : Xx G mg r.R "NoWord" "word" "NoWord.__init__" Ke ["self", "word"]
 a_NoName : Ax mg "NoName"
 a_NoPointing : Ax mg "NoPointing"
 a_NoSaying : Ax mg "NoSaying"
 a_NoThing : Ax mg "NoThing"
 a_TooGreat : Ax mg "TooGreat"
 a_Unlike : Ax mg "Unlike"
 k_0 : Kit G ["NoWord"] [.ref e_NoWord.C] ["NoWord"]
 k_1 : Kit G ["NoWord"] [.type "ValueError"] ["NoWord"]
 k_2 : Kit G ["NoWord"] [.ref a_NoName.a, .ref a_NoPointing.a, .ref a_NoSaying.a, .ref a_NoThing.a, .ref a_TooGreat.a, .ref a_Unlike.a] ["NoName", "NoPointing", "NoSaying", "NoThing", "TooGreat", "Unlike"]
 nf_word : ∀ c C, (["NoWord"] : List Str).contains c = true → G.xcl c = some C → BW G.K C "word"
 k2_World : XK2 G.K C_World
 mo_World : PySem.W.mroIn G.K C_World (.type "object") = some true
 kw_World : PySem.W.kitAny G.K (.ref C_World) [.ref C_World] = some true
 z_ValueError : mg "ValueError" = none
 z_all : mg "all" = none
 z_isinstance : mg "isinstance" = none
 z_len : mg "len" = none
 z_range : mg "range" = none
 z_sorted : mg "sorted" = none
 s_MOST_LETTERS : Sx mg "MOST_LETTERS" (.int 8)
 s_LETTERS : Sx mg "LETTERS" (.str "abcdefghijklmnopqrstuvwxyz")
 s_MOST_THINGS : Sx mg "MOST_THINGS" (.int 5)
 s_MOST_WORDS : Sx mg "MOST_WORDS" (.int 3)
 fl_size : ∀ c C, G.cl c = some C → Cls G.K C ∧ BW G.K C "size"
 fl_marked : ∀ c C, G.cl c = some C → Cls G.K C ∧ BW G.K C "marked"
 fl_tied : ∀ c C, G.cl c = some C → Cls G.K C ∧ BW G.K C "tied"
 c_KEPT_TEXTS : Kx G mg "KEPT_TEXTS" K02.c_KEPT_TEXTS
section
variable {P : Program} {w : World} {G : Gx} {mg : Str → Option Value} {base : Heap}
abbrev JN : List Str := ["_law_cell", "_law_letters", "_law_kept", "_law_number", "_law_word", "_law_long", "_law_k", "_law_some", "_law_at", "_law_strange"]
theorem Am : FnScope JN ["_law_cell"] (Ab JH) := ⟨rfl, rfl, rfl, by decide +kernel, rfl, by decide +kernel, by decide +kernel⟩
theorem Oa (T : Tx G mg) : DOk P w base T.x__law_text 1 (spD G By) :=
 fnX (k := 0) (N := JN) (b := Cj) T.x__law_text Am fun _ _ _ _ _ _ hr => Af (sF Am.nd 1 (HB)) (Af (sF Am.nd 2 (DG (iS (iS (iS (iS (iS (Ah)))))))) (Af (sF Am.nd 3 (bDiv (vp 0) (iP))) (Af (CP (tEq hr (pU (bMod (vp 0) (iP))) (iP)) (Af (sF Am.nd 4 (iX hr (vp 2) (pU (bMod (vp 3) (iP))))) (Ak (BK (iX hr (pU (DG (Ac (vr 4) (Ac (bAdd (vp 4) (sP)) (Ac (Hl rfl (vp 4) (Hk (iP)) (Hj)) (Ac (vr 4) (Ah) Ai) OD) WK) Ai))) (pU (bMod (pU (bDiv (vp 3) (iP))) (iP))))))) (Bm)) (Af (sF Am.nd 4 (HB)) (Af (sF Am.nd 5 (bMod (vp 3) (iP))) (Af (sF Am.nd 3 (bDiv (vp 3) (iP))) (Af (Gk PassesOwn.never rfl (Xy rfl T.z_range (vp 5)) (GD (gN Am.nd 6)) (Af (sF Am.nd 4 (bAdd (vp 4) (pU (iX hr (vp 1) (pU (bMod (vp 3) (iP))))))) (Ak (sF Am.nd 3 (bDiv (vp 3) (iP)))))) (Af (CP (PFW.pt (Nh (tEq hr (pU (bMod (vp 0) (iP))) (iP)) (HD (tNe hr (vp 4) (sP))))) (Af (sF Am.nd 7 (HB)) (Af (sF Am.nd 8 (bMod (vp 3) (pU (Bo ((Ce rfl).or Bx) Dd rfl T.z_len GF (vp 4))))) (Af (sF Am.nd 9 (iX hr (vp 7) (pU (bMod (pU (bDiv (vp 3) (pU (Bo ((Ce rfl).or Bx) Dd rfl T.z_len GF (vp 4))))) (pU (Bo ((Ce rfl).or Bx) Dd rfl T.z_len GF (vp 7))))))) (Ak (sF Am.nd 4 (bAdd (pU (bAdd (pU (Hl rfl (vp 4) (Hj) (Hk (vp 8)))) (vp 9))) (pU (Hl rfl (vp 4) (Hk (pU (bAdd (vp 8) (iP)))) (Hj))))))))) (Bm)) (Ak (BK (vr 4)))))))))))
abbrev Gd : List Str := ["number", "most"]
theorem JV : FnScope Gd ["number", "most"] (Ab GZ) := ⟨rfl, rfl, rfl, by decide +kernel, rfl, by decide +kernel, by decide +kernel⟩
theorem Df (T : Tx G mg) : DOk P w base T.x_refuse_above 1 (spD G BL) :=
 fnX (k := 0) (N := Gd) (b := Ds) T.x_refuse_above JV fun _ _ _ _ _ _ hr => Ak (CP (tGt (vp 0) (vp 1)) (Ak (LC)) (Bm))
abbrev Eh : List Str := ["size", "thing"]
theorem HJ : FnScope Eh ["size", "thing"] (Ab Ed) := ⟨rfl, rfl, rfl, by decide +kernel, rfl, by decide +kernel, by decide +kernel⟩
theorem BX (T : Tx G mg) : DOk P w base T.x_refuse_no_thing 1 (spD G Aj) :=
 fnX (k := 0) (N := Eh) (b := Cu) T.x_refuse_no_thing HJ fun _ _ _ _ _ _ hr => Ak (CP (PFW.pt (GC (tLt (vp 1) (iP)) (Eo (tGe (vp 1) (vp 0))))) (Ak (LC)) (Bm))
abbrev G7 : List Str := ["size", "things", "kept", "thing"]
theorem Dv : FnScope G7 ["size", "things"] (Ab G5) := ⟨rfl, rfl, rfl, by decide +kernel, rfl, by decide +kernel, by decide +kernel⟩
theorem Kf (T : Tx G mg) : DOk P w base T.x_kept_things 2 (spD G Bt) :=
 fnX (k := 1) (N := G7) (b := Em) T.x_kept_things Dv fun _ _ _ _ _ _ hr => Af (sW Dv.nd 2 (Rv)) (Af (Gk PassesOwn.never rfl (Es rfl (vr 1)) (GD (gN Dv.nd 3)) (Af (Cr (fX (BX T) hr (Ac (vr 0) (Ac (vr 3) (Ah) Ai) Ai))) (Ak (Rw (Fx hr) (pv 2) (vr 3) (Fl))))) (Ak (Qk [2] (BK (vr 2)))))
abbrev Ht : List Str := ["size", "pairs", "kept", "one", "other"]
theorem DW : FnScope Ht ["size", "pairs"] (Ab Hs) := ⟨rfl, rfl, rfl, by decide +kernel, rfl, by decide +kernel, by decide +kernel⟩
theorem Kv (T : Tx G mg) : DOk P w base T.x_kept_pairs 2 (spD G CK) :=
 fnX (k := 1) (N := Ht) (b := Fg) T.x_kept_pairs DW fun _ _ _ _ _ _ hr => Af (sW DW.nd 2 (cM)) (Af (Gk PassesOwn.never rfl (Es rfl (vr 1)) (Nv rfl rfl (Dn (gN DW.nd 3) (Dn (gN DW.nd 4) (KR)))) (Af (Cr (fX (BX T) hr (Ac (vr 0) (Ac (vr 3) (Ah) Ai) Ai))) (Af (Cr (fX (BX T) hr (Ac (vr 0) (Ac (vr 4) (Ah) Ai) Ai))) (Ak (Vn (Fx hr) (pv 2) (Ac (vr 3) (Ac (vr 4) (Ah) Ai) Ai) (Fl)))))) (Ak (Qk [2] (BK (vr 2)))))
abbrev Ew : List Str := ["text"]
theorem Qv : FnScope Ew ["text"] (Ab Ip) := ⟨rfl, rfl, rfl, by decide +kernel, rfl, by decide +kernel, by decide +kernel⟩
theorem Kg (T : Tx G mg) : DOk P w base T.x_is_word 1 (spD G BP) :=
 fnX (k := 0) (N := Ew) (b := Do) T.x_is_word Qv fun _ _ _ _ _ _ hr => Af (CP (PFW.pt (GC (tIn hr (vp 0) (pU (Ek (Dz (v := .ref T.c_KEPT_TEXTS.a) rfl T.c_KEPT_TEXTS.m rfl) T.c_KEPT_TEXTS.r))) (GC (tEq hr (pU (Bo ((Ce rfl).or Bx) Dd rfl T.z_len GF (vp 0))) (iP)) (Eo (tGt (pU (Bo ((Ce rfl).or Bx) Dd rfl T.z_len GF (vp 0))) (pU (Ek (Dz (v := (.int 8)) rfl T.s_MOST_LETTERS.m ⟨_, rfl⟩) (.int _)))))))) (Ak (BK (Fl))) (Bm)) (Ak (BK (Bo (T8 rfl) YC rfl T.z_all aR (pU (X4 (nT Ew "letter") (by show DY "letter" Ew ++ (["letter"] : List Str) = _; decide +kernel) (cO (N := Ew) (sc := Ab Ip) rfl rfl) rfl (PFI.top (Es rfl (vr 0))) (fun _ _ _ => Vf) (fun _ _ _ => cIn hr (vp 1) (pU (Ek (Dz (v := (.str "abcdefghijklmnopqrstuvwxyz")) rfl T.s_LETTERS.m ⟨_, rfl⟩) (.str _)))))))))
abbrev Qw : List Str := ["self", "word"]
theorem P_ : FnScope Qw ["self", "word"] (Ab Ke) := ⟨rfl, rfl, rfl, by decide +kernel, rfl, by decide +kernel, by decide +kernel⟩
theorem Gq (T : Tx G mg) : FnOk P w G.K mg base CX0 1 T.e_NoWord.fi T.e_NoWord.fd ["self", "word"] (spE G.K "word" okS) :=
 T.e_NoWord.F.ok P_ (fun vs H Q E h => YT h) fun cdv A outer s H vs Q E hr h => ⟨_, Fq (Q3 (V3 rfl T.r.m T.r.h1 T.r.h2 T.r.h3 (Cp (pv 0) (Cp (V2 (YQ (pv 1)) aj) Ft)))) (Ja (YS (pv 0) (pv 1) rfl)), T_ h rfl ak⟩
abbrev Ex : List Str := ["self", "size", "marks", "ties", "word", "things", "pairs"]
theorem Bj : FnScope Ex ["self", "size", "marks", "ties"] (Ab Eu) := ⟨rfl, rfl, rfl, by decide +kernel, rfl, by decide +kernel, by decide +kernel⟩
theorem Ei (T : Tx G mg) : FnOk P w G.K mg base (CX1 P w) 3 T.x_World___init__.f T.x_World___init__.fd ["self", "size", "marks", "ties"] (spIZ G "World" Ag) :=
 cX (c := "World") (k := 2) (N := Ex) (b := DN) T.x_World___init__.F Bj (by decide) fun cdv A outer s H E hr => Ci (PSE.z (KY (Cr (fX (Df T) hr (Ac (vr 1) (Ac (Ek (Dz (v := (.int 5)) rfl T.s_MOST_THINGS.m ⟨_, rfl⟩) (.int _)) (Ah) Ai) Ai))) Nz)) (Ci (PSE.z (KY (Cr (fX (Df T) hr (Ac (Bo ((Ce rfl).or Bx) Dd rfl T.z_len GF (vp 2)) (Ac (Ek (Dz (v := (.int 3)) rfl T.s_MOST_WORDS.m ⟨_, rfl⟩) (.int _)) (Ah) Ai) OJ))) Nz)) (Ci (PSE.z (KY (Cr (fX (Df T) hr (Ac (Bo ((Ce rfl).or Bx) Dd rfl T.z_len GF (vp 3)) (Ac (Ek (Dz (v := (.int 3)) rfl T.s_MOST_WORDS.m ⟨_, rfl⟩) (.int _)) (Ah) Ai) OJ))) Nz)) (Ci (PSE.z (Vq T.fl_size (pv 0) (vr 1))) (Ci (PSE.z (Pg T.fl_marked (pv 0) Rv)) (Ci (PSE.z (Pg T.fl_tied (pv 0) Rv)) (Ci (Pz PassesOwn.leaving rfl (LR (top := false) (vr 2)) (Nv rfl rfl (Dn (gN Bj.nd 4) (Dn (gN Bj.nd 5) (KR)))) (Vs (Js (by decide) (Js (by decide) (Vr)))) (Li (S6 (Pb (Dk (CJ (pU (fX (Kg T) hr (Ac (vr 4) (Ah) Ai))) rfl))) (Dm (rZ (x := T.e_NoWord) (Gq T) hr Ju (vr 4))) WR) (Py (PSE.z (Ph (Fx hr) T.fl_marked (pv 0) (vr 4) (fX (Kf T) hr (Ac (vr 1) (Ac (vr 5) (Ah) Ai) Ai))))))) (Ci (Pz PassesOwn.leaving rfl (LR (top := false) (vr 3)) (Nv rfl rfl (Dn (gN Bj.nd 4) (Dn (gN Bj.nd 6) (KR)))) (Vs (Js (by decide) (Js (by decide) (Vr)))) (Li (S6 (PWE.pt (aU (Pb (Dk (CJ (pU (fX (Kg T) hr (Ac (vr 4) (Ah) Ai))) rfl))) (YD (aV (Fx hr) T.fl_marked (pv 0) (vr 4))))) (Dm (rZ (x := T.e_NoWord) (Gq T) hr Ju (vr 4))) WR) (Py (PSE.z (Ph (Fx hr) T.fl_tied (pv 0) (vr 4) (fX (Kv T) hr (Ac (vr 1) (Ac (vr 6) (Ah) Ai) Ai))))))) (WP))))))))
abbrev JP : List Str := ["_law_words", "_law_tied", "_law_rows", "_law_word", "_law_told", "e"]
theorem Bk : FnScope JP ["_law_words", "_law_tied"] (Ab JK) := ⟨rfl, rfl, rfl, by decide +kernel, rfl, by decide +kernel, by decide +kernel⟩
theorem Hu (T : Tx G mg) : DOk P w base T.x__law_made 5 (spD G BZ) :=
 fnX (k := 4) (N := JP) (b := Ck) T.x__law_made Bk fun _ _ _ _ _ _ hr => Af (sW Bk.nd 2 (Rv)) (Af (Gk PassesOwn.never rfl (Es rfl (vr 0)) (GD (gN Bk.nd 3)) (Ak (Rw (Fx hr) (pv 2) (vr 3) (DG (Ah))))) (Af (sF Bk.nd 4 (Z8)) (Af (Qk [2] (YX (cs := ["NoWord"]) (i := 5) rfl rfl Bk.nd rfl rfl rfl T.r.m T.r.x (Ye T.xt) (fun _ _ => Dm (Qq (CJ (vp 1) rfl) (Dm (sZ Bk.nd 4 (S7 T.gc_World T.x_World___init__.mM (Ei T) (hr.mono (by omega)) rfl T.mC_World T.x_World___init__.B (iI (Ac (PN.pf (S9 (HB) (DG (iI (Ah))))) (Ac (vr 2) (Ah) Ai) Sy))))) (Dm (sZ Bk.nd 4 (S7 T.gc_World T.x_World___init__.mM (Ei T) (hr.mono (by omega)) rfl T.mC_World T.x_World___init__.B (iI (Ac (vr 2) (Ac (PN.pf (S9 (HB) (DG (Ac (aB (iI (iI (Ah)))) (Ah) WL)))) (Ah) Sy) Ai))))))) (fun _ => Ak (sF Bk.nd 4 (vr 5))))) (Ak (BK (vr 4))))))
abbrev Dw : List Str := ["self"]
theorem Gs : FnScope Dw ["self"] (Ab Du) := ⟨rfl, rfl, rfl, by decide +kernel, rfl, by decide +kernel, by decide +kernel⟩
theorem Di (T : Tx G mg) : FnOk P w G.K mg base CX0 1 T.x_World_mark_words.f T.x_World_mark_words.fd ["self"] (spD G Ar) :=
 fn_D (k := 0) (N := Dw) (b := Cd) T.x_World_mark_words.F Gs (by decide) fun _ _ _ _ _ _ hr => Ak (BK (Bo (G3 rfl) Sw rfl T.z_sorted Gm (pU (FQ T.fl_marked (vp 0)))))
abbrev Ej : List Str := ["self"]
theorem HN : FnScope Ej ["self"] (Ab Eg) := ⟨rfl, rfl, rfl, by decide +kernel, rfl, by decide +kernel, by decide +kernel⟩
theorem Dy (T : Tx G mg) : FnOk P w G.K mg base CX0 1 T.x_World_tie_words.f T.x_World_tie_words.fd ["self"] (spD G Ay) :=
 fn_D (k := 0) (N := Ej) (b := Cw) T.x_World_tie_words.F HN (by decide) fun _ _ _ _ _ _ hr => Ak (BK (Bo (G3 rfl) Sw rfl T.z_sorted Gm (pU (FQ T.fl_tied (vp 0)))))
abbrev G8 : List Str := ["self", "word", "one", "other"]
theorem Kh : FnScope G8 ["self", "word", "one", "other"] (Ab G6) := ⟨rfl, rfl, rfl, by decide +kernel, rfl, by decide +kernel, by decide +kernel⟩
theorem Kl (T : Tx G mg) : FnOk P w G.K mg base (CX1 P w) 3 T.x_World_leads.f T.x_World_leads.fd ["self", "word", "one", "other"] (spZ G Bu) :=
 fn_Z (k := 2) (N := G8) (b := En) T.x_World_leads.F Kh (by decide) fun _ _ _ _ _ _ hr => GP (Qq (tNi hr (vp 1) (pU (FQ T.fl_tied (vp 0)))) (Dm (rZ (x := T.e_NoWord) (Gq T) hr Ju (vr 1))) (Sh)) (GP (PSD.x (Cr (fX (BX T) hr (Ac (FQ T.fl_size (vp 0)) (Ac (vr 2) (Ah) Ai) Ff)))) (GP (PSD.x (Cr (fX (BX T) hr (Ac (FQ T.fl_size (vp 0)) (Ac (vr 3) (Ah) Ai) Ff)))) (Dm (PSD.x (BK (bA hr (Ac (vr 2) (Ac (vr 3) (Ah) Ai) Ai) (pU (iX hr (pU (FQ T.fl_tied (vp 0))) (vp 1)))))))))
abbrev JQ : List Str := ["self", "word", "thing"]
theorem Ob : FnScope JQ ["self", "word", "thing"] (Ab JL) := ⟨rfl, rfl, rfl, by decide +kernel, rfl, by decide +kernel, by decide +kernel⟩
theorem Oc (T : Tx G mg) : FnOk P w G.K mg base (CX1 P w) 3 T.x_World_has.f T.x_World_has.fd ["self", "word", "thing"] (spZ G Cm) :=
 fn_Z (k := 2) (N := JQ) (b := GX) T.x_World_has.F Ob (by decide) fun _ _ _ _ _ _ hr => GP (Qq (tNi hr (vp 1) (pU (FQ T.fl_marked (vp 0)))) (Dm (rZ (x := T.e_NoWord) (Gq T) hr Ju (vr 1))) (Sh)) (GP (PSD.x (Cr (fX (BX T) hr (Ac (FQ T.fl_size (vp 0)) (Ac (vr 2) (Ah) Ai) Ff)))) (Dm (PSD.x (BK (cIn hr (vp 2) (pU (iX hr (pU (FQ T.fl_marked (vp 0))) (vp 1))))))))
abbrev JR : List Str := ["_law_words", "_law_tied", "_law_told"]
theorem Hv : FnScope JR ["_law_words", "_law_tied"] (Ab JM) := ⟨rfl, rfl, rfl, by decide +kernel, rfl, by decide +kernel, by decide +kernel⟩
theorem Od (T : Tx G mg) : DOk P w base T.x__law_good 6 (spD G Bh) :=
 fnX (k := 5) (N := JR) (b := Ec) T.x__law_good Hv fun _ _ _ _ _ _ hr => Af (sF Hv.nd 2 (fX (Hu T) hr (Ac (vr 0) (Ac (vr 1) (Ah) Ai) Ai))) (Af (CP (Dk (CJ (pU (bD rfl T.gc_World T.cl_World T.k2_World T.mo_World T.kw_World rfl T.z_isinstance DQ (vr 2) (Lg rfl T.mC_World))) rfl)) (Ak (BK (Fl))) (Bm)) (Af (CP (CJ (vp 1) rfl) (Ak (BK (Ng (cEq hr (pU (mO T.gc_World T.cl_World (Dy T) hr (vr 2))) (pU (Bo Hr (S8 rfl) rfl T.z_sorted Gm (vp 0)))) (Ng (cEq hr (pU (mO T.gc_World T.cl_World (Di T) hr (vr 2))) (pU (DG (iS (Ah))))) (Va (WW (mA T.gc_World T.cl_World (ZF (Oc T)) hr (vr 2) (iS (iI (Ah)))))))))) (Bm)) (Ak (BK (Ng (cEq hr (pU (mO T.gc_World T.cl_World (Di T) hr (vr 2))) (pU (Bo Hr (S8 rfl) rfl T.z_sorted Gm (vp 0)))) (Ng (cEq hr (pU (mO T.gc_World T.cl_World (Dy T) hr (vr 2))) (pU (DG (iS (Ah))))) (Va (WW (mA T.gc_World T.cl_World (ZF (Kl T)) hr (vr 2) (iS (iI (iI (Ah)))))))))))))
abbrev Ge : List Str := ["_law_word", "_law_sign"]
theorem Fp : FnScope Ge ["_law_word"] (Ab Ga) := ⟨rfl, rfl, rfl, by decide +kernel, rfl, by decide +kernel, by decide +kernel⟩
theorem JW (T : Tx G mg) : DOk P w base T.x__law_is_word 1 (spD G Ba) :=
 fnX (k := 0) (N := Ge) (b := Bd) T.x__law_is_word Fp fun _ _ _ _ _ _ hr => Af (CP (PFW.pt (GC (tIn hr (vp 0) (pU (DG (iS (iS (iS (iS (iS (Ah))))))))) (GC (tEq hr (vp 0) (sP)) (Eo (tGt (pU (Bo ((Ce rfl).or Bx) Dd rfl T.z_len GF (vp 0))) (iP)))))) (Ak (BK (Fl))) (Bm)) (Af (Gk PassesOwn.never rfl (Es rfl (vr 0)) (GD (gN Fp.nd 1)) (Ak (CP (tNi hr (vp 1) (sP)) (Ak (BK (Fl))) (Bm)))) (Ak (BK (Fl))))
abbrev Gf : List Str := ["_law_told", "_law_word"]
theorem JX : FnScope Gf ["_law_told", "_law_word"] (Ab Gb) := ⟨rfl, rfl, rfl, by decide +kernel, rfl, by decide +kernel, by decide +kernel⟩
theorem JZ (T : Tx G mg) : DOk P w base T.x__law_refused 1 (spD G Cy) :=
 fnX (k := 0) (N := Gf) (b := Dt) T.x__law_refused JX fun _ _ _ _ _ _ hr => Af (CP (PFW.pt (GC (Dk (CJ (pU (Qt rfl T.xt T.k_0 rfl T.z_isinstance DQ (vr 0) (Lg rfl T.e_NoWord.m))) rfl)) (Eo (Dk (CJ (pU (Qt rfl T.xt T.k_1 rfl T.z_isinstance DQ (vr 0) (V8 rfl T.z_ValueError Ku))) rfl))))) (Ak (BK (Fl))) (Bm)) (Af (CP (CJ (pU (Qt rfl T.xt T.k_2 rfl T.z_isinstance DQ (vr 0) (UT (DK T.a_NoName.m (DK T.a_NoPointing.m (DK T.a_NoSaying.m (DK T.a_NoThing.m (DK T.a_TooGreat.m (DK T.a_Unlike.m (UL)))))))))) rfl) (Ak (BK (Fl))) (Bm)) (Ak (BK (cEq hr (pU (Yb rfl T.xt (vr 0) T.nf_word)) (vp 1)))))
abbrev ZJ : List Str := ["_law_script", "_law_cell", "_law_word", "_law_words", "_law_tied"]
theorem Gg : FnScope ZJ ["_law_script"] (Ab ZG) := ⟨rfl, rfl, rfl, by decide +kernel, rfl, by decide +kernel, by decide +kernel⟩
theorem bK (T : Tx G mg) : DOk P w base T.x_law 7 (spD G P0) :=
 fnX (k := 6) (N := ZJ) (b := WX) T.x_law Gg fun _ _ _ _ _ _ hr => Af (Gk PassesOwn.never rfl (Es rfl (bAdd (pU (DG (iI (Ah)))) (pU (Hl rfl (vp 0) (Hj) (Hk (iP)))))) (GD (gN Gg.nd 1)) (Af (sF Gg.nd 2 (fX (Oa T) hr (Ac (vr 1) (Ah) Ai))) (Af (sF Gg.nd 3 (DG (Ac (vr 2) (iS (Ah)) Ai))) (Af (CP (tEq hr (pU (bMod (pU (bDiv (vp 1) (iP))) (iP))) (iP)) (Ak (sF Gg.nd 3 (DG (iS (Ac (vr 2) (Ah) Ai))))) (Bm)) (Af (sF Gg.nd 4 (cEq hr (pU (bMod (pU (bDiv (vp 1) (iP))) (iP))) (iP))) (Af (CP (PFW.pt (GC (tEq hr (vp 2) (sP)) (GC (PFW.pt (Nh (tEq hr (vp 2) (sP)) (HD (CJ (vp 4) rfl)))) (Eo (PFW.pt (Nh (tEq hr (vp 2) (sP)) (HD (Dk (CJ (vp 4) rfl))))))))) (Ak (sF Gg.nd 3 (DG (iS (Ah))))) (Ak (CP (Dk (CJ (pU (fX (JW T) hr (Ac (vr 2) (Ah) Ai))) rfl)) (Af (CP (Dk (CJ (pU (fX (JZ T) hr (Ac (fX (Hu T) hr (Ac (vr 3) (Ac (vr 4) (Ah) Ai) Ai)) (Ac (vr 2) (Ah) Ai) OJ))) rfl)) (Ak (BK (Fl))) (Bm)) (Ak (sF Gg.nd 3 (DG (iS (iS (Ah))))))) (Bm)))) (Ak (CP (Dk (CJ (pU (fX (Od T) hr (Ac (vr 3) (Ac (vr 4) (Ah) Ai) Ai))) rfl)) (Ak (BK (Fl))) (Bm))))))))) (Ak (BK (Fl)))
end
abbrev gx (K : PySem.W.Frag) (C_World : Addr) (l : List (Str × Addr)) : Gx := gx2 K "World" C_World l
def ZK (K : PySem.W.Frag) : Sp := fun vs H Q _ => ∃ (a : Addr) (ns : List Int), vs = [.ref a] ∧ SqL K H a (ns.map V.int) ∧ ns.length ≤ 63 ∧ ∀ H', Q (.bl true) H'
theorem bL (ht : ∀ ns : List Int, ns.length ≤ 63 → P0 [.lst (ns.map .int)] = some (.bl true)) {K : PySem.W.Frag} {C_World : Addr} {l : List (Str × Addr)} (vs : List V) (H : Hp) (Q : VK) (E : XK) (h : ZK K vs H Q E) : spD (gx K C_World l) P0 vs H Q E := by
 obtain ⟨a, ns, rfl, hs, hl, k⟩ := h
 refine ⟨[], [.lst (ns.map .int)], .bl true, (fun _ z => nomatch z), RepL.cons ?_ RepL.nil, ht ns hl, fun v H2 _ r => ?_⟩
 ·have e : hid [] H = H := by funext b; exact Bb (fun z => nomatch z)
  rw [e]
  refine .lst hs (by simp) fun i x d h1 h2 => ?_
  rw [List.getElem?_map] at h1 h2
  cases e2 : ns[i]? with
  | none => rw [e2] at h1; cases h1
  | some z => rw [e2] at h1 h2; cases h1; cases h2; exact .int z
 ·cases r; exact k H2
end K02
section
open PySem L2 PV
local macro_rules | `(tactic| simp only [cK, $ls,*] $[$l:location]?) => `(tactic| simp only [RG, e_nx, e_rt, e_bk, e_ct, RJ, e_if, RK, RL, RM, MN, RN, MP, MT, Ma, Jc, e_b, e_bs, e_u, e_us, Mf, Jd, Mg, Je, RP, RQ, RT, Mh, Mi, Mj, Ml, Mm, Mp, Mq, Mr, Ms, Mt, Mu, Mv, Mw, e_bl, RV, My, Jf, Jg, RX, Mz, M3, M4, M5, Jh, Ji, RZ, M6, M7, M8, Jj, Ra, M9, M_, e_sl, Rb, Rc, Jk, Hd, e_v, e_vs, e_vU, Rf, Rg, e_k, NB, Jl, Jm, NK, Rh, NP, O6, NQ, NT, Rj, NZ, Hg, Ri, e_tr, Fy, Ea, Rn, Nb, J9, Hh, Bs, Dj, Jo, Jp, Hi, E_, e_tg, Gz, List.length_cons, List.length_nil, List.map_cons, List.map_nil, List.cons_append, List.nil_append, List.replicate_succ, List.replicate_zero, List.getElem?_cons_zero, List.getElem?_cons_succ, List.set_cons_zero, List.set_cons_succ, Nat.reduceAdd, Nat.reduceSub, Nat.reduceEqDiff, Nat.zero_add, truB, Bool.not_true, Bool.not_false, decide_true, decide_false, List.append_nil, Int.reduceLT, Int.reduceLE, Int.reduceNeg, Int.reduceEq, Int.reduceToNat, Nat.reduceLeDiff, ix0, ix1, ix2, ixt0, ixt1, ixt2, ixt3, $ls,*] $[$l:location]?)
local macro_rules | `(tactic| simp only [cK]) => `(tactic| simp only [RG, e_nx, e_rt, e_bk, e_ct, RJ, e_if, RK, RL, RM, MN, RN, MP, MT, Ma, Jc, e_b, e_bs, e_u, e_us, Mf, Jd, Mg, Je, RP, RQ, RT, Mh, Mi, Mj, Ml, Mm, Mp, Mq, Mr, Ms, Mt, Mu, Mv, Mw, e_bl, RV, My, Jf, Jg, RX, Mz, M3, M4, M5, Jh, Ji, RZ, M6, M7, M8, Jj, Ra, M9, M_, e_sl, Rb, Rc, Jk, Hd, e_v, e_vs, e_vU, Rf, Rg, e_k, NB, Jl, Jm, NK, Rh, NP, O6, NQ, NT, Rj, NZ, Hg, Ri, e_tr, Fy, Ea, Rn, Nb, J9, Hh, Bs, Dj, Jo, Jp, Hi, E_, e_tg, Gz, List.length_cons, List.length_nil, List.map_cons, List.map_nil, List.cons_append, List.nil_append, List.replicate_succ, List.replicate_zero, List.getElem?_cons_zero, List.getElem?_cons_succ, List.set_cons_zero, List.set_cons_succ, Nat.reduceAdd, Nat.reduceSub, Nat.reduceEqDiff, Nat.zero_add, truB, Bool.not_true, Bool.not_false, decide_true, decide_false, List.append_nil, Int.reduceLT, Int.reduceLE, Int.reduceNeg, Int.reduceEq, Int.reduceToNat, Nat.reduceLeDiff, ix0, ix1, ix2, ixt0, ixt1, ixt2, ixt3])
local macro_rules | `(tactic| simp only [kC, $ls,*] $[$l:location]?) => `(tactic| simp only [$ls,*, RG, e_nx, e_rt, e_bk, e_ct, RJ, e_if, RK, RL, RM, MN, RN, MP, MT, Ma, Jc, e_b, e_bs, e_u, e_us, Mf, Jd, Mg, Je, RP, RQ, RT, Mh, Mi, Mj, Ml, Mm, Mp, Mq, Mr, Ms, Mt, Mu, Mv, Mw, e_bl, RV, My, Jf, Jg, RX, Mz, M3, M4, M5, Jh, Ji, RZ, M6, M7, M8, Jj, Ra, M9, M_, e_sl, Rb, Rc, Jk, Hd, e_v, e_vs, e_vU, Rf, Rg, e_k, NB, Jl, Jm, NK, Rh, NP, O6, NQ, NT, Rj, NZ, Hg, Ri, e_tr, Fy, Ea, Rn, Nb, J9, Hh, Bs, Dj, Jo, Jp, Hi, E_, e_tg, Gz, List.length_cons, List.length_nil, List.map_cons, List.map_nil, List.cons_append, List.nil_append, List.replicate_succ, List.replicate_zero, List.getElem?_cons_zero, List.getElem?_cons_succ, List.set_cons_zero, List.set_cons_succ, Nat.reduceAdd, Nat.reduceSub, Nat.reduceEqDiff, Nat.zero_add, truB, Bool.not_true, Bool.not_false, decide_true, decide_false, List.append_nil, Int.reduceLT, Int.reduceLE, Int.reduceNeg, Int.reduceEq, Int.reduceToNat, Nat.reduceLeDiff, ix0, ix1, ix2, ixt0, ixt1, ixt2, ixt3] $[$l:location]?)
local macro_rules | `(tactic| simp only [kiC, $ls,*] $[$l:location]?) => `(tactic| simp only [$ls,*, RG, e_nx, e_rt, e_bk, e_ct, RJ, e_if, RK, RL, RM, MN, RN, MP, MT, Ma, Jc, e_b, e_bs, e_u, e_us, Mf, Jd, Mg, Je, RP, RQ, RT, Mh, Mi, Mj, Ml, Mm, Mp, Mq, Mr, Ms, Mt, Mu, Mv, Mw, e_bl, RV, My, Jf, Jg, RX, Mz, M3, M4, M5, Jh, Ji, RZ, M6, M7, M8, Jj, Ra, M9, M_, e_sl, Rb, Rc, Jk, Hd, e_v, e_vs, e_vU, Rf, Rg, e_k, NB, Jl, Jm, NK, Rh, NP, O6, NQ, NT, Rj, NZ, Hg, Ri, e_tr, Fy, Ea, Rn, Nb, J9, Hh, Bs, Dj, Jo, Jp, Hi, E_, e_tg, Gz, List.length_cons, List.length_nil, List.map_cons, List.map_nil, List.cons_append, List.nil_append, List.replicate_succ, List.replicate_zero, List.getElem?_cons_zero, List.getElem?_cons_succ, List.set_cons_zero, List.set_cons_succ, Nat.reduceAdd, Nat.reduceSub, Nat.reduceEqDiff, Nat.zero_add, truB, Bool.not_true, Bool.not_false, decide_true, decide_false, List.append_nil, Int.reduceLT, Int.reduceLE, Int.reduceNeg, Int.reduceEq, Int.reduceToNat, Nat.reduceLeDiff, ix0, ix1, ix2, ixt0, ixt1, ixt2, ixt3, C_, B_, Qc, Qd, U7, U8, U9, U_, O3, VB, VD] $[$l:location]?)
local macro_rules | `(tactic| simp only [dK, $ls,*] $[$l:location]?) => `(tactic| simp only [cK, Vt, Vu, N5, R4, R5, R6, R7, R8, R9, R_, SJ, SM, FW, Fb, SN, SQ, Vv, Qo, Vw, SX, Y_, ZC, Im, Vx, Sd, Pj, Dl, Ld, ZD, $ls,*] $[$l:location]?)
local macro_rules | `(tactic| simp only [ciK, $ls,*] $[$l:location]?) => `(tactic| simp only [cK, C_, B_, Qc, Qd, U7, U8, U9, U_, O3, VB, VD, $ls,*] $[$l:location]?)
local macro_rules | `(tactic| simp only [diK, $ls,*] $[$l:location]?) => `(tactic| simp only [cK, Vt, Vu, N5, R4, R5, R6, R7, R8, R9, R_, SJ, SM, FW, Fb, SN, SQ, Vv, Qo, Vw, SX, Y_, ZC, Im, Vx, Sd, Pj, Dl, Ld, ZD, C_, B_, Qc, Qd, U7, U8, U9, U_, O3, VB, VD, $ls,*] $[$l:location]?)
namespace K02
open PySem L2 PV
abbrev cs (x : Str) : List Nat := x.cps.toList
theorem WY (x y : Str) : cs (x ++ y) = cs x ++ cs y := by show (x.cps ++ y.cps).toList = _; simp [cs]
theorem Oe (x : Str) : (cs x).length = x.length := by simp [cs, Str.length]
theorem bM {x y : Str} (h : cs x = cs y) : x = y := by
 cases x with | mk a => cases y with | mk b => simp [cs] at h; rw [h]
theorem Wa (x : Str) (lo hi : Option Int) : cs (cutS x lo hi) = cutD (cs x) lo hi := by simp [cs, cutS]
def LET : Str := "abcdefghijklmnopqrstuvwxyz"
theorem Og : LET.length = 26 := by decide +kernel
def IsL (x : Str) : Prop := ∀ c ∈ cs x, c ∈ cs LET
theorem Yh {x y : Str} (h : IsL x) (k : IsL y) : IsL (x ++ y) := fun c hc => by
 rw [WY] at hc
 rcases List.mem_append.mp hc with q | q
 ·exact h c q
 ·exact k c q
theorem UW : IsL "" := by
 have e : cs ("" : Str) = [] := by decide +kernel
 intro c hc
 rw [e] at hc
 cases hc
def Nm (x : Str) : Prop := ∃ c, c ∈ cs LET ∧ x = ⟨#[c]⟩
theorem Nm.isL {x : Str} (h : Nm x) : IsL x := by obtain ⟨c, hc, rfl⟩ := h; intro d hd; simp [cs] at hd; subst hd; exact hc
theorem Nm.len {x : Str} (h : Nm x) : x.length = 1 := by obtain ⟨c, hc, rfl⟩ := h; rfl
theorem cY (j : Int) : ∃ x : Str, ixD (.str LET) (.int (j % 26)) = some (.str x) ∧ Nm x := by
 obtain ⟨c, hc, e⟩ := Rk LET 26 j (by rw [Og]; rfl) (by rw [Og]; decide) (by rw [Og]; decide)
 exact ⟨_, e, c, hc, rfl⟩
def KEPT : List Str := ["not", "and", "or", "some", "all"]
theorem bN (c : Nat) : inD false (.str ⟨#[c]⟩) (.str LET) = some (.bl (!(Builtin.Str.occurrences LET ⟨#[c]⟩ 0 LET.length 1).isEmpty)) := of_eq_true (eq_self _)
theorem Oh (x : Str) (h : x.length ≤ 10000000) : lenE (.str x) = some (.int x.length) := cJ x h
def EW (w : Str) : D := .exc "NoWord" [("word", .str w)]
def exO (c f : Str) (ok : D → Bool) (o : Option D) : Option D := o.bind fun d => if ok d = true then some (.exc c [(f, d)]) else none
theorem Wb (c f : Str) (ok : D → Bool) (fa : FE) (ρ : Rho) : excF c f ok fa ρ = exO c f ok (fa ρ) := of_eq_true (eq_self _)
theorem ZL {w : Str} (h : okSD (.str w) = true) : exO "NoWord" "word" okSD (some (.str w)) = some (EW w) := by
 show (if okSD (.str w) = true then _ else _) = _
 rw [if_pos h]
 rfl
def iw (x : Str) : Bool := !(KEPT.any fun y => y == x) && !decide (x.length = 0) && !decide (8 < x.length) && (cs x).all fun c => decide (c ∈ cs LET)
theorem Wc (c : Nat) (hc : c < 128) : (!(Builtin.Str.occurrences LET ⟨#[c]⟩ 0 LET.length 1).isEmpty) = decide (c ∈ cs LET) := by
 have a : ∀ c < 128, (!(Builtin.Str.occurrences LET ⟨#[c]⟩ 0 LET.length 1).isEmpty) = decide (c ∈ cs LET) := by decide +kernel
 exact a c hc
def Sm (x : Str) : Prop := ∀ c ∈ cs x, c < 128
theorem Qx {x y : Str} (h : Sm x) (k : Sm y) : Sm (x ++ y) := fun c hc => by
 rw [WY] at hc
 rcases List.mem_append.mp hc with q | q
 ·exact h c q
 ·exact k c q
theorem Qy {x : Str} (h : Sm x) (lo hi : Option Int) : Sm (cutS x lo hi) := fun c hc => by
 rw [Wa] at hc
 unfold cutD at hc
 exact h c (List.mem_of_mem_drop (List.mem_of_mem_take hc))
theorem Oi (x : Str) (lo hi : Option Int) : (cutS x lo hi).length ≤ x.length := by
 rw [← Oe, ← Oe, Wa]
 unfold cutD
 rw [List.length_take, List.length_drop]
 omega
theorem Gh {x : Str} (h : IsL x) : Sm x := fun c hc => by
 have a : ∀ c ∈ cs LET, c < 128 := by decide +kernel
 exact a c (h c hc)
theorem Wd {x : Str} (h : Sm x) (hl : x.length ≤ 100) : okSD (.str x) = true := by
 show (decide (x.length ≤ 100000) && x.cps.toList.all fun c => decide (c < 4294967296)) = true
 rw [Bool.and_eq_true, decide_eq_true_eq, List.all_eq_true]
 refine ⟨by omega, fun c hc => ?_⟩
 have := h c hc
 exact decide_eq_true (by omega)
theorem Yi (x : Str) : inF false (.str x) c_KEPT_TEXTS = some (.bl (KEPT.any fun y => y == x)) := by
 have e : inF false (.str x) c_KEPT_TEXTS = inD false (.str x) (.lst (KEPT.map .str)) := rfl
 rw [e, Rm]
theorem Hw {x : Str} (h : Sm x) (hl : x.length ≤ 100) : BP [.str x] = some (.bl (iw x)) := by
 have k := Yi x
 have l := Oh x (by omega)
 have cc : ∀ l : List Nat, (∀ c ∈ l, c < 128) → EY [.fz (.str x)] allT De (l.map fun c => .str ⟨#[c]⟩) = some (l.map fun c => .bl (decide (c ∈ cs LET))) := by
  intro l
  induction l with
  | nil => intro _; rfl
  | cons c r ih =>
   intro hl
   have v : De ([.fz (.str x)] ++ [.fz (.str ⟨#[c]⟩)]) = some (.bl (decide (c ∈ cs LET))) := by
    have e : inF false (.str ⟨#[c]⟩) (.str LET) = some (.bl (decide (c ∈ cs LET))) := by
     show inD false (.str ⟨#[c]⟩) (.str LET) = _
     rw [bN, Wc c (hl c (by simp))]
    have hL : (Str.ofString "abcdefghijklmnopqrstuvwxyz") = LET := rfl
    simp only [cK, De, hL, e]
   rw [List.map_cons, Qe, O6, v, ih fun d hd => hl d (by simp [hd])]
   rfl
 have c1 : J8 (seqA (vF 0)) allT De [.fz (.str x)] = some (.lst ((cs x).map fun c => .bl (decide (c ∈ cs LET)))) := by
  refine Xi (ds := (cs x).map fun c => .str ⟨#[c]⟩) (by rfl) (by rw [List.length_map, Oe]; omega) (cc (cs x) h)
 have al := aZ (fun c => decide (c ∈ cs LET)) (cs x)
 unfold iw
 generalize (KEPT.any fun y => y == x) = kb at k ⊢
 cases kb with
 | true => simp only [cK, BP, Do, k, Bool.not_true, Bool.false_and]
 | false =>
  by_cases c0 : x.length = 0
  ·have c0' : (x.length : Int) = 0 := by omega
   simp only [ciK, BP, Do, k, l, c0, c0', Bool.not_true, Bool.not_false, Bool.true_and, Bool.false_and, Int.natCast_zero]
  ·have c0' : ¬ ((x.length : Int) = 0) := by omega
   by_cases c8 : 8 < x.length
   ·have c8' : (8 : Int) < x.length := by omega
    simp only [ciK, BP, Do, k, l, c0, c0', c8, c8', Bool.not_true, Bool.not_false, Bool.true_and, Bool.false_and]
   ·have c8' : ¬ ((8 : Int) < x.length) := by omega
    simp only [ciK, BP, Do, k, l, c0, c0', c8, c8', c1, al, Bool.not_false, Bool.true_and]
theorem eq_str (x y : Str) : eqD false (.str x) (.str y) = some (.bl (decide (x = y))) := of_eq_true (eq_self _)
theorem ne_str (x y : Str) : eqD true (.str x) (.str y) = some (.bl (!decide (x = y))) := of_eq_true (eq_self _)
theorem Lj (x : Str) : (x = "") ↔ x.length = 0 := by
 constructor
 ·intro h; rw [h]; rfl
 ·intro h
  apply bM
  have : (cs x).length = 0 := by rw [Oe]; exact h
  have e : cs ("" : Str) = [] := by decide +kernel
  rw [e]
  exact List.length_eq_zero_iff.mp this
theorem Yj (x : Str) : inF false (.str x) (.lst [.str "not", .str "and", .str "or", .str "some", .str "all"]) = some (.bl (KEPT.any fun y => y == x)) := by
 have e : inF false (.str x) (.lst [.str "not", .str "and", .str "or", .str "some", .str "all"]) = inD false (.str x) (.lst (KEPT.map .str)) := rfl
 rw [e, Rm]
theorem S_ (x : Str) : ∀ (l : List Nat) (z : Slot), (∀ c ∈ l, c < 128) → (if (l.all fun c => decide (c ∈ cs LET)) = true then ∃ z', forF (tgB (Dg 1) Av) (l.map fun c => .str ⟨#[c]⟩) [.fz (.str x), z] = some (.nx [.fz (.str x), z']) else ∃ ρ, forF (tgB (Dg 1) Av) (l.map fun c => .str ⟨#[c]⟩) [.fz (.str x), z] = some (.rt (.bl false) ρ))
 | [], z, _ => ⟨z, rfl⟩
 | c :: r, z, h => by
  have hL : (Str.ofString "abcdefghijklmnopqrstuvwxyz") = LET := rfl
  have e : inF true (.str ⟨#[c]⟩) (.str LET) = some (.bl (!decide (c ∈ cs LET))) := by
   show inD true (.str ⟨#[c]⟩) (.str LET) = _
   have e1 : inD true (.str ⟨#[c]⟩) (.str LET) = some (.bl (!(!(Builtin.Str.occurrences LET ⟨#[c]⟩ 0 LET.length 1).isEmpty))) := of_eq_true (eq_self _)
   rw [e1, Wc c (h c (by simp))]
  have ih := S_ x r (.fz (.str ⟨#[c]⟩)) fun d hd => h d (by simp [hd])
  by_cases m : c ∈ cs LET
  ·have b : Av [.fz (.str x), .fz (.str ⟨#[c]⟩)] = some (.nx [.fz (.str x), .fz (.str ⟨#[c]⟩)]) := by
    simp only [cK, Av, hL, e, m]
   have st : forF (tgB (Dg 1) Av) ((c :: r).map fun c => .str ⟨#[c]⟩) [.fz (.str x), z] = forF (tgB (Dg 1) Av) (r.map fun c => .str ⟨#[c]⟩) [.fz (.str x), .fz (.str ⟨#[c]⟩)] := by
    rw [List.map_cons, Bs, e_tg, E_, Gz]
    simp only [List.set_cons_zero, List.set_cons_succ]
    rw [b, Dj]
   rw [st, List.all_cons, decide_eq_true m, Bool.true_and]
   exact ih
  ·have b : Av [.fz (.str x), .fz (.str ⟨#[c]⟩)] = some (.rt (.bl false) [.fz (.str x), .fz (.str ⟨#[c]⟩)]) := by
    simp only [cK, Av, hL, e, m]
   rw [List.all_cons, decide_eq_false m, Bool.false_and, if_neg (by simp)]
   refine ⟨[.fz (.str x), .fz (.str ⟨#[c]⟩)], ?_⟩
   rw [List.map_cons, Bs, e_tg, E_, Gz]
   simp only [List.set_cons_zero, List.set_cons_succ]
   rw [b, Hi]
theorem We {x : Str} (h : Sm x) (hl : x.length ≤ 100) : Ba [.str x] = some (.bl (iw x)) := by
 have k := Yj x
 have l := Oh x (by omega)
 have q := eq_str x ""
 have em := Lj x
 have lo := S_ x (cs x) .un h
 have sq : Lb (some (.str x)) = some ((cs x).map fun c => .str ⟨#[c]⟩) := rfl
 unfold iw
 generalize (KEPT.any fun y => y == x) = kb at k ⊢
 cases kb with
 | true => simp only [cK, Ba, Bd, k, Bool.not_true, Bool.false_and]
 | false =>
  by_cases c0 : x.length = 0
  ·have c0' := em.mpr c0
   rw [decide_eq_true c0'] at q
   rw [decide_eq_true c0]
   simp only [cK, Ba, Bd, k, q, Bool.not_true, Bool.not_false, Bool.true_and, Bool.false_and]
  ·have c0' : ¬ (x = "") := fun z => c0 (em.mp z)
   rw [decide_eq_false c0'] at q
   by_cases c8 : 8 < x.length
   ·have c8' : (8 : Int) < x.length := by omega
    simp only [ciK, Ba, Bd, k, l, q, c0, c8, c8', Bool.not_true, Bool.not_false, Bool.true_and, Bool.false_and]
   ·have c8' : ¬ ((8 : Int) < x.length) := by omega
    by_cases al : ((cs x).all fun c => decide (c ∈ cs LET)) = true
    ·rw [if_pos al] at lo
     obtain ⟨z', lo⟩ := lo
     rw [al]
     simp only [ciK, Ba, Bd, k, l, q, c0, c8, c8', FW, sq, lo, Bool.not_false, Bool.true_and]
    ·rw [if_neg al] at lo
     obtain ⟨ρ, lo⟩ := lo
     rw [Bool.eq_false_iff.mpr al]
     simp only [ciK, Ba, Bd, k, l, q, c0, c8, c8', FW, sq, lo, Bool.not_false, Bool.true_and, Bool.and_false]
def SOME : Str := " !\"#$&'()*+,-./0123456789:;<=>?@ABCDEFGHIJKLMNOPQRSTUVWXYZ[\\]^_`{|}~"
theorem Ua (i : Int) (s2 : Slot) (s5 : Slot) (n : Int) (m : Nat) (hm : m ≤ 10) : ∃ (n' : Int) (b : Str) (z : Slot), forF (tgB (Dg 6) CQ) (rngD m) [.fz (.int i), .fz (.str LET), s2, .fz (.int n), .fz (.str ""), s5, .un, .un, .un, .un] = some (.nx [.fz (.int i), .fz (.str LET), s2, .fz (.int n'), .fz (.str b), s5, z, .un, .un, .un]) ∧ b.length ≤ 10 ∧ IsL b := by
 obtain ⟨ρ', e, n', b, z, rfl, hb, hL⟩ := O4 (b := tgB (Dg 6) CQ) (ds := rngD m) (ρ := [.fz (.int i), .fz (.str LET), s2, .fz (.int n), .fz (.str ""), s5, .un, .un, .un, .un])
  (P := fun k ρ => ∃ (n' : Int) (b : Str) (z : Slot), ρ = [.fz (.int i), .fz (.str LET), s2, .fz (.int n'), .fz (.str b), s5, z, .un, .un, .un] ∧ b.length ≤ k ∧ IsL b) 0 ⟨n, "", .un, rfl, by decide, UW⟩ (by
   rintro k d ρ hd ⟨n', b, z, rfl, hb, hL⟩
   have hk : k < m := by
    have := (List.getElem?_eq_some_iff.mp hd).1
    rw [O7] at this
    exact this
   obtain ⟨x, ex, hx⟩ := cY n'
   have hx1 := hx.len
   have ea := MK (i := b) (j := x) (by omega)
   refine ⟨[.fz (.int i), .fz (.str LET), s2, .fz (.int (n' / 26)), .fz (.str (b ++ x)), s5, .fz d, .un, .un, .un], ?_, n' / 26, b ++ x, .fz d, rfl, by rw [CZ]; omega, Yh hL hx.isL⟩
   show CQ [.fz (.int i), .fz (.str LET), s2, .fz (.int n'), .fz (.str b), s5, .fz d, .un, .un, .un] = _
   simp only [ciK, CQ, N5, ex, ea])
 rw [O7] at hb
 exact ⟨n', b, z, e, by omega, hL⟩
theorem Yk : ∀ x ∈ KEPT, IsL x ∧ x.length ≤ 4 := by
 have a : ∀ x ∈ KEPT, (∀ c ∈ cs x, c ∈ cs LET) ∧ x.length ≤ 4 := by decide +kernel
 exact a
theorem Yl (i : Int) : ∃ x : Str, By [.int i] = some (.str x) ∧ Sm x ∧ x.length ≤ 30 := by
 have hL : (Str.ofString "abcdefghijklmnopqrstuvwxyz") = LET := rfl
 by_cases h8 : i % 8 = 0
 ·obtain ⟨y, hy, ey⟩ := MJ (xs := KEPT.map D.str) (i / 8) 5 rfl (by simp [KEPT])
  obtain ⟨w, hw, rfl⟩ := List.mem_map.mp hy
  replace ey : ixE (.lst [.str "not", .str "and", .str "or", .str "some", .str "all"]) (.int (i / 8 % 5)) = some (.str w) := ey
  obtain ⟨wl, wn⟩ := Yk w hw
  have es := MK (i := w) (j := "s") (by have : ("s" : Str).length = 1 := rfl; omega)
  have ec := sl_s w (some 1) none (by omega)
  have sl : Sm ("s" : Str) := by
   have a : ∀ c ∈ cs ("s" : Str), c < 128 := by decide +kernel
   exact a
  obtain ⟨v, hv, ev⟩ := MJ (xs := [D.str w, .str (w ++ "s"), .str (cutS w (some 1) none), .str w]) (i / 8 / 5) 4 rfl (by simp)
  replace ev : ixE (.lst [D.str w, .str (w ++ "s"), .str (cutS w (some 1) none), .str w]) (.int (i / 8 / 5 % 4)) = some v := ev
  have hv' : ∃ x, v = .str x ∧ Sm x ∧ x.length ≤ 30 := by
   simp at hv
   rcases hv with rfl | rfl | rfl | rfl
   ·exact ⟨w, rfl, Gh wl, by omega⟩
   ·refine ⟨_, rfl, Qx (Gh wl) sl, ?_⟩
    rw [CZ]
    have : ("s" : Str).length = 1 := rfl
    omega
   ·exact ⟨_, rfl, Qy (Gh wl) _ _, by have := Oi w (some 1) none; omega⟩
   ·exact ⟨w, rfl, Gh wl, by omega⟩
  obtain ⟨x, rfl, sx, lx⟩ := hv'
  refine ⟨x, ?_, sx, lx⟩
  simp only [ciK, By, Cj, hL, h8, ey, es, ec, ev]
 ·have r0 : 0 ≤ i / 8 % 11 ∧ i / 8 % 11 < 11 := by omega
  have rg := Z6 (i / 8 % 11) (by omega)
  obtain ⟨n', b, z, e, lb, hb⟩ := Ua i (.fz (.lst [.str "not", .str "and", .str "or", .str "some", .str "all"])) (.fz (.int (i / 8 % 11))) (i / 8 / 11) (i / 8 % 11).toNat (by omega)
  have q := ne_str b ""
  by_cases h3 : i % 3 = 0
  ·by_cases hb0 : b = ""
   ·rw [decide_eq_true hb0] at q
    refine ⟨b, ?_, Gh hb, by omega⟩
    simp only [ciK, By, Cj, hL, h8, rg, e, h3, q]
   ·rw [decide_eq_false hb0] at q
    have l0 : b.length ≠ 0 := fun z => hb0 ((Lj b).mpr z)
    have l := Oh b (by omega)
    have em := C_ n' (b.length : Int) (by omega)
    have ed := B_ n' (b.length : Int) (by omega) (by omega)
    have ls := Oh SOME (by decide +kernel)
    rw [show SOME.length = 68 by decide +kernel] at ls
    replace ls : lenE (.str SOME) = some (.int 68) := ls
    obtain ⟨c, hc, ec⟩ := Rk SOME 68 (n' / (b.length : Int)) (by decide +kernel) (by decide +kernel) (by decide +kernel)
    have hS : (Str.ofString " !\"#$&'()*+,-./0123456789:;<=>?@ABCDEFGHIJKLMNOPQRSTUVWXYZ[\\]^_`{|}~") = SOME := rfl
    generalize hA : n' % (b.length : Int) = at' at *
    have c1 := sl_s b none (some at') (by omega)
    have c2 := sl_s b (some (at' + 1)) none (by omega)
    have k1 := Oi b none (some at')
    have k2 := Oi b (some (at' + 1)) none
    have cl : (⟨#[c]⟩ : Str).length = 1 := rfl
    have a1 := MK (i := cutS b none (some at')) (j := ⟨#[c]⟩) (by omega)
    have a2 := MK (i := cutS b none (some at') ++ ⟨#[c]⟩) (j := cutS b (some (at' + 1)) none) (by rw [CZ]; omega)
    have sc : Sm ⟨#[c]⟩ := by
     have a : ∀ c ∈ cs SOME, c < 128 := by decide +kernel
     intro d hd
     simp [cs] at hd
     rw [hd]
     exact a c hc
    refine ⟨cutS b none (some at') ++ ⟨#[c]⟩ ++ cutS b (some (at' + 1)) none, ?_, Qx (Qx (Qy (Gh hb) _ _) sc) (Qy (Gh hb) _ _), ?_⟩
    ·simp only [ciK, By, Cj, hL, hS, N5, h8, rg, e, h3, q, l, em, ls, ed, ec, c1, c2, a1, a2]
    ·rw [CZ, CZ]
     omega
  ·refine ⟨b, ?_, Gh hb, by omega⟩
   simp only [ciK, By, Cj, hL, h8, rg, e, h3]
end K02
namespace K02
open PySem L2 PV
structure Wl where
 n : Nat
 ms : List (Str × List Nat)
 ts : List (Str × List (Nat × Nat))
abbrev iN (t : Nat) : D := .int (t : Int)
abbrev pN (q : Nat × Nat) : D := .tup [.int (q.1 : Int), .int (q.2 : Int)]
def lM (l : List Nat) : D := .lst (l.map iN)
def lT (l : List (Nat × Nat)) : D := .lst (l.map pN)
def eM (ms : List (Str × List Nat)) : List (Key × D) := ms.map fun p => (.inr p.1, lM p.2)
def eT (ts : List (Str × List (Nat × Nat))) : List (Key × D) := ts.map fun p => (.inr p.1, lT p.2)
def kM (l : List Nat) : D := .dk (l.map fun (t : Nat) => ((.inl (t : Int) : Key), .bl true))
def kT (l : List (Nat × Nat)) : D := .dt (l.map fun q => ([(.inl (q.1 : Int) : Key), .inl (q.2 : Int)], .bl true))
def oM (ms : List (Str × List Nat)) : List (Key × D) := ms.map fun p => (.inr p.1, kM p.2)
def oT (ts : List (Str × List (Nat × Nat))) : List (Key × D) := ts.map fun p => (.inr p.1, kT p.2)
def wob (W : Wl) : D := .ob "World" [("size", .int W.n), ("marked", .dk (oM W.ms)), ("tied", .dk (oT W.ts))]
theorem Ey (n : Nat) (t : Nat) (h : t < n) : Aj [.int (n : Int), .int (t : Int)] = some .non := by
 have c1 : ¬ ((t : Int) < 0) := by omega
 have c2 : ¬ ((n : Int) ≤ t) := by omega
 simp only [ciK, Aj, Cu, c1, c2]
theorem Wf {t : Nat} {l : List Nat} (h : t ∉ l) : (.inl (t : Int) : Key) ∉ (l.map fun (t : Nat) => ((.inl (t : Int) : Key), D.bl true)).map (·.1) := by
 intro z
 rw [List.map_map] at z
 obtain ⟨u, hu, e⟩ := List.mem_map.mp z
 simp at e
 have e' : u = t := by omega
 exact h (e' ▸ hu)
theorem Lk (n : Nat) (x z0 : Slot) : ∀ (r p : List Nat) (z : Slot), (p ++ r).Nodup → (∀ t ∈ r, t < n) → (p ++ r).length ≤ 100 →
  ∃ z', forF (tgB (Dg 3) CV) (r.map iN) [.fz (.int (n : Int)), x, .ow (kM p), z] = some (.nx [.fz (.int (n : Int)), x, .ow (kM (p ++ r)), z'])
 | [], p, z, _, _, _ => ⟨z, by rw [List.append_nil]; rfl⟩
 | t :: r, p, z, nd, hl, hlen => by
  have nt : t ∉ p := by
   intro q
   rw [List.nodup_append] at nd
   exact nd.2.2 t q t (by simp) rfl
  have e1 := Ey n t (hl t (by simp))
  have e2 : Cg (kM p) (.int (t : Int)) (.bl true) = some (kM (p ++ [t])) := by
   show Cg (.dk _) _ _ = _
   rw [aW _ _ _ (by simp at hlen ⊢; omega), putL_new (Wf nt)]
   simp [kM]
  have b : CV [.fz (.int (n : Int)), x, .ow (kM p), .fz (iN t)] = some (.nx [.fz (.int (n : Int)), x, .ow (kM (p ++ [t])), .fz (iN t)]) := by
   simp only [dK, CV, e1, e2]
  obtain ⟨z', ih⟩ := Lk n x z0 r (p ++ [t]) (.fz (iN t)) (by simpa using nd) (fun u hu => hl u (by simp [hu])) (by simpa using hlen)
  refine ⟨z', ?_⟩
  rw [List.map_cons, Bs, e_tg, E_, Gz]
  simp only [List.set_cons_zero, List.set_cons_succ]
  rw [b, Dj, ih]
  simp
theorem Ym (n : Nat) (l : List Nat) (nd : l.Nodup) (hl : ∀ t ∈ l, t < n) (hlen : l.length ≤ 100) : Bt [.int (n : Int), lM l] = some (kM l) := by
 obtain ⟨z', e⟩ := Lk n (.fz (lM l)) .un l [] .un (by simpa using nd) hl (by simpa using hlen)
 rw [List.nil_append] at e
 have e0 : (D.dk []) = kM [] := rfl
 simp only [dK, Bt, Em, e0, lM, e] at e ⊢
theorem Wg {t : Nat × Nat} {l : List (Nat × Nat)} (h : t ∉ l) : [(.inl (t.1 : Int) : Key), .inl (t.2 : Int)] ∉ (l.map fun (q : Nat × Nat) => ([(.inl (q.1 : Int) : Key), .inl (q.2 : Int)], D.bl true)).map (·.1) := by
 intro z
 rw [List.map_map] at z
 obtain ⟨u, hu, e⟩ := List.mem_map.mp z
 simp at e
 have e' : u = t := by
  obtain ⟨a, b⟩ := u
  obtain ⟨c, d⟩ := t
  simp at e ⊢
  omega
 exact h (e' ▸ hu)
theorem Km (n : Nat) (x : Slot) : ∀ (r p : List (Nat × Nat)) (z z2 : Slot), (p ++ r).Nodup → (∀ t ∈ r, t.1 < n ∧ t.2 < n) → (p ++ r).length ≤ 100 →
  ∃ z' z2', forF (tgB (tupG 2 (Bq 3 (Bq 4 nilG))) Cv) (r.map pN) [.fz (.int (n : Int)), x, .ow (kT p), z, z2] = some (.nx [.fz (.int (n : Int)), x, .ow (kT (p ++ r)), z', z2'])
 | [], p, z, z2, _, _, _ => ⟨z, z2, by rw [List.append_nil]; rfl⟩
 | t :: r, p, z, z2, nd, hl, hlen => by
  have nt : t ∉ p := by
   intro q
   rw [List.nodup_append] at nd
   exact nd.2.2 t q t (by simp) rfl
  have e1 := Ey n t.1 (hl t (by simp)).1
  have e1' := Ey n t.2 (hl t (by simp)).2
  have e2 : Ho (kT p) [.int (t.1 : Int), .int (t.2 : Int)] (.bl true) = some (kT (p ++ [t])) := by
   show Ho (.dt _) _ _ = _
   rw [aX _ _ _ _ (by simp at hlen ⊢; omega), putL_new (Wg nt)]
   simp [kT]
  have b : Cv [.fz (.int (n : Int)), x, .ow (kT p), .fz (.int (t.1 : Int)), .fz (.int (t.2 : Int))] = some (.nx [.fz (.int (n : Int)), x, .ow (kT (p ++ [t])), .fz (.int (t.1 : Int)), .fz (.int (t.2 : Int))]) := by
   simp only [dK, Cv, e1, e1', e2]
  obtain ⟨z', z2', ih⟩ := Km n x r (p ++ [t]) (.fz (.int (t.1 : Int))) (.fz (.int (t.2 : Int))) (by simpa using nd) (fun u hu => hl u (by simp [hu])) (by simpa using hlen)
  refine ⟨z', z2', ?_⟩
  rw [List.map_cons, Bs, e_tg, Dl, Gz]
  simp only [List.set_cons_zero, List.set_cons_succ]
  rw [b, Dj, ih]
  simp
theorem Wh (n : Nat) (l : List (Nat × Nat)) (nd : l.Nodup) (hl : ∀ t ∈ l, t.1 < n ∧ t.2 < n) (hlen : l.length ≤ 100) : CK [.int (n : Int), lT l] = some (kT l) := by
 obtain ⟨z', z2', e⟩ := Km n (.fz (lT l)) l [] .un .un (by simpa using nd) hl (by simpa using hlen)
 rw [List.nil_append] at e
 have e0 : (D.dt []) = kT [] := rfl
 simp only [dK, CK, Fg, e0, lT, e] at e ⊢
theorem Ko (i j : Int) (h : i ≤ j) : BL [.int i, .int j] = some .non := by
 have c : ¬ (j < i) := by omega
 simp only [ciK, BL, Ds, c]
abbrev fS (n : Nat) : Str × Bool × D := ("size", false, .int (n : Int))
abbrev fM (ms : List (Str × List Nat)) : Str × Bool × D := ("marked", true, .dk (oM ms))
abbrev fT (ts : List (Str × List (Nat × Nat))) : Str × Bool × D := ("tied", true, .dk (oT ts))
theorem q1 : (("marked" : Str) == "size") = false := by decide +kernel
theorem q2 : (("tied" : Str) == "size") = false := by decide +kernel
theorem q3 : (("tied" : Str) == "marked") = false := by decide +kernel
theorem n1 : ¬ (("size" : Str) = "marked") := by decide +kernel
theorem n2 : ¬ (("size" : Str) = "tied") := by decide +kernel
theorem n3 : ¬ (("marked" : Str) = "tied") := by decide +kernel
theorem lkM (n : Nat) (d e : D) : List.lookup ("marked" : Str) [fS n, ("marked", true, d), ("tied", true, e)] = some (true, d) := by
 rw [List.lookup_cons, q1]
 show List.lookup ("marked" : Str) [("marked", true, d), ("tied", true, e)] = _
 rw [List.lookup_cons, show (("marked" : Str) == "marked") = true by decide +kernel]
theorem lkT (n : Nat) (d e : D) : List.lookup ("tied" : Str) [fS n, ("marked", true, d), ("tied", true, e)] = some (true, e) := by
 rw [List.lookup_cons, q2]
 show List.lookup ("tied" : Str) [("marked", true, d), ("tied", true, e)] = _
 rw [List.lookup_cons, q3]
 show List.lookup ("tied" : Str) [("tied", true, e)] = _
 rw [List.lookup_cons, show (("tied" : Str) == "tied") = true by decide +kernel]
theorem rpM (n : Nat) (d e d' : D) : repE "marked" d' [fS n, ("marked", true, d), ("tied", true, e)] = [fS n, ("marked", true, d'), ("tied", true, e)] := by
 unfold repE repE
 rw [if_neg n1, if_pos rfl]
theorem rpT (n : Nat) (d e e' : D) : repE "tied" e' [fS n, ("marked", true, d), ("tied", true, e)] = [fS n, ("marked", true, d), ("tied", true, e')] := by
 unfold repE repE repE
 rw [if_neg n2, if_neg n3, if_pos rfl]
theorem Kp {α : Type} {w : Str} (f : α → D) {l : List (Str × α)} (h : w ∉ l.map (·.1)) : (.inr w : Key) ∉ (l.map fun p => ((.inr p.1 : Key), f p.2)).map (·.1) := by
 intro z
 rw [List.map_map] at z
 obtain ⟨u, hu, e⟩ := List.mem_map.mp z
 simp at e
 exact h (List.mem_map.mpr ⟨u, hu, e⟩)
theorem DP (g gs : FEz) (ρ : Rho) (ε : Ef) : seqZ g gs ρ ε = G4 (g ρ ε) gs := of_eq_true (eq_self _)
theorem Br (r : Rho × Ef) (gs : FEz) : G4 (some (.inl r)) gs = gs r.1 r.2 := of_eq_true (eq_self _)
theorem Gr (q : D × Rho) (gs : FEz) : G4 (some (.inr q)) gs = some (.inr q) := of_eq_true (eq_self _)
theorem Gi {g : FEs} {ρ : Rho} {ε : Ef} {r : Rho × Ef} (h : g ρ ε = some r) : Fo g ρ ε = some (.inl r) := by unfold Fo; rw [h]; rfl
theorem bO (ρ : Rho) (ε : Ef) : nilZ ρ ε = some (.inl (ρ, ε)) := of_eq_true (eq_self _)
theorem Kq {src : FI} {tg : FG} {b : FEz} {ρ : Rho} {ε : Ef} {ds : List D} (h : src ρ = some ds) : forZ src tg b ρ ε = Dh tg b ds ρ ε := by unfold forZ; rw [h]; rfl
abbrev ra (n : Nat) (x : Addr) (a b : D) (z4 z5 z6 : Slot) : Rho := [.fz (.adr x), .fz (.int (n : Int)), .fz a, .fz b, z4, z5, z6]
theorem JS (n : Nat) (x : Addr) (a b : D) {z4 z5 z6 : Slot} (h4 : ∀ d, z4 ≠ .ow d) (h5 : ∀ d, z5 ≠ .ow d) (h6 : ∀ d, z6 ≠ .ow d) : noOw (ra n x a b z4 z5 z6) = true := by
 unfold noOw
 cases z4 with
 | ow d => exact absurd rfl (h4 d)
 | un => cases z5 with
  | ow d => exact absurd rfl (h5 d)
  | un => cases z6 with
   | ow d => exact absurd rfl (h6 d)
   | un => rfl
   | fz d => rfl
  | fz d => cases z6 with
   | ow d => exact absurd rfl (h6 d)
   | un => rfl
   | fz d => rfl
 | fz d => cases z5 with
  | ow d => exact absurd rfl (h5 d)
  | un => cases z6 with
   | ow d => exact absurd rfl (h6 d)
   | un => rfl
   | fz d => rfl
  | fz d => cases z6 with
   | ow d => exact absurd rfl (h6 d)
   | un => rfl
   | fz d => rfl
theorem nfz (d e : D) : Slot.fz d ≠ .ow e := by simp
theorem nun (e : D) : Slot.un ≠ .ow e := by simp
theorem Wi {t : FTE} {g : FS} {ρ : Rho} {ε : Ef} (h : t ρ ε = some false) : ifEZ t g ρ ε = some (.inl (ρ, ε)) := by unfold ifEZ; rw [h]
theorem Wj {t : FTE} {g : FS} {ρ ρ' : Rho} {ε : Ef} {c : Str} {gs : List (Str × D)} (h : t ρ ε = some true) (hg : g ρ = some (.rt (.exc c gs) ρ')) (no : noOw ρ' = true) : ifEZ t g ρ ε = some (.inr (.exc c gs, ρ')) := by
 unfold ifEZ
 rw [h]
 show rtZ (g ρ) = _
 rw [hg]
 show (if _ then _ else _) = _
 rw [if_pos ⟨no, rfl⟩]
theorem Wk (n : Nat) (x : Addr) (a b e : D) (z6 : Slot) (w : Str) (l : List Nat) (p : List (Str × List Nat)) (hs : Sm w) (hw : w.length ≤ 100) (hi : iw w = true) (l1 : l.Nodup) (l2 : l.length ≤ 100) (l3 : ∀ t ∈ l, t < n) (nt : w ∉ p.map (·.1)) (hp : p.length ≤ 3) :
  Ao (ra n x a b (.fz (.str w)) (.fz (lM l)) z6) [fS n, fM p, ("tied", true, e)] = some (.inl (ra n x a b (.fz (.str w)) (.fz (lM l)) z6, [fS n, fM (p ++ [(w, l)]), ("tied", true, e)])) := by
 have e1 := Hw hs hw
 rw [hi] at e1
 have e2 := Ym n l l1 l3 l2
 have e3 : Cg (.dk (oM p)) (.str w) (kM l) = some (.dk (oM (p ++ [(w, l)]))) := by
  rw [Qp _ _ _ (by simp [oM]; omega)]
  have : (.inr w : Key) ∉ (oM p).map (·.1) := Kp kM nt
  rw [putL_new this]
  simp [oM]
 have t0 : GK (notT (trF (BR (BP) (Aa (vF 4) (nilA))))) (ra n x a b (.fz (.str w)) (.fz (lM l)) z6) [fS n, fM p, ("tied", true, e)] = some false := by
  have : notT (trF (BR (BP) (Aa (vF 4) (nilA)))) (ra n x a b (.fz (.str w)) (.fz (lM l)) z6) = some false := by simp only [cK, e1]
  unfold GK
  exact this
 have t1 : JD "marked" (vF 4) (BR (Bt) (Aa (vF 1) (Aa (vF 5) (nilA)))) (ra n x a b (.fz (.str w)) (.fz (lM l)) z6) [fS n, fM p, ("tied", true, e)] = some (ra n x a b (.fz (.str w)) (.fz (lM l)) z6, [fS n, fM (p ++ [(w, l)]), ("tied", true, e)]) := by
  have v1 : BR (Bt) (Aa (vF 1) (Aa (vF 5) (nilA))) (ra n x a b (.fz (.str w)) (.fz (lM l)) z6) = some (kM l) := by simp only [cK, e2]
  have v2 : vF 4 (ra n x a b (.fz (.str w)) (.fz (lM l)) z6) = some (.str w) := rfl
  unfold JD
  rw [v1, v2]
  show (match List.lookup ("marked" : Str) [fS n, fM p, ("tied", true, e)] with | some (true, d) => (Cg d (.str w) (kM l)).map fun d' => (_, repE "marked" d' [fS n, fM p, ("tied", true, e)]) | _ => none) = _
  rw [lkM]
  show (Cg (.dk (oM p)) (.str w) (kM l)).map _ = _
  rw [e3]
  show some (_, repE "marked" _ [fS n, fM p, ("tied", true, e)]) = _
  rw [rpM]
 unfold Ao
 rw [DP, Wi t0, Br]
 exact Gi t1
theorem bQ (n : Nat) (x : Addr) (a b : D) (z6 : Slot) (w : Str) (d5 : D) (ε : Ef) (hs : Sm w) (hw : w.length ≤ 100) (hi : iw w = false) (h6 : ∀ d, z6 ≠ .ow d) :
  Ao (ra n x a b (.fz (.str w)) (.fz d5) z6) ε = some (.inr (EW w, ra n x a b (.fz (.str w)) (.fz d5) z6)) := by
 have e1 := Hw hs hw
 rw [hi] at e1
 have ew := ZL (Wd hs hw)
 have t0 : GK (notT (trF (BR (BP) (Aa (vF 4) (nilA))))) (ra n x a b (.fz (.str w)) (.fz d5) z6) ε = some true := by
  have : notT (trF (BR (BP) (Aa (vF 4) (nilA)))) (ra n x a b (.fz (.str w)) (.fz d5) z6) = some true := by simp only [cK, e1]
  unfold GK
  exact this
 have g0 : retF (excF "NoWord" "word" okSD (vF 4)) (ra n x a b (.fz (.str w)) (.fz d5) z6) = some (.rt (EW w) (ra n x a b (.fz (.str w)) (.fz d5) z6)) := by
  simp only [cK, Wb, ew]
 unfold Ao
 rw [DP, Wj t0 g0 (JS n x a b (nfz _) (nfz _) h6), Gr]
 rfl
theorem ZM (n : Nat) (x : Addr) (a b : D) (z5 : Slot) (ms : List (Str × List Nat)) (w : Str) (l : List (Nat × Nat)) (p : List (Str × List (Nat × Nat))) (hs : Sm w) (hw : w.length ≤ 100) (hi : iw w = true) (nm : w ∉ ms.map (·.1)) (l1 : l.Nodup) (l2 : l.length ≤ 100) (l3 : ∀ t ∈ l, t.1 < n ∧ t.2 < n) (nt : w ∉ p.map (·.1)) (hp : p.length ≤ 3) :
  Aq (ra n x a b (.fz (.str w)) z5 (.fz (lT l))) [fS n, fM ms, fT p] = some (.inl (ra n x a b (.fz (.str w)) z5 (.fz (lT l)), [fS n, fM ms, fT (p ++ [(w, l)])])) := by
 have e1 := Hw hs hw
 rw [hi] at e1
 have e2 := Wh n l l1 l3 l2
 have e3 : Cg (.dk (oT p)) (.str w) (kT l) = some (.dk (oT (p ++ [(w, l)]))) := by
  rw [Qp _ _ _ (by simp [oT]; omega)]
  have : (.inr w : Key) ∉ (oT p).map (·.1) := Kp kT nt
  rw [putL_new this]
  simp [oT]
 have e4 : getK (.inr w : Key) (oM ms) = none := Io (Kp kM nm)
 have v2 : vF 4 (ra n x a b (.fz (.str w)) z5 (.fz (lT l))) = some (.str w) := rfl
 have t0 : orTE (GK (notT (trF (BR (BP) (Aa (vF 4) (nilA)))))) (inTE "marked" (vF 4)) (ra n x a b (.fz (.str w)) z5 (.fz (lT l))) [fS n, fM ms, fT p] = some false := by
  have u1 : notT (trF (BR (BP) (Aa (vF 4) (nilA)))) (ra n x a b (.fz (.str w)) z5 (.fz (lT l))) = some false := by simp only [cK, e1]
  have u2 : inTE "marked" (vF 4) (ra n x a b (.fz (.str w)) z5 (.fz (lT l))) [fS n, fM ms, fT p] = some false := by
   unfold inTE
   rw [v2]
   show (match List.lookup ("marked" : Str) [fS n, fM ms, fT p] with | some (true, .dk kds) => (keyD (.str w)).map fun q => (getK q kds).isSome | _ => none) = _
   rw [lkM]
   show some ((getK (.inr w : Key) (oM ms)).isSome) = _
   rw [e4]
   rfl
  unfold orTE GK
  rw [u1]
  exact u2
 have t1 : JD "tied" (vF 4) (BR (CK) (Aa (vF 1) (Aa (vF 6) (nilA)))) (ra n x a b (.fz (.str w)) z5 (.fz (lT l))) [fS n, fM ms, fT p] = some (ra n x a b (.fz (.str w)) z5 (.fz (lT l)), [fS n, fM ms, fT (p ++ [(w, l)])]) := by
  have v1 : BR (CK) (Aa (vF 1) (Aa (vF 6) (nilA))) (ra n x a b (.fz (.str w)) z5 (.fz (lT l))) = some (kT l) := by simp only [cK, e2]
  unfold JD
  rw [v1, v2]
  show (match List.lookup ("tied" : Str) [fS n, fM ms, fT p] with | some (true, d) => (Cg d (.str w) (kT l)).map fun d' => (_, repE "tied" d' [fS n, fM ms, fT p]) | _ => none) = _
  rw [lkT]
  show (Cg (.dk (oT p)) (.str w) (kT l)).map _ = _
  rw [e3]
  show some (_, repE "tied" _ [fS n, fM ms, fT p]) = _
  rw [rpT]
 unfold Aq
 rw [DP, Wi t0, Br]
 exact Gi t1
theorem cZ (n : Nat) (x : Addr) (a b : D) (z5 : Slot) (w : Str) (d6 : D) (ε : Ef) (hs : Sm w) (hw : w.length ≤ 100) (hi : iw w = false) (h5 : ∀ d, z5 ≠ .ow d) :
  Aq (ra n x a b (.fz (.str w)) z5 (.fz d6)) ε = some (.inr (EW w, ra n x a b (.fz (.str w)) z5 (.fz d6))) := by
 have e1 := Hw hs hw
 rw [hi] at e1
 have ew := ZL (Wd hs hw)
 have t0 : orTE (GK (notT (trF (BR (BP) (Aa (vF 4) (nilA)))))) (inTE "marked" (vF 4)) (ra n x a b (.fz (.str w)) z5 (.fz d6)) ε = some true := by
  have : notT (trF (BR (BP) (Aa (vF 4) (nilA)))) (ra n x a b (.fz (.str w)) z5 (.fz d6)) = some true := by simp only [cK, e1]
  unfold orTE GK
  rw [this]
 have g0 : retF (excF "NoWord" "word" okSD (vF 4)) (ra n x a b (.fz (.str w)) z5 (.fz d6)) = some (.rt (EW w) (ra n x a b (.fz (.str w)) z5 (.fz d6))) := by
  simp only [cK, Wb, ew]
 unfold Aq
 rw [DP, Wj t0 g0 (JS n x a b (nfz _) h5 (nfz _)), Gr]
 rfl
structure Gw (w : Str) : Prop where
 sm : Sm w
 ln : w.length ≤ 100
 iw : iw w = true
structure Bw (w : Str) : Prop where
 sm : Sm w
 ln : w.length ≤ 100
 iw : iw w = false
theorem Dp (tg : FG) (b : FEz) (d : D) (r : List D) (ρ ρ' : Rho) (ε : Ef) (h : tg d ρ = some ρ') (no : noOw ρ' = true) : Dh tg b (d :: r) ρ ε = G4 (b ρ' ε) (Dh tg b r) := by
 show (tg d ρ).bind _ = _
 rw [h]
 show (if _ then _ else _) = _
 rw [if_pos no]
theorem HQ (n : Nat) (x : Addr) (a b : D) (e : D) (z6 : Slot) (h6 : ∀ d, z6 ≠ .ow d) : ∀ (r p : List (Str × List Nat)) (z4 z5 : Slot), ((p ++ r).map (·.1)).Nodup → (∀ q ∈ r, Gw q.1 ∧ q.2.Nodup ∧ q.2.length ≤ 100 ∧ ∀ t ∈ q.2, t < n) → (p ++ r).length ≤ 3 → (∀ d, z4 ≠ .ow d) → (∀ d, z5 ≠ .ow d) →
  ∃ z4' z5', (∀ d, z4' ≠ .ow d) ∧ (∀ d, z5' ≠ .ow d) ∧ Dh (tupG 2 (Bq 4 (Bq 5 nilG))) Ao (r.map fun q => .tup [.str q.1, lM q.2]) (ra n x a b z4 z5 z6) [fS n, fM p, ("tied", true, e)] = some (.inl (ra n x a b z4' z5' z6, [fS n, fM (p ++ r), ("tied", true, e)]))
 | [], p, z4, z5, _, _, _, h4, h5 => ⟨z4, z5, h4, h5, by rw [List.append_nil]; rfl⟩
 | t :: r, p, z4, z5, nd, hl, hlen, h4, h5 => by
  obtain ⟨w, l⟩ := t
  obtain ⟨hw, l1, l2, l3⟩ := hl (w, l) (by simp)
  have nt : w ∉ p.map (·.1) := by
   intro q
   rw [List.map_append, List.nodup_append] at nd
   exact nd.2.2 w q w (by simp) rfl
  have b0 := Wk n x a b e z6 w l p hw.sm hw.ln hw.iw l1 l2 l3 nt (by simp at hlen; omega)
  obtain ⟨z4', z5', g4, g5, ih⟩ := HQ n x a b e z6 h6 r (p ++ [(w, l)]) (.fz (.str w)) (.fz (lM l)) (by simpa using nd) (fun u hu => hl u (by simp [hu])) (by simpa using hlen) (nfz _) (nfz _)
  refine ⟨z4', z5', g4, g5, ?_⟩
  rw [List.map_cons, Dp _ _ _ _ _ (ra n x a b (.fz (.str w)) (.fz (lM l)) z6) _ (by rw [Dl]; rfl) (JS n x a b (nfz _) (nfz _) h6), b0, Br, ih]
  simp
theorem Ln (n : Nat) (x : Addr) (a b : D) (e : D) (z6 : Slot) (h6 : ∀ d, z6 ≠ .ow d) (w : Str) (d5 : D) (rest : List D) (hb : Bw w) : ∀ (r p : List (Str × List Nat)) (z4 z5 : Slot), ((p ++ r).map (·.1)).Nodup → (∀ q ∈ r, Gw q.1 ∧ q.2.Nodup ∧ q.2.length ≤ 100 ∧ ∀ t ∈ q.2, t < n) → (p ++ r).length ≤ 3 →
  ∃ ρ, Dh (tupG 2 (Bq 4 (Bq 5 nilG))) Ao ((r.map fun q => .tup [.str q.1, lM q.2]) ++ (.tup [.str w, d5] :: rest)) (ra n x a b z4 z5 z6) [fS n, fM p, ("tied", true, e)] = some (.inr (EW w, ρ))
 | [], p, z4, z5, _, _, _ => by
  refine ⟨ra n x a b (.fz (.str w)) (.fz d5) z6, ?_⟩
  rw [List.map_nil, List.nil_append, Dp _ _ _ _ _ (ra n x a b (.fz (.str w)) (.fz d5) z6) _ (by rw [Dl]; rfl) (JS n x a b (nfz _) (nfz _) h6), bQ n x a b z6 w d5 _ hb.sm hb.ln hb.iw h6, Gr]
 | t :: r, p, z4, z5, nd, hl, hlen => by
  obtain ⟨u, l⟩ := t
  obtain ⟨hw, l1, l2, l3⟩ := hl (u, l) (by simp)
  have nt : u ∉ p.map (·.1) := by
   intro q
   rw [List.map_append, List.nodup_append] at nd
   exact nd.2.2 u q u (by simp) rfl
  have b0 := Wk n x a b e z6 u l p hw.sm hw.ln hw.iw l1 l2 l3 nt (by simp at hlen; omega)
  obtain ⟨ρ, ih⟩ := Ln n x a b e z6 h6 w d5 rest hb r (p ++ [(u, l)]) (.fz (.str u)) (.fz (lM l)) (by simpa using nd) (fun v hv => hl v (by simp [hv])) (by simpa using hlen)
  refine ⟨ρ, ?_⟩
  rw [List.map_cons, List.cons_append, Dp _ _ _ _ _ (ra n x a b (.fz (.str u)) (.fz (lM l)) z6) _ (by rw [Dl]; rfl) (JS n x a b (nfz _) (nfz _) h6), b0, Br, ih]
theorem Lp (n : Nat) (x : Addr) (a b : D) (ms : List (Str × List Nat)) (z5 : Slot) (h5 : ∀ d, z5 ≠ .ow d) : ∀ (r p : List (Str × List (Nat × Nat))) (z4 z6 : Slot), ((p ++ r).map (·.1)).Nodup → (∀ q ∈ r, Gw q.1 ∧ q.1 ∉ ms.map (·.1) ∧ q.2.Nodup ∧ q.2.length ≤ 100 ∧ ∀ t ∈ q.2, t.1 < n ∧ t.2 < n) → (p ++ r).length ≤ 3 →
  ∃ z4' z6', Dh (tupG 2 (Bq 4 (Bq 6 nilG))) Aq (r.map fun q => .tup [.str q.1, lT q.2]) (ra n x a b z4 z5 z6) [fS n, fM ms, fT p] = some (.inl (ra n x a b z4' z5 z6', [fS n, fM ms, fT (p ++ r)]))
 | [], p, z4, z6, _, _, _ => ⟨z4, z6, by rw [List.append_nil]; rfl⟩
 | t :: r, p, z4, z6, nd, hl, hlen => by
  obtain ⟨w, l⟩ := t
  obtain ⟨hw, nm, l1, l2, l3⟩ := hl (w, l) (by simp)
  have nt : w ∉ p.map (·.1) := by
   intro q
   rw [List.map_append, List.nodup_append] at nd
   exact nd.2.2 w q w (by simp) rfl
  have b0 := ZM n x a b z5 ms w l p hw.sm hw.ln hw.iw nm l1 l2 l3 nt (by simp at hlen; omega)
  obtain ⟨z4', z6', ih⟩ := Lp n x a b ms z5 h5 r (p ++ [(w, l)]) (.fz (.str w)) (.fz (lT l)) (by simpa using nd) (fun u hu => hl u (by simp [hu])) (by simpa using hlen)
  refine ⟨z4', z6', ?_⟩
  rw [List.map_cons, Dp _ _ _ _ _ (ra n x a b (.fz (.str w)) z5 (.fz (lT l))) _ (by rw [Dl]; rfl) (JS n x a b (nfz _) h5 (nfz _)), b0, Br, ih]
  simp
theorem QB (n : Nat) (x : Addr) (a b : D) (ms : List (Str × List Nat)) (z5 : Slot) (h5 : ∀ d, z5 ≠ .ow d) (w : Str) (d6 : D) (rest : List D) (hb : Bw w) : ∀ (r p : List (Str × List (Nat × Nat))) (z4 z6 : Slot), ((p ++ r).map (·.1)).Nodup → (∀ q ∈ r, Gw q.1 ∧ q.1 ∉ ms.map (·.1) ∧ q.2.Nodup ∧ q.2.length ≤ 100 ∧ ∀ t ∈ q.2, t.1 < n ∧ t.2 < n) → (p ++ r).length ≤ 3 →
  ∃ ρ, Dh (tupG 2 (Bq 4 (Bq 6 nilG))) Aq ((r.map fun q => .tup [.str q.1, lT q.2]) ++ (.tup [.str w, d6] :: rest)) (ra n x a b z4 z5 z6) [fS n, fM ms, fT p] = some (.inr (EW w, ρ))
 | [], p, z4, z6, _, _, _ => by
  refine ⟨ra n x a b (.fz (.str w)) z5 (.fz d6), ?_⟩
  rw [List.map_nil, List.nil_append, Dp _ _ _ _ _ (ra n x a b (.fz (.str w)) z5 (.fz d6)) _ (by rw [Dl]; rfl) (JS n x a b (nfz _) h5 (nfz _)), cZ n x a b z5 w d6 _ hb.sm hb.ln hb.iw h5, Gr]
 | t :: r, p, z4, z6, nd, hl, hlen => by
  obtain ⟨u, l⟩ := t
  obtain ⟨hw, nm, l1, l2, l3⟩ := hl (u, l) (by simp)
  have nt : u ∉ p.map (·.1) := by
   intro q
   rw [List.map_append, List.nodup_append] at nd
   exact nd.2.2 u q u (by simp) rfl
  have b0 := ZM n x a b z5 ms u l p hw.sm hw.ln hw.iw nm l1 l2 l3 nt (by simp at hlen; omega)
  obtain ⟨ρ, ih⟩ := QB n x a b ms z5 h5 w d6 rest hb r (p ++ [(u, l)]) (.fz (.str u)) (.fz (lT l)) (by simpa using nd) (fun v hv => hl v (by simp [hv])) (by simpa using hlen)
  refine ⟨ρ, ?_⟩
  rw [List.map_cons, List.cons_append, Dp _ _ _ _ _ (ra n x a b (.fz (.str u)) z5 (.fz (lT l))) _ (by rw [Dl]; rfl) (JS n x a b (nfz _) h5 (nfz _)), b0, Br, ih]
theorem Ir (n : Nat) (hn : n ≤ 5) (a b : List (Key × D)) (ha : a.length ≤ 3) (hb : b.length ≤ 3) (x : Addr) (o : Option (Sum Ef D))
  (h : (G4 (forZ (FP (vF 2)) (tupG 2 (Bq 4 (Bq 5 (nilG)))) Ao (ra n x (.dk a) (.dk b) .un .un .un) [fS n, fM [], fT []]) (seqZ (forZ (FP (vF 3)) (tupG 2 (Bq 4 (Bq 6 (nilG)))) Aq) nilZ)).map endZ = o) :
  Ag x [.int (n : Int), .dk a, .dk b] = o := by
 have r1 := Ko (n : Int) 5 (by omega)
 have r2 := Ko (a.length : Int) 3 (by omega)
 have r3 := Ko (b.length : Int) 3 (by omega)
 have no : noOw (ra n x (.dk a) (.dk b) .un .un .un) = true := rfl
 have p1 : pureE (DX (BR (BL) (Aa (vF 1) (Aa (kF (.int 5)) (nilA))))) (ra n x (.dk a) (.dk b) .un .un .un) [] = some (ra n x (.dk a) (.dk b) .un .un .un, []) := N6 (by simp only [cK, r1]) no
 have p2 : pureE (DX (BR (BL) (Aa (uF lenE (vF 2)) (Aa (kF (.int 3)) (nilA))))) (ra n x (.dk a) (.dk b) .un .un .un) [] = some (ra n x (.dk a) (.dk b) .un .un .un, []) := N6 (by simp only [dK, r2]) no
 have p3 : pureE (DX (BR (BL) (Aa (uF lenE (vF 3)) (Aa (kF (.int 3)) (nilA))))) (ra n x (.dk a) (.dk b) .un .un .un) [] = some (ra n x (.dk a) (.dk b) .un .un .un, []) := N6 (by simp only [dK, r3]) no
 have s1 : R3 "size" (vF 1) (ra n x (.dk a) (.dk b) .un .un .un) [] = some (ra n x (.dk a) (.dk b) .un .un .un, [fS n]) := rfl
 have s2 : JC "marked" (kF (.dk [])) (ra n x (.dk a) (.dk b) .un .un .un) [fS n] = some (ra n x (.dk a) (.dk b) .un .un .un, [fS n, fM []]) := by
  have l : List.lookup ("marked" : Str) [fS n] = none := by
   rw [List.lookup_cons, q1]
   rfl
  unfold JC
  show (if (List.lookup ("marked" : Str) [fS n]).isNone = true ∧ [fS n].length < 1000 then some (_, [fS n] ++ [(("marked" : Str), true, D.dk [])]) else none) = _
  rw [l, if_pos ⟨rfl, (by show 1 < 1000; decide)⟩]
  rfl
 have s3 : JC "tied" (kF (.dk [])) (ra n x (.dk a) (.dk b) .un .un .un) [fS n, fM []] = some (ra n x (.dk a) (.dk b) .un .un .un, [fS n, fM [], fT []]) := by
  have l : List.lookup ("tied" : Str) [fS n, fM []] = none := by
   rw [List.lookup_cons, q2]
   show List.lookup ("tied" : Str) [fM []] = none
   rw [List.lookup_cons, q3]
   rfl
  unfold JC
  show (if (List.lookup ("tied" : Str) [fS n, fM []]).isNone = true ∧ [fS n, fM []].length < 1000 then some (_, [fS n, fM []] ++ [(("tied" : Str), true, D.dk [])]) else none) = _
  rw [l, if_pos ⟨rfl, (by show 2 < 1000; decide)⟩]
  rfl
 have st : Ny 7 x [.int (n : Int), .dk a, .dk b] = ra n x (.dk a) (.dk b) .un .un .un := rfl
 unfold Ag Px
 rw [if_pos (show [D.int (n : Int), .dk a, .dk b].length + 1 = 4 from rfl), st]
 unfold DN
 rw [DP, Gi p1, Br, DP, Gi p2, Br, DP, Gi p3, Br, DP, Gi s1, Br, DP, Gi s2, Br, DP, Gi s3, Br, DP]
 exact h
theorem Oj (n : Nat) (x : Addr) (a : List (Key × D)) (b : D) (z4 z5 z6 : Slot) : FP (vF 2) (ra n x (.dk a) b z4 z5 z6) = some (a.map fun p => D.tup [kDt p.1, p.2]) := rfl
theorem TF (n : Nat) (x : Addr) (a : D) (b : List (Key × D)) (z4 z5 z6 : Slot) : FP (vF 3) (ra n x a (.dk b) z4 z5 z6) = some (b.map fun p => D.tup [kDt p.1, p.2]) := rfl
theorem it_M (ms : List (Str × List Nat)) : ((eM ms).map fun p => D.tup [kDt p.1, p.2]) = ms.map fun q => .tup [.str q.1, lM q.2] := by simp only [eM, List.map_map, Function.comp_def, Ld]
theorem it_T (ts : List (Str × List (Nat × Nat))) : ((eT ts).map fun p => D.tup [kDt p.1, p.2]) = ts.map fun q => .tup [.str q.1, lT q.2] := by simp only [eT, List.map_map, Function.comp_def, Ld]
structure WOk (W : Wl) : Prop where
 n5 : W.n ≤ 5
 m3 : W.ms.length ≤ 3
 t3 : W.ts.length ≤ 3
 mw : ∀ p ∈ W.ms, Gw p.1
 tw : ∀ p ∈ W.ts, Gw p.1
 nd : (W.ms.map (·.1) ++ W.ts.map (·.1)).Nodup
 ml : ∀ p ∈ W.ms, p.2.Nodup ∧ p.2.length ≤ 100 ∧ ∀ t ∈ p.2, t < W.n
 tl : ∀ p ∈ W.ts, p.2.Nodup ∧ p.2.length ≤ 100 ∧ ∀ q ∈ p.2, q.1 < W.n ∧ q.2 < W.n
theorem Yn (W : Wl) (h : WOk W) (x : Addr) : Ag x [.int (W.n : Int), .dk (eM W.ms), .dk (eT W.ts)] = some (.inl [fS W.n, fM W.ms, fT W.ts]) := by
 have ndm : (W.ms.map (·.1)).Nodup := (List.nodup_append.mp h.nd).1
 have ndt : (W.ts.map (·.1)).Nodup := (List.nodup_append.mp h.nd).2.1
 obtain ⟨z4, z5, g4, g5, m⟩ := HQ W.n x (.dk (eM W.ms)) (.dk (eT W.ts)) (.dk []) .un nun W.ms [] .un .un (by simpa using ndm) (fun q hq => ⟨h.mw q hq, h.ml q hq⟩) (by simpa using h.m3) nun nun
 obtain ⟨z4', z6', t⟩ := Lp W.n x (.dk (eM W.ms)) (.dk (eT W.ts)) W.ms z5 g5 W.ts [] z4 .un (by simpa using ndt) (fun q hq => ⟨h.tw q hq, fun z => (List.nodup_append.mp h.nd).2.2 q.1 z q.1 (List.mem_map.mpr ⟨q, hq, rfl⟩) rfl, h.tl q hq⟩) (by simpa using h.t3)
 rw [List.nil_append] at m t
 change Dh _ _ _ _ [fS W.n, fM [], fT []] = some (.inl (_, [fS W.n, fM W.ms, fT []])) at m
 refine Ir W.n h.n5 _ _ (by have := h.m3; simp [eM]; omega) (by have := h.t3; simp [eT]; omega) x _ ?_
 rw [Kq (Oj _ _ _ _ _ _ _), it_M, m, Br, DP, Kq (TF _ _ _ _ _ _ _), it_T, t, Br, bO]
 rfl
theorem Yo (n : Nat) (hn : n ≤ 5) (r : List (Str × List Nat)) (w : Str) (l : List Nat) (rest : List (Str × List Nat)) (ts : List (Str × List (Nat × Nat))) (hb : Bw w) (nd : (r.map (·.1)).Nodup) (hg : ∀ q ∈ r, Gw q.1 ∧ q.2.Nodup ∧ q.2.length ≤ 100 ∧ ∀ t ∈ q.2, t < n) (hl : (r ++ (w, l) :: rest).length ≤ 3) (ht : ts.length ≤ 3) (x : Addr) :
  Ag x [.int (n : Int), .dk (eM (r ++ (w, l) :: rest)), .dk (eT ts)] = some (.inr (EW w)) := by
 obtain ⟨ρ, m⟩ := Ln n x (.dk (eM (r ++ (w, l) :: rest))) (.dk (eT ts)) (.dk []) .un nun w (lM l) (rest.map fun q => .tup [.str q.1, lM q.2]) hb r [] .un .un (by simpa using nd) hg (by simp at hl ⊢; omega)
 change Dh _ _ _ _ [fS n, fM [], fT []] = some (.inr (_, _)) at m
 refine Ir n hn _ _ (by simp [eM] at hl ⊢; omega) (by simp [eT]; omega) x _ ?_
 rw [Kq (Oj _ _ _ _ _ _ _), it_M, List.map_append, List.map_cons, m, Gr]
 rfl
theorem Yp (n : Nat) (hn : n ≤ 5) (ms : List (Str × List Nat)) (r : List (Str × List (Nat × Nat))) (w : Str) (l : List (Nat × Nat)) (rest : List (Str × List (Nat × Nat))) (hb : Bw w) (ndm : (ms.map (·.1)).Nodup) (hm : ∀ q ∈ ms, Gw q.1 ∧ q.2.Nodup ∧ q.2.length ≤ 100 ∧ ∀ t ∈ q.2, t < n) (hm3 : ms.length ≤ 3)
  (nd : (r.map (·.1)).Nodup) (hg : ∀ q ∈ r, Gw q.1 ∧ q.1 ∉ ms.map (·.1) ∧ q.2.Nodup ∧ q.2.length ≤ 100 ∧ ∀ t ∈ q.2, t.1 < n ∧ t.2 < n) (hl : (r ++ (w, l) :: rest).length ≤ 3) (x : Addr) :
  Ag x [.int (n : Int), .dk (eM ms), .dk (eT (r ++ (w, l) :: rest))] = some (.inr (EW w)) := by
 obtain ⟨z4, z5, g4, g5, m⟩ := HQ n x (.dk (eM ms)) (.dk (eT (r ++ (w, l) :: rest))) (.dk []) .un nun ms [] .un .un (by simpa using ndm) hm (by simpa using hm3) nun nun
 obtain ⟨ρ, t⟩ := QB n x (.dk (eM ms)) (.dk (eT (r ++ (w, l) :: rest))) ms z5 g5 w (lT l) (rest.map fun q => .tup [.str q.1, lT q.2]) hb r [] z4 .un (by simpa using nd) hg (by simp at hl ⊢; omega)
 rw [List.nil_append] at m
 change Dh _ _ _ _ [fS n, fM [], fT []] = some (.inl (_, [fS n, fM ms, fT []])) at m
 refine Ir n hn _ _ (by simp [eM]; omega) (by simp [eT] at hl ⊢; omega) x _ ?_
 rw [Kq (Oj _ _ _ _ _ _ _), it_M, m, Br, DP, Kq (TF _ _ _ _ _ _ _), it_T, List.map_append, List.map_cons, t, Gr]
 rfl
theorem mk_l {c : Str} {g : Addr → List D → Option (Sum Ef D)} {fs : FA} {ρ : Rho} {ds : List D} {ε : Ef} (hf : fs ρ = some ds) (h : ∀ y, g y ds = some (.inl ε)) : mkIZ c g fs ρ = some (finE c ε) := by
 unfold mkIZ
 rw [hf]
 simp only [Option.bind_some, h]
 rw [if_pos h]
theorem mk_r {c : Str} {g : Addr → List D → Option (Sum Ef D)} {fs : FA} {ρ : Rho} {ds : List D} {c' : Str} {gs : List (Str × D)} (hf : fs ρ = some ds) (h : ∀ y, g y ds = some (.inr (.exc c' gs))) : mkIZ c g fs ρ = some (.exc c' gs) := by
 unfold mkIZ
 rw [hf]
 simp only [Option.bind_some, h]
 rw [if_pos h]
 rfl
end K02
namespace K02
open PySem L2 PV
abbrev CS : List Str := ["NoWord"]
def rows (ws : List Str) : List (Key × D) := ws.map fun w => ((.inr w : Key), D.lst [])
theorem Wm (ws : List Str) : rows ws = eM (ws.map fun w => (w, [])) := by simp [rows, eM, lM, Function.comp_def]
theorem Wn (ws : List Str) : rows ws = eT (ws.map fun w => (w, [])) := by simp [rows, eT, lT, Function.comp_def]
theorem Iu (s0 s1 : Slot) (s4 s5 : Slot) : ∀ (r p : List Str) (z : Slot), (p ++ r).Nodup → (p ++ r).length ≤ 100 →
  ∃ z', forF (tgB (Dg 3) DR) (r.map .str) [s0, s1, .ow (.dk (rows p)), z, s4, s5] = some (.nx [s0, s1, .ow (.dk (rows (p ++ r))), z', s4, s5])
 | [], p, z, _, _ => ⟨z, by rw [List.append_nil]; rfl⟩
 | x :: r, p, z, nd, hl => by
  have nt : x ∉ p := by
   intro q
   rw [List.nodup_append] at nd
   exact nd.2.2 x q x (by simp) rfl
  have pk : Cg (.dk (rows p)) (.str x) (.lst []) = some (.dk (rows (p ++ [x]))) := by
   rw [Qp _ _ _ (by simp [rows] at hl ⊢; omega)]
   have : (.inr x : Key) ∉ (rows p).map (·.1) := by
    intro q
    rw [rows, List.map_map] at q
    obtain ⟨u, hu, e⟩ := List.mem_map.mp q
    simp at e
    exact nt (e ▸ hu)
   rw [putL_new this]
   simp [rows]
  have b : DR [s0, s1, .ow (.dk (rows p)), .fz (.str x), s4, s5] = some (.nx [s0, s1, .ow (.dk (rows (p ++ [x]))), .fz (.str x), s4, s5]) := by
   simp only [cK, DR, Vv, Qo, J9, pk]
  obtain ⟨z', ih⟩ := Iu s0 s1 s4 s5 r (p ++ [x]) (.fz (.str x)) (by simpa using nd) (by simpa using hl)
  refine ⟨z', ?_⟩
  rw [List.map_cons, Bs, e_tg, E_, Gz]
  simp only [List.set_cons_zero, List.set_cons_succ]
  rw [b, Dj, ih]
  simp
theorem Ol (cs : List Str) (i : Nat) (g h : FS) (ρ : Rho) : tryF cs i g h ρ = tryO cs i h (g ρ) := of_eq_true (eq_self _)
theorem Wo (cs : List Str) (i : Nat) (h : FS) (ρ : Rho) : tryO cs i h (some (.nx ρ)) = some (.nx ρ) := of_eq_true (eq_self _)
theorem Wq (i : Nat) (ρ : Rho) : offO i (some (.nx ρ)) = some (.nx (ρ.set i .un)) := of_eq_true (eq_self _)
theorem Wr : CS.contains ("NoWord" : Str) = true := by decide +kernel
def RW (w : Str) : D := .err "NoWord" [("word", .str w)]
theorem Ws (i : Nat) (h : FS) (y : Str) (ρ : Rho) : tryO CS i h (some (.rt (EW y) ρ)) = offO i (h (ρ.set i (.fz (RW y)))) := by
 show (if CS.contains ("NoWord" : Str) = true then offO i (h (ρ.set i (.fz (RW y)))) else none) = _
 rw [if_pos Wr]
def szO (i : Nat) (ρ : Rho) (o : Option D) : Option Out := o.map fun d => match excOf d with | some _ => .rt d ρ | none => .nx (ρ.set i (.fz d))
theorem Om (i : Nat) (f : FE) (ρ : Rho) : setZ i f ρ = szO i ρ (f ρ) := of_eq_true (eq_self _)
theorem cg (i : Nat) (ρ : Rho) (c : Str) (gs : List (Str × D)) : szO i ρ (some (.ob c gs)) = some (.nx (ρ.set i (.fz (.ob c gs)))) := of_eq_true (eq_self _)
theorem ZP (i : Nat) (ρ : Rho) (w : Str) : szO i ρ (some (EW w)) = some (.rt (EW w) ρ) := of_eq_true (eq_self _)
theorem TJ (i : Nat) (g : FS) (ρ : Rho) : fzS [i] g ρ = g (frzO ρ i (ρ[i]?)) := by
 rfl
abbrev wm (ws : List Str) : List (Str × List Nat) := ws.map fun w => (w, [])
abbrev wt (ws : List Str) : List (Str × List (Nat × Nat)) := ws.map fun w => (w, [])
theorem wm1 (ws : List Str) : (wm ws).map (·.1) = ws := by simp [wm, Function.comp_def]
theorem wt1 (ws : List Str) : (wt ws).map (·.1) = ws := by simp [wt, Function.comp_def]
def WM (b : Bool) (ws : List Str) : Wl := if b then { n := 2, ms := [("mark", [1])], ts := wt ws } else { n := 2, ms := wm ws, ts := [("tie", [(0, 1)])] }
theorem gw_c {w : Str} (h : (decide (∀ c ∈ cs w, c < 128) && decide (w.length ≤ 100) && iw w) = true) : Gw w := by
 simp only [Bool.and_eq_true, decide_eq_true_eq] at h
 exact ⟨h.1.1, h.1.2, h.2⟩
theorem TQ : Gw "mark" := gw_c (by decide +kernel)
theorem bR : Gw "tie" := gw_c (by decide +kernel)
theorem Hx : Gw "goodone" := gw_c (by decide +kernel)
theorem Wt : Gw "other" := gw_c (by decide +kernel)
structure Gl (b : Bool) (ws : List Str) : Prop where
 gw : ∀ w ∈ ws, Gw w
 nd : ws.Nodup
 ln : ws.length ≤ 2
 nm : b = true → ("mark" : Str) ∉ ws
 nt : b = false → ("tie" : Str) ∉ ws
theorem wok {b : Bool} {ws : List Str} (h : Gl b ws) : WOk (WM b ws) := by
 have l := h.ln
 cases b with
 | true =>
  refine ⟨by show 2 ≤ 5; decide, by show [(("mark" : Str), [1])].length ≤ 3; simp, by show (wt ws).length ≤ 3; simp [wt]; omega, fun p hp => ?_, fun p hp => ?_, ?_, fun p hp => ?_, fun p hp => ?_⟩
  ·obtain rfl : p = (("mark" : Str), [1]) := by simpa [WM] using hp
   exact TQ
  ·obtain ⟨w, hw, rfl⟩ := List.mem_map.mp (show p ∈ wt ws from hp)
   exact h.gw w hw
  ·show ([("mark" : Str)] ++ (wt ws).map (·.1)).Nodup
   rw [wt1]
   exact List.nodup_cons.mpr ⟨h.nm rfl, h.nd⟩
  ·obtain rfl : p = (("mark" : Str), [1]) := by simpa [WM] using hp
   exact ⟨by simp, by simp, by show ∀ t ∈ [1], t < 2; simp⟩
  ·obtain ⟨w, hw, rfl⟩ := List.mem_map.mp (show p ∈ wt ws from hp)
   exact ⟨by simp, by simp, by simp⟩
 | false =>
  refine ⟨by show 2 ≤ 5; decide, by show (wm ws).length ≤ 3; simp [wm]; omega, by show [(("tie" : Str), [(0, 1)])].length ≤ 3; simp, fun p hp => ?_, fun p hp => ?_, ?_, fun p hp => ?_, fun p hp => ?_⟩
  ·obtain ⟨w, hw, rfl⟩ := List.mem_map.mp (show p ∈ wm ws from hp)
   exact h.gw w hw
  ·obtain rfl : p = (("tie" : Str), [(0, 1)]) := by simpa [WM] using hp
   exact bR
  ·show ((wm ws).map (·.1) ++ [("tie" : Str)]).Nodup
   rw [wm1]
   refine List.nodup_append.mpr ⟨h.nd, by simp, fun x hx y hy e => ?_⟩
   simp at hy
   subst hy
   exact h.nt rfl (e ▸ hx)
  ·obtain ⟨w, hw, rfl⟩ := List.mem_map.mp (show p ∈ wm ws from hp)
   exact ⟨by simp, by simp, by simp⟩
  ·obtain rfl : p = (("tie" : Str), [(0, 1)]) := by simpa [WM] using hp
   exact ⟨by simp, by simp, by show ∀ q ∈ [((0 : Nat), (1 : Nat))], q.1 < 2 ∧ q.2 < 2; simp⟩
theorem ZQ (W : Wl) : finE "World" [fS W.n, fM W.ms, fT W.ts] = wob W := rfl
theorem Ub {b : Bool} {ws : List Str} (h : Gl b ws) : BZ [.lst (ws.map .str), .bl b] = some (wob (WM b ws)) := by
 have l := h.ln
 have ini := Yn (WM b ws) (wok h)
 obtain ⟨z, lo⟩ := Iu (.fz (.lst (ws.map .str))) (.fz (.bl b)) .un .un ws [] .un (by simpa using h.nd) (by simp; omega)
 rw [List.nil_append] at lo
 have e0 : D.dk [] = .dk (rows []) := rfl
 have wo : ∀ i ρ, szO i ρ (some (wob (WM b ws))) = some (.nx (ρ.set i (.fz (wob (WM b ws))))) := fun i ρ => cg i ρ _ _
 cases b with
 | true =>
  have mk := mk_l (c := "World") (g := Ag) (fs := Aa (kF (.int 2)) (Aa (JG (kF (.str "mark")) (lstF (Aa (kF (.int 1)) (nilA)))) (Aa (vF 2) (nilA)))) (ρ := [.fz (.lst (ws.map .str)), .fz (.bl true), .fz (.dk (rows ws)), z, .fz .non, .un]) (ds := [.int ((2 : Nat) : Int), .dk (eM [("mark", [1])]), .dk (eT (wt ws))]) (by rw [← Wn]; rfl) ini
  rw [ZQ] at mk
  simp only [cK, BZ, Ck, Fy, Ea, e0, FW, Fb, lo, TJ, Im, Ol, Om, mk, wo, Wo]
 | false =>
  have mk := mk_l (c := "World") (g := Ag) (fs := Aa (kF (.int 2)) (Aa (vF 2) (Aa (JG (kF (.str "tie")) (lstF (Aa (tupF (Aa (kF (.int 0)) (Aa (kF (.int 1)) (nilA)))) (nilA)))) (nilA)))) (ρ := [.fz (.lst (ws.map .str)), .fz (.bl false), .fz (.dk (rows ws)), z, .fz .non, .un]) (ds := [.int ((2 : Nat) : Int), .dk (eM (wm ws)), .dk (eT [("tie", [(0, 1)])])]) (by rw [← Wm]; rfl) ini
  rw [ZQ] at mk
  simp only [cK, BZ, Ck, Fy, Ea, e0, FW, Fb, lo, TJ, Im, Ol, Om, mk, wo, Wo]
theorem QC {b : Bool} {ws : List Str} {w : Str} {p r : List Str} (e : ws = p ++ w :: r) (hb : Bw w) (hp : ∀ x ∈ p, Gw x ∧ x ≠ "mark") (nd : ws.Nodup) (ln : ws.length ≤ 2) : BZ [.lst (ws.map .str), .bl b] = some (RW w) := by
 obtain ⟨z, lo⟩ := Iu (.fz (.lst (ws.map .str))) (.fz (.bl b)) .un .un ws [] .un (by simpa using nd) (by simp; omega)
 rw [List.nil_append] at lo
 have e0 : D.dk [] = .dk (rows []) := rfl
 have ndp : p.Nodup := by rw [e] at nd; exact (List.nodup_append.mp nd).1
 cases b with
 | true =>
  have ini : ∀ y, Ag y [.int ((2 : Nat) : Int), .dk (eM [("mark", [1])]), .dk (eT (wt ws))] = some (.inr (EW w)) := fun y => by
   rw [e, wt, List.map_append, List.map_cons]
   refine Yp 2 (by decide) [("mark", [1])] (wt p) w [] (wt r) hb (by simp) (fun q hq => ?_) (by simp) (by rw [wt1]; exact ndp) (fun q hq => ?_) (by rw [e] at ln; simp [wt] at ln ⊢; omega) y
   ·obtain rfl : q = (("mark" : Str), [1]) := by simpa using hq
    exact ⟨TQ, by simp, by simp, by show ∀ t ∈ [1], t < 2; simp⟩
   ·obtain ⟨u, hu, rfl⟩ := List.mem_map.mp hq
    exact ⟨(hp u hu).1, by simpa using (hp u hu).2, by simp, by simp, by simp⟩
  have mk := mk_r (c := "World") (g := Ag) (fs := Aa (kF (.int 2)) (Aa (JG (kF (.str "mark")) (lstF (Aa (kF (.int 1)) (nilA)))) (Aa (vF 2) (nilA)))) (ρ := [.fz (.lst (ws.map .str)), .fz (.bl true), .fz (.dk (rows ws)), z, .fz .non, .un]) (ds := [.int ((2 : Nat) : Int), .dk (eM [("mark", [1])]), .dk (eT (wt ws))]) (c' := "NoWord") (gs := [("word", .str w)]) (by rw [← Wn]; rfl) ini
  replace mk : _ = some (EW w) := mk
  simp only [cK, BZ, Ck, Fy, Ea, e0, FW, Fb, lo, TJ, Im, Ol, Om, mk, ZP, Ws, Wq]
 | false =>
  have ini : ∀ y, Ag y [.int ((2 : Nat) : Int), .dk (eM (wm ws)), .dk (eT [("tie", [(0, 1)])])] = some (.inr (EW w)) := fun y => by
   rw [e, wm, List.map_append, List.map_cons]
   refine Yo 2 (by decide) (wm p) w [] (wm r) _ hb (by rw [wm1]; exact ndp) (fun q hq => ?_) (by rw [e] at ln; simp [wm] at ln ⊢; omega) (by simp) y
   obtain ⟨u, hu, rfl⟩ := List.mem_map.mp hq
   exact ⟨(hp u hu).1, by simp, by simp, by simp⟩
  have mk := mk_r (c := "World") (g := Ag) (fs := Aa (kF (.int 2)) (Aa (vF 2) (Aa (JG (kF (.str "tie")) (lstF (Aa (tupF (Aa (kF (.int 0)) (Aa (kF (.int 1)) (nilA)))) (nilA)))) (nilA)))) (ρ := [.fz (.lst (ws.map .str)), .fz (.bl false), .fz (.dk (rows ws)), z, .fz .non, .un]) (ds := [.int ((2 : Nat) : Int), .dk (eM (wm ws)), .dk (eT [("tie", [(0, 1)])])]) (c' := "NoWord") (gs := [("word", .str w)]) (by rw [← Wm]; rfl) ini
  replace mk : _ = some (EW w) := mk
  simp only [cK, BZ, Ck, Fy, Ea, e0, FW, Fb, lo, TJ, Im, Ol, Om, mk, ZP, Ws, Wq]
end K02
namespace K02
open PySem L2 PV
theorem Wu (ms : List (Str × List Nat)) : (oM ms).map (fun p => kDt p.1) = (ms.map (·.1)).map .str := by simp [oM, Ld]
theorem Wv (ts : List (Str × List (Nat × Nat))) : (oT ts).map (fun p => kDt p.1) = (ts.map (·.1)).map .str := by simp [oT, Ld]
theorem Ww {k : List (Key × D)} {zs : List Str} (h : k.map (fun p => kDt p.1) = zs.map .str) (nd : zs.Nodup) (hl : zs.length ≤ 60) : sdkD (.dk k) = some (.lst ((Bv zs).map .str)) := by
 show sdkL k = _
 unfold sdkL
 rw [h, K8, Option.bind_some, if_pos ⟨nd, hl⟩]
theorem Oo (zs : List Str) : eqD false (.lst (zs.map .str)) (.lst (zs.map .str)) = some (.bl true) := by
 have h : ∀ zs : List Str, allO (eqK 180) (zs.map .str) (zs.map .str) = some true := fun zs => by
  induction zs with
  | nil => rfl
  | cons z r ih =>
   show (match eqK 180 (.str z) (.str z), allO (eqK 180) (r.map .str) (r.map .str) with | some a, some b => some (a && b) | _, _ => none) = _
   rw [ih]
   have : eqK 180 (.str z) (.str z) = some true := by show some (eqV (.str z) (.str z)) = _; simp [eqV]
   rw [this]
   rfl
 show (eqvD (.lst (zs.map .str)) (.lst (zs.map .str))).map _ = _
 show ((if (zs.map D.str).length = (zs.map D.str).length then allO (eqK 180) (zs.map .str) (zs.map .str) else some false).map fun b => D.bl (if false then !b else b)) = _
 rw [if_pos rfl, h]
 rfl
theorem cj (x y : Nat) (l : List (Nat × Nat)) : inTO (some [.int (x : Int), .int (y : Int)]) (some (kT l)) = some (.bl (l.any fun q => decide (q.1 = x) && decide (q.2 = y))) := by
 have h : ∀ l : List (Nat × Nat), (getK [(.inl (x : Int) : Key), .inl (y : Int)] (l.map fun (q : Nat × Nat) => ([(.inl (q.1 : Int) : Key), .inl (q.2 : Int)], D.bl true))).isSome = l.any fun q => decide (q.1 = x) && decide (q.2 = y) := fun l => by
  induction l with
  | nil => rfl
  | cons t r ih =>
   rw [List.map_cons, List.any_cons, ← ih]
   show (if [(.inl (t.1 : Int) : Key), .inl (t.2 : Int)] = [.inl (x : Int), .inl (y : Int)] then _ else _ : Option D).isSome = _
   by_cases z : t.1 = x ∧ t.2 = y
   ·obtain ⟨z1, z2⟩ := z
    subst z1 z2
    simp
   ·have : ¬ ([(.inl (t.1 : Int) : Key), .inl (t.2 : Int)] = [.inl (x : Int), .inl (y : Int)]) := fun q => by
     simp only [List.cons.injEq, Sum.inl.injEq, and_true] at q
     exact z ⟨by omega, by omega⟩
    rw [if_neg this]
    have : (decide (t.1 = x) && decide (t.2 = y)) = false := by
     rw [Bool.and_eq_false_iff]
     by_cases z1 : t.1 = x
     ·right; exact decide_eq_false fun z2 => z ⟨z1, z2⟩
     ·left; exact decide_eq_false z1
    rw [this, Bool.false_or]
 have e : inTO (some [.int (x : Int), .int (y : Int)]) (some (kT l)) = some (.bl ((getK [(.inl (x : Int) : Key), .inl (y : Int)] (l.map fun (q : Nat × Nat) => ([(.inl (q.1 : Int) : Key), .inl (q.2 : Int)], D.bl true))).isSome)) := by
  unfold kT inTO
  simp only [Option.bind_some]
  rw [if_pos (CG (by show 2 ≤ 10000000; decide))]
  rfl
 rw [e, h]
theorem cu (fs : FA) (fb : FE) (ρ : Rho) : inTF fs fb ρ = inTO (fs ρ) (fb ρ) := of_eq_true (eq_self _)
def mzO (c m : Str) (g : List D → Option D) (o : Option D) (ds : Option (List D)) : Option D := o.bind fun o => if Eb c m o = true then ds.bind fun ds => g (o :: ds) else none
theorem TV (c m : Str) (g : List D → Option D) (fo : FE) (fs : FA) (ρ : Rho) : GQ c m g fo fs ρ = mzO c m g (fo ρ) (fs ρ) := of_eq_true (eq_self _)
theorem Lq {c m : Str} {g : List D → Option D} {o : D} {ds : List D} (h : Eb c m o = true) : mzO c m g (some o) (some ds) = g (o :: ds) := by
 show (if Eb c m o = true then _ else _) = _
 rw [if_pos h]
 rfl
theorem bT (W : Wl) : Eb "World" "has" (wob W) = true := rfl
theorem Wx (W : Wl) : Eb "World" "leads" (wob W) = true := rfl
theorem ZR (W : Wl) : Eb "World" "mark_words" (wob W) = true := rfl
theorem ZS (W : Wl) : Eb "World" "tie_words" (wob W) = true := rfl
theorem Wy (W : Wl) : fldD "size" (wob W) = some (.int (W.n : Int)) := by
 show List.lookup ("size" : Str) [("size", D.int W.n), ("marked", .dk (oM W.ms)), ("tied", .dk (oT W.ts))] = _
 rw [List.lookup_cons, show (("size" : Str) == "size") = true by decide +kernel]
theorem QD (W : Wl) : fldD "marked" (wob W) = some (.dk (oM W.ms)) := by
 show List.lookup ("marked" : Str) [("size", D.int W.n), ("marked", .dk (oM W.ms)), ("tied", .dk (oT W.ts))] = _
 rw [List.lookup_cons, q1]
 show List.lookup ("marked" : Str) [("marked", D.dk (oM W.ms)), ("tied", .dk (oT W.ts))] = _
 rw [List.lookup_cons, show (("marked" : Str) == "marked") = true by decide +kernel]
theorem Wz (W : Wl) : fldD "tied" (wob W) = some (.dk (oT W.ts)) := by
 show List.lookup ("tied" : Str) [("size", D.int W.n), ("marked", .dk (oM W.ms)), ("tied", .dk (oT W.ts))] = _
 rw [List.lookup_cons, q2]
 show List.lookup ("tied" : Str) [("marked", D.dk (oM W.ms)), ("tied", .dk (oT W.ts))] = _
 rw [List.lookup_cons, q3]
 show List.lookup ("tied" : Str) [("tied", D.dk (oT W.ts))] = _
 rw [List.lookup_cons, show (("tied" : Str) == "tied") = true by decide +kernel]
theorem fl_w (w : Str) : fldE CS "word" (RW w) = some (.str w) := by
 show (if CS.contains ("NoWord" : Str) = true then List.lookup ("word" : Str) [("word", D.str w)] else none) = _
 rw [if_pos Wr, List.lookup_cons, beq_self_eq_true]
theorem W0 (ns : List Str) (w : Str) : isxD CS ns (RW w) = some (.bl (ns.contains ("NoWord" : Str))) := by
 show (if CS.contains ("NoWord" : Str) = true then some (D.bl (ns.contains ("NoWord" : Str))) else none) = _
 rw [if_pos Wr]
theorem cc3 : CS.contains ("NoWord" : Str) = true ∧ (["NoWord"] : List Str).contains ("NoWord" : Str) = true ∧ (["NoName", "NoPointing", "NoSaying", "NoThing", "TooGreat", "Unlike"] : List Str).contains ("NoWord" : Str) = false := by decide +kernel
theorem Qz (w : Str) : Cy [RW w, .str w] = some (.bl true) := by
 obtain ⟨h1, h2, h3⟩ := cc3
 have a1 := W0 CS w
 have a2 := W0 ["NoWord"] w
 have a3 := W0 ["NoName", "NoPointing", "NoSaying", "NoThing", "TooGreat", "Unlike"] w
 have a4 := fl_w w
 have q := eq_str w w
 rw [decide_eq_true rfl] at q
 rw [h1] at a1
 rw [h2] at a2
 rw [h3] at a3
 generalize RW w = d at *
 simp only [cK, Cy, Dt, a1, a2, a3, a4, q]
theorem cz (W : Wl) : isoD "World" true (wob W) = some (.bl true) := by
 show (if ("World" : Str) = "World" then some (D.bl true) else none) = _
 rw [if_pos rfl]
theorem ZV (W : Wl) (nd : (W.ms.map (·.1)).Nodup) (hl : W.ms.length ≤ 3) : Ar [wob W] = some (.lst ((Bv (W.ms.map (·.1))).map .str)) := by
 have s := Ww (Wu W.ms) nd (by rw [List.length_map]; omega)
 simp only [cK, Ar, Cd, QD, s]
theorem ZW (W : Wl) (nd : (W.ts.map (·.1)).Nodup) (hl : W.ts.length ≤ 3) : Ay [wob W] = some (.lst ((Bv (W.ts.map (·.1))).map .str)) := by
 have s := Ww (Wv W.ts) nd (by rw [List.length_map]; omega)
 simp only [cK, Ay, Cw, Wz, s]
theorem bU (ws : List Str) (nd : ws.Nodup) (hl : ws.length ≤ 60) : slsD (.lst (ws.map .str)) = some (.lst ((Bv ws).map .str)) := by
 show slsL _ = _
 unfold slsL
 rw [K8, Option.bind_some, if_pos ⟨nd, hl⟩]
theorem ZX (w : Str) : Bv [w] = [w] := rfl
theorem bV (ws : List Str) : noX Cm [wob (WM true ws), .str "mark", .int 1] = some (.bl true) := by
 have t := Ey 2 1 (by decide)
 replace t : Aj [.int 2, .int 1] = some .non := t
 have g : getK (.inr ("mark" : Str) : Key) (oM (WM true ws).ms) = some (kM [1]) := by
  show (if (_ : Key) = _ then _ else _) = _
  rw [if_pos rfl]
 have fm := QD (WM true ws)
 have fs : fldD "size" (wob (WM true ws)) = some (.int 2) := Wy (WM true ws)
 have i1 : inF false (.int 1) (kM [1]) = some (.bl true) := by
  show some (D.bl ((getK (.inl 1 : Key) [((.inl ((1 : Nat) : Int) : Key), D.bl true)]).isSome)) = _
  have e : ((.inl ((1 : Nat) : Int) : Key)) = .inl 1 := rfl
  show some (D.bl ((if (.inl ((1 : Nat) : Int) : Key) = .inl 1 then some (D.bl true) else none : Option D).isSome)) = _
  rw [if_pos e]
  rfl
 generalize oM (WM true ws).ms = om at *
 have d : Cm [wob (WM true ws), .str "mark", .int 1] = some (.bl true) := by
  simp only [dK, Cm, GX, fm, fs, g, Option.isSome_some, if_true, t, i1]
 unfold noX
 rw [d]
 rfl
theorem W2 (ws : List Str) : noX Bu [wob (WM false ws), .str "tie", .int 0, .int 1] = some (.bl true) := by
 have t := Ey 2 1 (by decide)
 replace t : Aj [.int 2, .int 1] = some .non := t
 have t0 := Ey 2 0 (by decide)
 replace t0 : Aj [.int 2, .int 0] = some .non := t0
 have g : getK (.inr ("tie" : Str) : Key) (oT (WM false ws).ts) = some (kT [(0, 1)]) := by
  show (if (_ : Key) = _ then _ else _) = _
  rw [if_pos rfl]
 have fm := Wz (WM false ws)
 have fs : fldD "size" (wob (WM false ws)) = some (.int 2) := Wy (WM false ws)
 have i1 := cj 0 1 [(0, 1)]
 replace i1 : inTO (some [.int 0, .int 1]) (some (kT [(0, 1)])) = some (.bl true) := i1
 generalize oT (WM false ws).ts = om at *
 have d : Bu [wob (WM false ws), .str "tie", .int 0, .int 1] = some (.bl true) := by
  simp only [dK, Bu, En, fm, fs, g, Option.isSome_some, if_true, t, t0, cu, i1]
 unfold noX
 rw [d]
 rfl
theorem isT : isTD (.bl true) = some (.bl true) := rfl
theorem Jv {b : Bool} {ws : List Str} (h : Gl b ws) : Bh [.lst (ws.map .str), .bl b] = some (.bl true) := by
 have l := h.ln
 have md := Ub h
 have is := cz (WM b ws)
 have sl := bU ws h.nd (by omega)
 have q := Oo (Bv ws)
 cases b with
 | true =>
  have w1 := ZW (WM true ws) (by show ((wt ws).map (·.1)).Nodup; rw [wt1]; exact h.nd) (by show (wt ws).length ≤ 3; simp [wt]; omega)
  have w2 := ZV (WM true ws) (by show [("mark" : Str)].Nodup; simp) (by show 1 ≤ 3; decide)
  rw [show (WM true ws).ts.map (·.1) = ws from wt1 ws] at w1
  rw [show (WM true ws).ms.map (·.1) = [("mark" : Str)] from rfl, ZX] at w2
  replace w2 : Ar [wob (WM true ws)] = some (.lst [.str "mark"]) := w2
  have q2 := Oo ["mark"]
  replace q2 : eqD false (.lst [.str "mark"]) (.lst [.str "mark"]) = some (.bl true) := q2
  have hs := bV ws
  have o1 := ZS (WM true ws)
  have o2 := ZR (WM true ws)
  have o3 := bT (WM true ws)
  have m1 := Lq (g := Ay) (ds := []) o1
  have m2 := Lq (g := Ar) (ds := []) o2
  have m3 := Lq (g := noX Cm) (ds := [.str "mark", .int 1]) o3
  rw [w1] at m1
  rw [w2] at m2
  rw [hs] at m3
  generalize wob (WM true ws) = o at *
  simp only [cK, Bh, Ec, md, is, TV, m1, m2, m3, sl, q, q2, isT]
 | false =>
  have w1 := ZV (WM false ws) (by show ((wm ws).map (·.1)).Nodup; rw [wm1]; exact h.nd) (by show (wm ws).length ≤ 3; simp [wm]; omega)
  have w2 := ZW (WM false ws) (by show [("tie" : Str)].Nodup; simp) (by show 1 ≤ 3; decide)
  rw [show (WM false ws).ms.map (·.1) = ws from wm1 ws] at w1
  rw [show (WM false ws).ts.map (·.1) = [("tie" : Str)] from rfl, ZX] at w2
  replace w2 : Ay [wob (WM false ws)] = some (.lst [.str "tie"]) := w2
  have q2 := Oo ["tie"]
  replace q2 : eqD false (.lst [.str "tie"]) (.lst [.str "tie"]) = some (.bl true) := q2
  have hs := W2 ws
  have o1 := ZR (WM false ws)
  have o2 := ZS (WM false ws)
  have o3 := Wx (WM false ws)
  have m1 := Lq (g := Ar) (ds := []) o1
  have m2 := Lq (g := Ay) (ds := []) o2
  have m3 := Lq (g := noX Bu) (ds := [.str "tie", .int 0, .int 1]) o3
  rw [w1] at m1
  rw [w2] at m2
  rw [hs] at m3
  generalize wob (WM false ws) = o at *
  simp only [cK, Bh, Ec, md, is, TV, m1, m2, m3, sl, q, q2, isT]
theorem nm1 : ¬ (("mark" : Str) = "goodone") ∧ ¬ (("tie" : Str) = "goodone") ∧ ¬ (("mark" : Str) = "other") ∧ ¬ (("tie" : Str) = "other") ∧ ¬ (("goodone" : Str) = "other") := by decide +kernel
theorem gl1 (b : Bool) : Gl b ["goodone"] := ⟨by simpa using Hx, by simp, by simp, fun _ => by simpa using nm1.1, fun _ => by simpa using nm1.2.1⟩
theorem gl2 (b : Bool) : Gl b ["goodone", "other"] := ⟨fun w hw => by
 simp at hw
 rcases hw with rfl | rfl
 ·exact Hx
 ·exact Wt, by simpa using nm1.2.2.2.2, by simp, fun _ => by simpa using ⟨nm1.1, nm1.2.2.1⟩, fun _ => by simpa using ⟨nm1.2.1, nm1.2.2.2.1⟩⟩
theorem Yq (s0 : Slot) (i : Int) (z2 z3 z4 : Slot) : ∃ y2 y3 y4, CW [s0, .fz (.int i), z2, z3, z4] = some (.nx [s0, .fz (.int i), y2, y3, y4]) := by
 obtain ⟨x, ex, sx, lx⟩ := Yl i
 have q1 := eq_str x "goodone"
 have q2 := eq_str x "mark"
 have q3 := eq_str x "tie"
 have lw := We sx (by omega)
 have e16 : eqD false (.int (i / 16 % 2)) (.int 1) = some (.bl (decide (i / 16 % 2 = 1))) := O3 _ _
 have e4 : eqD false (.int (i / 4 % 2)) (.int 1) = some (.bl (decide (i / 4 % 2 = 1))) := O3 _ _
 generalize decide (i / 16 % 2 = 1) = b at e16
 generalize decide (i / 4 % 2 = 1) = b4 at e4
 have g1 := Jv (gl1 b)
 replace g1 : Bh [.lst [.str "goodone"], .bl b] = some (.bl true) := g1
 by_cases c1 : x = "goodone"
 ·rw [decide_eq_true c1] at q1
  refine ⟨.fz (.str x), .fz (.lst [.str "goodone"]), .fz (.bl b), ?_⟩
  cases b4 <;> simp only [cK, CW, ex, C_, B_, e4, e16, q1, g1, Int.reduceLT]
 ·rw [decide_eq_false c1] at q1
  by_cases c2 : x = "mark" ∧ b = true
  ·obtain ⟨c2, rfl⟩ := c2
   rw [decide_eq_true c2] at q2
   refine ⟨.fz (.str x), .fz (.lst [.str "goodone"]), .fz (.bl true), ?_⟩
   cases b4 <;> simp only [cK, CW, ex, C_, B_, e4, e16, q1, q2, g1, Int.reduceLT]
  ·by_cases c3 : x = "tie" ∧ b = false
   ·obtain ⟨c3, rfl⟩ := c3
    rw [decide_eq_true c3] at q3
    refine ⟨.fz (.str x), .fz (.lst [.str "goodone"]), .fz (.bl false), ?_⟩
    generalize decide (x = "mark") = dm at q2
    cases dm <;> cases b4 <;> simp only [cK, CW, ex, C_, B_, e4, e16, q1, q2, q3, g1, Int.reduceLT]
   ·have k2 : b = true → x ≠ "mark" := fun hb z => c2 ⟨z, hb⟩
    have k3 : b = false → x ≠ "tie" := fun hb z => c3 ⟨z, hb⟩
    cases hi : iw x with
    | false =>
     rw [hi] at lw
     have hb : Bw x := ⟨sx, by omega, hi⟩
     have gg : ∀ u ∈ [("goodone" : Str)], Gw u ∧ u ≠ "mark" := fun u hu => by
      simp at hu
      subst hu
      exact ⟨Hx, fun z => nm1.1 z.symm⟩
     have m1 := QC (b := b) (ws := [x, "goodone"]) (p := []) (r := ["goodone"]) rfl hb (by simp) (by simpa using c1) (by simp)
     have m2 := QC (b := b) (ws := ["goodone", x]) (p := ["goodone"]) (r := []) rfl hb gg (by simpa using fun z => c1 z.symm) (by simp)
     replace m1 : BZ [.lst [.str x, .str "goodone"], .bl b] = some (RW x) := m1
     replace m2 : BZ [.lst [.str "goodone", .str x], .bl b] = some (RW x) := m2
     have rf := Qz x
     have g2 := Jv (gl2 b)
     replace g2 : Bh [.lst [.str "goodone", .str "other"], .bl b] = some (.bl true) := g2
     refine ⟨.fz (.str x), .fz (.lst [.str "goodone", .str "other"]), .fz (.bl b), ?_⟩
     cases b with
     | true =>
      rw [decide_eq_false (k2 rfl)] at q2
      generalize decide (x = "tie") = dt at q3
      cases dt <;> cases b4 <;> simp only [cK, CW, ex, C_, B_, e4, e16, q1, q2, q3, lw, m1, m2, rf, g2, Int.reduceLT]
     | false =>
      rw [decide_eq_false (k3 rfl)] at q3
      generalize decide (x = "mark") = dm at q2
      cases dm <;> cases b4 <;> simp only [cK, CW, ex, C_, B_, e4, e16, q1, q2, q3, lw, m1, m2, rf, g2, Int.reduceLT]
    | true =>
     rw [hi] at lw
     have hg : Gw x := ⟨sx, by omega, hi⟩
     have G1 : Gl b [x, "goodone"] := ⟨fun w hw => by
      simp at hw
      rcases hw with rfl | rfl
      ·exact hg
      ·exact Hx, by simpa using c1, by simp, fun hb => by simpa using ⟨fun z => k2 hb z.symm, nm1.1⟩, fun hb => by simpa using ⟨fun z => k3 hb z.symm, nm1.2.1⟩⟩
     have G2 : Gl b ["goodone", x] := ⟨fun w hw => by
      simp at hw
      rcases hw with rfl | rfl
      ·exact Hx
      ·exact hg, by simpa using fun z => c1 z.symm, by simp, fun hb => by simpa using ⟨nm1.1, fun z => k2 hb z.symm⟩, fun hb => by simpa using ⟨nm1.2.1, fun z => k3 hb z.symm⟩⟩
     have h1 := Jv G1
     have h2 := Jv G2
     replace h1 : Bh [.lst [.str x, .str "goodone"], .bl b] = some (.bl true) := h1
     replace h2 : Bh [.lst [.str "goodone", .str x], .bl b] = some (.bl true) := h2
     cases b4 with
     | true =>
      refine ⟨.fz (.str x), .fz (.lst [.str "goodone", .str x]), .fz (.bl b), ?_⟩
      cases b with
      | true =>
       rw [decide_eq_false (k2 rfl)] at q2
       generalize decide (x = "tie") = dt at q3
       cases dt <;> simp only [cK, CW, ex, C_, B_, e4, e16, q1, q2, q3, lw, h1, h2, Int.reduceLT]
      | false =>
       rw [decide_eq_false (k3 rfl)] at q3
       generalize decide (x = "mark") = dm at q2
       cases dm <;> simp only [cK, CW, ex, C_, B_, e4, e16, q1, q2, q3, lw, h1, h2, Int.reduceLT]
     | false =>
      refine ⟨.fz (.str x), .fz (.lst [.str x, .str "goodone"]), .fz (.bl b), ?_⟩
      cases b with
      | true =>
       rw [decide_eq_false (k2 rfl)] at q2
       generalize decide (x = "tie") = dt at q3
       cases dt <;> simp only [cK, CW, ex, C_, B_, e4, e16, q1, q2, q3, lw, h1, h2, Int.reduceLT]
      | false =>
       rw [decide_eq_false (k3 rfl)] at q3
       generalize decide (x = "mark") = dm at q2
       cases dm <;> simp only [cK, CW, ex, C_, B_, e4, e16, q1, q2, q3, lw, h1, h2, Int.reduceLT]
theorem QF (s0 : Slot) : ∀ (l : List Int) (z1 z2 z3 z4 : Slot), ∃ y1 y2 y3 y4, forF (tgB (Dg 1) CW) (l.map .int) [s0, z1, z2, z3, z4] = some (.nx [s0, y1, y2, y3, y4])
 | [], z1, z2, z3, z4 => ⟨z1, z2, z3, z4, rfl⟩
 | i :: r, z1, z2, z3, z4 => by
  obtain ⟨y2, y3, y4, e⟩ := Yq s0 i z2 z3 z4
  obtain ⟨x1, x2, x3, x4, ih⟩ := QF s0 r (.fz (.int i)) y2 y3 y4
  refine ⟨x1, x2, x3, x4, ?_⟩
  rw [List.map_cons, Bs, e_tg, E_, Gz]
  simp only [List.set_cons_zero, List.set_cons_succ]
  rw [e, Dj, ih]
theorem W3 : ∀ ns : List Int, ns.length ≤ 63 → P0 [.lst (ns.map .int)] = some (.bl true) := by
 intro ns hn
 have es : slD (.lst (ns.map .int)) none (some 40) = some (.lst ((ns.take 40).map .int)) := by
  show some (D.lst (cutD (ns.map .int) none (some ((40 : Nat) : Int)))) = _
  rw [Z3, List.map_take]
 have ad : addD (.lst [.int 0]) (.lst ((ns.take 40).map .int)) = some (.lst ((0 :: ns.take 40).map .int)) := by
  rw [Z5 (by simp; omega)]
  rfl
 obtain ⟨z1, z2, z3, z4, lo⟩ := QF (.fz (.lst (ns.map .int))) (0 :: ns.take 40) .un .un .un .un
 generalize (0 :: ns.take 40) = l at ad lo
 simp only [cK, P0, WX, es, ad, FW, Fb, lo]
end K02
end
open PySem PySem.W PyProof.Rows
theorem L2.head_at {r : OpenRow} {q : Program} {loose : List Str} {d : DefRec} {kwd : List (Str × Expr)} {N : Nat} (H : Hook)
  (l1 : LeftO r.prog q loose (fun s => xlAt q [] s && recOk r.records s) H.obs H.val N)
  (e1 : defOf q r.name = some (d, kwd)) (e2 : r.prog.theDef r.name = some (d.params, d.body, d.scope)) (e3 : kwWritten? d.params.kwonlyargs d.params.kw_defaults = some kwd)
  (e4 : (!r.writes || r.records.isEmpty) = true) (e5 : r.wellSaid = true) (e6 : (chainsOk q && opensWell r.prog && (frees r.toRowW && r.within.isEmpty)) = true) (e7 : r.prog.bare) (e8 : r.toRowW.promised)
  (e9 : WalkO q loose (XL q []) H.says r.toRowW d kwd fun f vs => PySem.call f vs) : r.Holds :=
 holds_open (XP := XL q []) l1 H.of H.keeps (fun s e => xl_of s (Bool.and_eq_true_iff.mp e).1) XL.keeps e1 e2 e3 (fun _ e => recFacts_of (Bool.and_eq_true_iff.mp e).2) e4 e5 e6 e7 e8 e9
set_option maxRecDepth 100000 in
set_option maxHeartbeats 0 in
theorem PySem.Challenge.cw_twinrounds_k02_words_holds : PySem.Challenge.rw_twinrounds_k02_words.Holds := by
 w_on; o_law; refine L2.head_at (q := K02.vw) (loose := []) (N := 6000) K02.hook K02.look (by rfl) (by rfl) (by rfl) (by rfl) (by assumption) (by decide +kernel) ⟨rfl, rfl, rfl, rfl, rfl, by decide +kernel⟩ ?_ ?_
 ·w_witness2
 unfold K02.hook
 k_fill
 refine L2.Xf (l := PySem.Challenge.rw_twinrounds_k02_words) (n := 63) (k := 7) (x := "_law_script") (CX := fun _ => L2.CX0) (sp := fun w => K02.ZK _) rfl (by decide) rfl ⟨rfl, by decide, by decide⟩ (fun w h Y => PySem.W.kIn_of Y) ?F (fun _ _ a ns hl _ hS => ⟨a, ns, rfl, hS, hl, fun _ => rfl⟩) fun _ _ _ _ _ z => z
 case F =>
  intro w mg fa h KX G hmg
  have TT : ∃ C_World : Addr, ∃ l : List (Str × Addr), ∃ T : K02.Tx (K02.gx (L2.KOf KX) C_World l) mg, ∀ (s : Shared) (u : Value), BindsTo s T.x_law.fd ⟨[u], []⟩ [("_law_script", u)] := by
   dsimp only [L2.KOf]
   refine' ⟨_, [("NoWord", _)], { C_World := _, gc_World := PV.au, cl_World := (PV.cls KX ?pg_World ?hd_World ?po_World ?sa_World :), mC_World := PySem.W.mg_of KX G ?aC_World, x__law_text := (PV.dx KX G ?a0 ?l0 ?c0 ?k0 ?b0 :), x_refuse_above := (PV.dx KX G ?a1 ?l1 ?c1 ?k1 ?b1 :), x_refuse_no_thing := (PV.dx KX G ?a2 ?l2 ?c2 ?k2 ?b2 :), x_kept_things := (PV.dx KX G ?a3 ?l3 ?c3 ?k3 ?b3 :), x_kept_pairs := (PV.dx KX G ?a4 ?l4 ?c4 ?k4 ?b4 :), x_is_word := (PV.dx KX G ?a5 ?l5 ?c5 ?k5 ?b5 :), x_World___init__ := (PV.ix KX ?mk_World ?kc_World ?a6 ?i6 ?l6 ?c6 ?k6 ?b6 :), x__law_made := (PV.dx KX G ?a7 ?l7 ?c7 ?k7 ?b7 :), x_World_mark_words := (PV.mx KX ?a8 ?i8 ?l8 ?c8 ?k8 ?b8 :), x_World_tie_words := (PV.mx KX ?a9 ?i9 ?l9 ?c9 ?k9 ?b9 :), x_World_leads := (PV.mx KX ?a10 ?i10 ?l10 ?c10 ?k10 ?b10 :), x_World_has := (PV.mx KX ?a11 ?i11 ?l11 ?c11 ?k11 ?b11 :), x__law_good := (PV.dx KX G ?a12 ?l12 ?c12 ?k12 ?b12 :), x__law_is_word := (PV.dx KX G ?a13 ?l13 ?c13 ?k13 ?b13 :), x__law_refused := (PV.dx KX G ?a14 ?l14 ?c14 ?k14 ?b14 :), x_law := (PV.dx KX G ?a15 ?l15 ?c15 ?k15 ?b15 :), fl_size := (PV.Qu KX (PV.cls KX ?pg_World ?hd_World ?po_World ?sa_World) ?n_World_size :), fl_marked := (PV.Qu KX (PV.cls KX ?pg_World ?hd_World ?po_World ?sa_World) ?n_World_marked :), fl_tied := (PV.Qu KX (PV.cls KX ?pg_World ?hd_World ?po_World ?sa_World) ?n_World_tied :), z_ValueError := PySem.W.mg_none_of KX G ?z_ValueError, z_all := PySem.W.mg_none_of KX G ?z_all, z_isinstance := PySem.W.mg_none_of KX G ?z_isinstance, z_len := PySem.W.mg_none_of KX G ?z_len, z_range := PySem.W.mg_none_of KX G ?z_range, z_sorted := PySem.W.mg_none_of KX G ?z_sorted, s_MOST_LETTERS := (PV.sx (f := (.int 8)) KX G ?a_MOST_LETTERS :), s_LETTERS := (PV.sx (f := (.str "abcdefghijklmnopqrstuvwxyz")) KX G ?a_LETTERS :), s_MOST_THINGS := (PV.sx (f := (.int 5)) KX G ?a_MOST_THINGS :), s_MOST_WORDS := (PV.sx (f := (.int 3)) KX G ?a_MOST_WORDS :), c_KEPT_TEXTS := (PV.kx2 (xs := ["not", "and", "or", "some", "all"]) KX G ?a_KEPT_TEXTS ?l_KEPT_TEXTS ?h_KEPT_TEXTS ?v_KEPT_TEXTS :), r := (PV.rx KX G ?rA ?rE ?r1 ?r2 ?r3 :), xt := (PV.az KX ?xt :), e_NoWord := (PV.xx KX G ?eA_NoWord ?eg_NoWord ⟨?x1_NoWord, ?x2_NoWord, ?x3_NoWord, ?x4_NoWord, ?x5_NoWord⟩ ?hi_NoWord ?ii_NoWord ?kp_NoWord ?na_NoWord ?el_NoWord ?ec_NoWord ?ek_NoWord ?eb_NoWord :), a_NoName := (PV.ax KX G ?sA_NoName :), a_NoPointing := (PV.ax KX G ?sA_NoPointing :), a_NoSaying := (PV.ax KX G ?sA_NoSaying :), a_NoThing := (PV.ax KX G ?sA_NoThing :), a_TooGreat := (PV.ax KX G ?sA_TooGreat :), a_Unlike := (PV.ax KX G ?sA_Unlike :), k_0 := (PV.N_ KX ?k0a ?k0b ?k0c ?k0d ?k0e :), k_1 := (PV.N_ KX ?k1a ?k1b ?k1c ?k1d ?k1e :), k_2 := (PV.N_ KX ?k2a ?k2b ?k2c ?k2d ?k2e :), nf_word := (PV.a_ KX ?nf_word :), k2_World := (PV.bH KX ?w1_World ?w2_World ?w3_World :), mo_World := (PV.bI KX ?w4_World :), kw_World := (PV.bJ KX ?w5_World :) }, ?bt⟩
   case aC_World | pg_World | hd_World | po_World | sa_World | mk_World | kc_World | n_World_size | n_World_marked | n_World_tied | a0 | l0 | c0 | k0 | a1 | l1 | c1 | k1 | a2 | l2 | c2 | k2 | a3 | l3 | c3 | k3 | a4 | l4 | c4 | k4 | a5 | l5 | c5 | k5 | a6 | i6 | l6 | c6 | k6 | a7 | l7 | c7 | k7 | a8 | i8 | l8 | c8 | k8 | a9 | i9 | l9 | c9 | k9 | a10 | i10 | l10 | c10 | k10 | a11 | i11 | l11 | c11 | k11 | a12 | l12 | c12 | k12 | a13 | l13 | c13 | k13 | a14 | l14 | c14 | k14 | a15 | l15 | c15 | k15 | z_ValueError | z_all | z_isinstance | z_len | z_range | z_sorted | a_MOST_LETTERS | a_LETTERS | a_MOST_THINGS | a_MOST_WORDS | a_KEPT_TEXTS | l_KEPT_TEXTS | rA | eA_NoWord | hi_NoWord | ii_NoWord | kp_NoWord | el_NoWord | ec_NoWord | ek_NoWord | sA_NoName | sA_NoPointing | sA_NoSaying | sA_NoThing | sA_TooGreat | sA_Unlike => k_is
   case b0 | b5 | b8 | b9 | b13 | b15 => exact fun _ _ _ _ _ _ us hl => match us, hl with | [_], _ => rfl
   case b1 | b2 | b3 | b4 | b7 | b12 | b14 | eb_NoWord => exact fun _ _ _ _ _ _ us hl => match us, hl with | [_, _], _ => rfl
   case b11 => exact fun _ _ _ _ _ _ us hl => match us, hl with | [_, _, _], _ => rfl
   case b6 | b10 => exact fun _ _ _ _ _ _ us hl => match us, hl with | [_, _, _, _], _ => rfl
   case h_KEPT_TEXTS => decide
   case v_KEPT_TEXTS => exact .cons ⟨_, rfl⟩ (.cons ⟨_, rfl⟩ (.cons ⟨_, rfl⟩ (.cons ⟨_, rfl⟩ (.cons ⟨_, rfl⟩ (.nil)))))
   case eg_NoWord => rfl
   case rE | r1 | r2 | r3 | x1_NoWord | x2_NoWord | x3_NoWord | x4_NoWord | x5_NoWord | na_NoWord | k0a | k0b | k0c | k0d | k1a | k1b | k1c | k1d | k2a | k2b | k2c | k2d | w1_World | w2_World | w3_World | w4_World | w5_World => kernel_rfl
   case xt => exact fun p hp => by (rcases List.mem_cons.mp hp with rfl | hp; (exact ⟨⟨by kernel_rfl, by kernel_rfl, by kernel_rfl, by kernel_rfl, by kernel_rfl⟩, ⟨by kernel_rfl, by kernel_rfl, by kernel_rfl⟩⟩); cases hp)
   case k0e => exact fun p hp => by (rcases List.mem_cons.mp hp with rfl | hp; (exact by kernel_rfl); cases hp)
   case k1e => exact fun p hp => by (rcases List.mem_cons.mp hp with rfl | hp; (exact by kernel_rfl); cases hp)
   case k2e => exact fun p hp => by (rcases List.mem_cons.mp hp with rfl | hp; (exact by kernel_rfl); cases hp)
   case nf_word => exact fun p hp => by (rcases List.mem_cons.mp hp with rfl | hp; (exact by kernel_rfl); cases hp)
   case bt => exact fun s u => .of_eq rfl
  obtain ⟨C_World, l, T, e1⟩ := TT
  have e0 : fa = T.x_law.f := by
   have q := hmg.symm.trans T.x_law.m
   cases q
   rfl
  subst e0
  exact ⟨T.x_law.fd, e1, fun base kb nb => (K02.bK (w := w) (base := base) T).imp (K02.bL K02.W3)⟩
