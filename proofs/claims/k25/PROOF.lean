import PyProof.Rows.All
import Wide.All
import OpenK.AllK
import Wide.FinOn
import Lean
import PyProof.EqAt
import PyProof.EqKinds
import PyProof.TupleCall
import PyProof.StationsW
import PyProof.DictWalks
import PyProof.DictItemsLoops
import KE.KPairComp
import KE.KDictList
import PyProof.StrWalks
import PyProof.ConsumeWalk
import PyProof.DictUpdate
import PyProof.ExcClass2
import PyProof.ExcClass3
import PyProof.ExcArgsOwn
import PyProof.ExcAttrAll.ValueError
import PyProof.InstStoreFacts
import PyProof.StrLawsRepr
import PyProof.ReprStr
import PyProof.NsDelKeeps
import PyProof.RulesAs
import KE.KIsAll
import PySem.Challenge.RW_twinrounds_k25_no_saying
set_option Elab.async false
set_option linter.all false
set_option maxRecDepth 100000
set_option maxHeartbeats 4000000
section
open PySem PySem.W PyProof.Rows
def L2.viewAt (p : Program) (ks : List Nat) : Program := { p with main := { p.main with body := ks.filterMap fun i => p.main.body[i]? } }
def K25.vw : Program := L2.viewAt PySem.Challenge.pw_twinrounds_k25_no_saying [1, 2, 3, 4, 5, 6, 7, 8, 10, 11, 12, 13, 14, 16, 17, 18, 19, 20, 21, 22, 23, 24, 26, 27, 28, 29]
set_option maxRecDepth 100000 in
set_option maxHeartbeats 0 in
theorem K25.look1 : ∀ w : World, (openEnds treeTable (PySem.Challenge.rw_twinrounds_k25_no_saying.row).prog w 6000).map (fun s => openSeen K25.vw [] (importedModules (PySem.Challenge.rw_twinrounds_k25_no_saying.row).prog.main.body) (fun s => xlAt K25.vw [] s && recOk (PySem.Challenge.rw_twinrounds_k25_no_saying.row).records s) true s) = some (openGood K25.vw []) := by
 intro w; kernel_rfl
section
local macro_rules | `(tactic| o_head $H) => `(tactic| exact ‹∀ P : Prop, P› _)
set_option maxRecDepth 100000 in
set_option maxHeartbeats 0 in
theorem K25.side (hole : ∀ P : Prop, P) : (PySem.Challenge.rw_twinrounds_k25_no_saying.row).Holds := by
 k_head
end
def K25.as : List Addr := [2, 3, 15, 22, 23, 24, 25, 28, 35, 37, 38, 40, 41, 42, 43, 44, 47, 54, 56, 57, 59, 60, 61, 62, 63, 66, 73, 75, 76, 78, 79, 80, 81, 82, 85, 92, 94, 95, 97, 98, 99, 100, 101, 104, 111, 113, 114, 116, 117, 118, 119, 120, 123, 130, 131, 132, 135, 142, 143, 144, 147, 148, 151, 152, 153, 161, 163, 164, 166, 167, 168, 170, 171, 173, 174, 175, 177, 178, 180, 181, 182, 184, 185, 187, 188, 189, 191, 192, 194, 195, 196, 198, 199, 201, 202, 203, 204, 205, 206, 207, 210, 212, 213, 215, 216, 217, 219, 220, 222, 223, 224, 226, 227, 229, 230, 231, 233, 234, 236, 237, 238, 240, 241, 243, 244, 245, 247, 248, 250, 251, 252, 254, 255, 257, 258, 259, 261, 262, 264, 265, 266, 268, 269, 271, 272, 273, 275, 276, 278, 279]
set_option maxRecDepth 100000 in
set_option maxHeartbeats 0 in
theorem K25.as_ok : ∀ P, K25.as = (K25.side.heap_1 P).map (·.1) := fun _ => by kernel_rfl
noncomputable def K25.hook : Hook := kHook K25.side.heap_1 K25.as K25.as_ok
set_option maxRecDepth 100000 in
set_option maxHeartbeats 0 in
theorem K25.look2 : ∀ w : World, (openEnds treeTable (PySem.Challenge.rw_twinrounds_k25_no_saying.row).prog w 6000).map K25.hook.obs = some (K25.hook.val w) := by
 intro w; kernel_rfl
end
namespace L2
open PySem PySem.Spec PyProof.Rows
abbrev Key := Sum Int Str
def H4 : Key → Value → Bool
 | .inl k, v => Value.isInt k v
 | .inr x, v => Value.isStrOf x v
def keyH (w : World) : Key → Int
 | .inl k => hashInt k
 | .inr x => hashStr w x
theorem BJ : ∀ {k : Key} {v : Value}, H4 k v = true → (∃ i t, k = Sum.inl i ∧ v = Value.int i t) ∨ (∃ x t, k = Sum.inr x ∧ v = Value.str x t)
 | .inl i, v, h => by
  obtain ⟨t, e⟩ := Value.isInt_shape (k := i) (v := v) h
  exact .inl ⟨i, t, rfl, e⟩
 | .inr x, v, h => by
  obtain ⟨t, e⟩ := Value.isStrOf_shape (x := x) (v := v) h
  exact .inr ⟨x, t, rfl, e⟩
theorem Ml (i : Int) (t : Tok) : H4 (.inl i) (.int i t) = true := by simp [H4, Value.isInt]
theorem Mm (x : Str) (t : Tok) : H4 (.inr x) (.str x t) = true := by simp [H4, Value.isStrOf]
theorem UL (a b : Int) : decide ((Sum.inl a : Key) = Sum.inl b) = (a == b) := by
 by_cases e : a = b
 ·subst e; simp
 ·have h : ¬ (Sum.inl a : Key) = Sum.inl b := fun q => e (Sum.inl.inj q)
  rw [decide_eq_false h]
  exact (beq_eq_false_iff_ne.mpr e).symm
theorem UT (a b : Str) : decide ((Sum.inr a : Key) = Sum.inr b) = decide (a = b) := by
 by_cases e : a = b
 ·subst e; simp
 ·have h : ¬ (Sum.inr a : Key) = Sum.inr b := fun q => e (Sum.inr.inj q)
  rw [decide_eq_false h, decide_eq_false e]
theorem UV (a : Int) (b : Str) : decide ((Sum.inl a : Key) = Sum.inr b) = false := decide_eq_false (fun q => nomatch q)
theorem UW (a : Str) (b : Int) : decide ((Sum.inr a : Key) = Sum.inl b) = false := decide_eq_false (fun q => nomatch q)
def Bd (prog : Program) (w : World) : PySem.KeyKind prog w Key where
 is := H4
 hash := keyH w
 inj := fun v a b ha hb => by
  rcases BJ ha with ⟨i, t, rfl, rfl⟩ | ⟨x, t, rfl, rfl⟩
  ·rcases BJ hb with ⟨j, u, rfl, e⟩ | ⟨y, u, rfl, e⟩
   ·injection e with e1 _; rw [e1]
   ·exact nomatch e
  ·rcases BJ hb with ⟨j, u, rfl, e⟩ | ⟨y, u, rfl, e⟩
   ·exact nomatch e
   ·injection e with e1 _; rw [e1]
 byValue := fun k v h => by
  rcases BJ h with ⟨i, t, rfl, rfl⟩ | ⟨x, t, rfl, rfl⟩ <;> rfl
 pyHash := fun hv h => by
  rcases BJ hv with ⟨i, t, rfl, rfl⟩ | ⟨x, t, rfl, rfl⟩
  ·exact wpAny_pyHash_int h
  ·exact wpAny_pyHash_str h
 eqBool := fun hu hv h => by
  rcases BJ hu with ⟨i, t, rfl, rfl⟩ | ⟨x, t, rfl, rfl⟩
  ·rcases BJ hv with ⟨j, u, rfl, rfl⟩ | ⟨y, u, rfl, rfl⟩
   ·rw [UL] at h; exact wpAny_eqBool_int h
   ·rw [UV] at h; exact SeqAt.EqAt.int_str i t y u _ _ _ _ h
  ·rcases BJ hv with ⟨j, u, rfl, rfl⟩ | ⟨y, u, rfl, rfl⟩
   ·rw [UW] at h; exact SeqAt.EqAt.str_int x t j u _ _ _ _ h
   ·rw [UT] at h; exact wpAny_eqBool_str h
 «strs» := fun k x t v h => by
  rcases BJ h with ⟨i, u, rfl, e⟩ | ⟨y, u, rfl, e⟩
  ·exact nomatch e
  ·injection e with e1 _
   subst e1
   cases v <;> rfl
theorem Jh (prog : Program) (w : World) (i : Int) (t : Tok) : (Bd prog w).is (.inl i) (.int i t) = true := Ml i t
theorem Ji (prog : Program) (w : World) (x : Str) (t : Tok) : (Bd prog w).is (.inr x) (.str x t) = true := Mm x t
end L2
namespace L2
open PySem PySem.Spec PyProof.Rows
inductive V where
 | non | bl (b : Bool) | int (i : Int) | str (x : Str) | byt (b : Array UInt8) | flt (b : UInt64) | ref (a : Addr) | ty (n : String)
 deriving DecidableEq
def RelV : V → Value → Prop
 | .non, u => u = Value.none
 | .bl b, u => u = Value.bool b
 | .int i, u => ∃ t, u = Value.int i t
 | .str x, u => ∃ t, u = Value.str x t
 | .byt b, u => ∃ t, u = Value.bytes b t
 | .flt b, u => ∃ t, u = Value.float b t
 | .ref a, u => u = Value.ref a
 | .ty n, u => u = Value.type n
abbrev Vals : List V → List Value → Prop := Paired RelV
theorem Vals.length {xs : List V} {us : List Value} (r : Vals xs us) : xs.length = us.length := Paired.length r
theorem Vals.get : ∀ {xs : List V} {us : List Value} {i : Nat} {x : V}, Vals xs us → xs[i]? = some x → ∃ u, us[i]? = some u ∧ RelV x u
 | _, _, _, _, .nil, e => by simp at e
 | _, _, 0, _, .cons r _, e => by simp at e; subst e; exact ⟨_, rfl, r⟩
 | _, _, i + 1, x, .cons _ t, e => by
  obtain ⟨u, h1, h2⟩ := Vals.get (i := i) (x := x) t (by simpa using e)
  exact ⟨u, by simpa using h1, h2⟩
theorem Vals.set {x : V} {u : Value} (r : RelV x u) : ∀ {xs : List V} {us : List Value} (i : Nat), Vals xs us → Vals (xs.set i x) (us.set i u)
 | _, _, _, .nil => .nil
 | _, _, 0, .cons _ t => .cons r t
 | _, _, i + 1, .cons q t => .cons q (Vals.set r i t)
theorem Vals.append : ∀ {xs ys : List V} {us ws : List Value}, Vals xs us → Vals ys ws → Vals (xs ++ ys) (us ++ ws)
 | _, _, _, _, .nil, s => s
 | _, _, _, _, .cons r t, s => .cons r (Vals.append t s)
theorem Vals.take : ∀ {xs : List V} {us : List Value} (n : Nat), Vals xs us → Vals (xs.take n) (us.take n)
 | _, _, 0, _ => .nil
 | _, _, _ + 1, .nil => .nil
 | _, _, n + 1, .cons r t => .cons r (Vals.take n t)
theorem Vals.drop : ∀ {xs : List V} {us : List Value} (n : Nat), Vals xs us → Vals (xs.drop n) (us.drop n)
 | _, _, 0, r => r
 | _, _, _ + 1, .nil => .nil
 | _, _, n + 1, .cons _ t => Vals.drop n t
theorem Vals.none_of : ∀ {xs : List V} {us : List Value} {i : Nat}, Vals xs us → xs[i]? = none → us[i]? = none := fun {xs us i} r e => by
 have h1 := r.length
 have h2 : xs.length ≤ i := List.getElem?_eq_none_iff.mp e
 exact List.getElem?_eq_none_iff.mpr (by omega)
def RelO : Option V → Option Value → Prop
 | some v, some u => RelV v u
 | none, none => True
 | _, _ => False
def KV {κ : Type} : List (κ × V) → List (κ × Value) → Prop := Paired fun (p : κ × V) (q : κ × Value) => p.1 = q.1 ∧ RelV p.2 q.2
def kV : Key → V
 | .inl i => .int i
 | .inr x => .str x
inductive HO where
 | lst (xs : List V)
 | tup (xs : List V)
 | dK (kvs : List (Key × V)) | dT (kvs : List (List Key × V))
 | set (S : Int → Bool) (n : Nat)
 | ins (C dx : Addr) (fs : List (Str × V))
 | own (x : Addr)
 | xd (fs : List (Str × V))
 | met (f x : Addr)
 | rng (lo hi : Int)
 | frz (o : Obj) (u : HO)
 | tbl (ps : Array Value)
 | ext (φ : Heap → Prop)
abbrev Hp := Addr → Option HO
def upd (H : Hp) (a : Addr) (o : HO) : Hp := fun b => if b = a then some o else H b
theorem Ag {H : Hp} {a : Addr} {o : HO} : upd H a o a = some o := by unfold upd; rw [if_pos rfl]
theorem Ad {H : Hp} {a b : Addr} {o : HO} (h : b ≠ a) : upd H a o b = H b := by unfold upd; rw [if_neg h]
theorem Vl {H : Hp} {a b : Addr} {o u : HO} (h : H a = some o) (h' : H b = some u) (d : o ≠ u) : a ≠ b := by
 intro e; subst e; rw [h] at h'; exact d (Option.some.inj h')
theorem Af {H : Hp} {a b : Addr} {o : HO} (h : H a = some o) (h' : H b = none) : a ≠ b := by
 intro e; subst e; rw [h] at h'; cases h'
section
variable (P : Program) (w : World)
def Be (H : Hp) (h : Heap) (a : Addr) : HO → Prop
  | .lst xs => xs.length ≤ sizeLine ∧ ∃ (its : List Value) (n : Nat), Vals xs its ∧ h.get? a = some { cls := .type "list", data := .seq its.toArray n }
  | .tup xs => xs.length ≤ sizeLine ∧ ∃ its : List Value, Vals xs its ∧ IsTup h a its.toArray
  | .dK kvs => kvs.length ≤ sizeLine ∧ (a == sysModules) = false ∧ ∃ vs, KV kvs vs ∧ h.DictOf (Bd P w) a vs
  | .dT kvs => kvs.length ≤ sizeLine ∧ (a == sysModules) = false ∧ ∃ xs : List (List Key × Addr × Value),
      Paired (fun (p : List Key × V) (q : List Key × Addr × Value) => p.1 = q.1 ∧ H q.2.1 = some (.tup (p.1.map kV)) ∧ RelV p.2 q.2.2) kvs xs ∧
      ∃ o es ep, h.get? a = some o ∧ o.ExactDict ∧ o.data = .dict es ep ∧ es.toList = xs.map (entryOfKey (tupleKind (Bd P w))) ∧ (xs.map (·.1)).Nodup
  | .set S n => h.SetOf (intKind P w) a S n
  | .ins C dx fs => H dx = some (.own a) ∧ fs.length ≤ 1000 ∧ dx ≠ a ∧ h.get? a = some (PySem.W.instObj C dx) ∧
      ∃ mA, h.Ns1 dx mA ∧ (∀ f, RelO (fs.lookup f) (mA f)) ∧ PySem.Within mA (fs.map (·.1))
  | .own _ => ∃ o, h.get? a = some o
  | .xd fs => ∃ mA, h.Ns1 a mA ∧ ∀ f, RelO (fs.lookup f) (mA f)
  | .rng lo hi => ∃ t u v, h.get? a = some { cls := .type "range", data := .fields #[.int lo t, .int hi u, .int 1 v] }
  | .frz o u => h.get? a = some o ∧ Be H h a u
  | .tbl ps => h.get? a = some { cls := .none, data := .fields ps }
  | .met f x => h.get? a = some (PySem.W.methodObj (.ref f) (.ref x))
  | .ext φ => φ h ∧ (∃ o, h.get? a = some o) ∧ ∀ h1 h2 : Heap, φ h1 → (∀ o, h1.get? a = some o → h2.get? a = some o) → φ h2
def HOk (H : Hp) (h : Heap) : Prop := ∀ a o, H a = some o → Be P w H h a o
end
section
variable {P : Program} {w : World} {H H' : Hp} {h h' : Heap} {a : Addr} {o : HO}
theorem Be.lt (x : Be P w H h a o) : a < h.objs.size := by
 cases o with
 | lst xs => obtain ⟨_, _, _, _, e⟩ := x; exact Heap.lt_size e
 | tup xs => obtain ⟨_, _, _, p⟩ := x; exact p.lt
 | dK kvs => obtain ⟨_, _, _, _, o, _, _, e, _⟩ := x; exact Heap.lt_size e
 | dT kvs => obtain ⟨_, _, _, _, o, _, _, e, _⟩ := x; exact Heap.lt_size e
 | set S n => obtain ⟨o, _, _, _, e, _⟩ := x; exact Heap.lt_size e
 | ins C dx fs => obtain ⟨_, _, _, e, _⟩ := x; exact Heap.lt_size e
 | own y => obtain ⟨_, e⟩ := x; exact Heap.lt_size e
 | xd fs => obtain ⟨_, ⟨_, _, _, e, _⟩, _⟩ := x; exact Heap.lt_size e
 | rng lo hi => obtain ⟨_, _, _, e⟩ := x; exact Heap.lt_size e
 | frz ob u => obtain ⟨e, _⟩ := x; exact Heap.lt_size e
 | tbl ps => exact Heap.lt_size (show h.get? a = some _ from x)
 | met f y => exact Heap.lt_size (show h.get? a = some _ from x)
 | ext φ => obtain ⟨_, ⟨_, e⟩, _⟩ := x; exact Heap.lt_size e
theorem Paired.mapP {α β : Type} {F G : α → β → Prop} : ∀ {l₁ : List α} {l₂ : List β}, Paired F l₁ l₂ → (∀ a b, F a b → G a b) → Paired G l₁ l₂
 | _, _, .nil, _ => .nil
 | _, _, .cons r t, f => .cons (f _ _ r) (Paired.mapP t f)
theorem Be.stay (x : Be P w H h a o) (k : ∀ b u, (b = a ∨ H b = some (.own a)) → h.get? b = some u → h'.get? b = some u)
  (ho : ∀ b, H b = some (.own a) → H' b = some (.own a)) (ht : ∀ b xs, H b = some (.tup xs) → H' b = some (.tup xs)) : Be P w H' h' a o := by
 induction o with
 | lst xs => obtain ⟨z, its, n, r, e⟩ := x; exact ⟨z, its, n, r, k _ _ (.inl rfl) e⟩
 | tup xs => obtain ⟨z, its, r, ob, e, c⟩ := x; exact ⟨z, its, r, ob, k _ _ (.inl rfl) e, c⟩
 | dK kvs => obtain ⟨z, y, vs, r, ob, es, ep, e, c⟩ := x; exact ⟨z, y, vs, r, ob, es, ep, k _ _ (.inl rfl) e, c⟩
 | dT kvs =>
  obtain ⟨z, y, xs, r, ob, es, ep, e, c⟩ := x
  exact ⟨z, y, xs, Paired.mapP r fun p q z => ⟨z.1, ht _ _ z.2.1, z.2.2⟩, ob, es, ep, k _ _ (.inl rfl) e, c⟩
 | set S n => obtain ⟨ob, es, ep, t, e, c⟩ := x; exact ⟨ob, es, ep, t, k _ _ (.inl rfl) e, c⟩
 | ins C dx fs =>
  obtain ⟨d, z, ne, e, mA, ⟨od, es, ep, e2, c⟩, r⟩ := x
  exact ⟨ho _ d, z, ne, k _ _ (.inl rfl) e, mA, ⟨od, es, ep, k _ _ (.inr d) e2, c⟩, r⟩
 | own y => obtain ⟨ob, e⟩ := x; exact ⟨ob, k _ _ (.inl rfl) e⟩
 | xd fs => obtain ⟨mA, ⟨od, es, ep, e, c⟩, r⟩ := x; exact ⟨mA, ⟨od, es, ep, k _ _ (.inl rfl) e, c⟩, r⟩
 | rng lo hi => obtain ⟨t, u, v, e⟩ := x; exact ⟨t, u, v, k _ _ (.inl rfl) e⟩
 | frz ob u ih => obtain ⟨e, q⟩ := x; exact ⟨k _ _ (.inl rfl) e, ih q⟩
 | tbl ps =>
  have e : h.get? a = some { cls := .none, data := .fields ps } := x
  show h'.get? a = some { cls := .none, data := .fields ps }
  exact k a _ (.inl rfl) e
 | met f y =>
  have e : h.get? a = some (PySem.W.methodObj (.ref f) (.ref y)) := x
  show h'.get? a = some (PySem.W.methodObj (.ref f) (.ref y))
  exact k a _ (.inl rfl) e
 | ext φ => obtain ⟨p, ⟨o, e⟩, st⟩ := x; exact ⟨st _ _ p fun o q => k _ _ (.inl rfl) q, ⟨o, k _ _ (.inl rfl) e⟩, st⟩
theorem HOk.lt (x : HOk P w H h) (e : H a = some o) : a < h.objs.size := (x a o e).lt
theorem HOk.fresh (x : HOk P w H h) (e : h.objs.size ≤ a) : H a = none := by
 cases q : H a with
 | none => rfl
 | some u => exact absurd (Nat.lt_of_lt_of_le (x.lt q) e) (Nat.lt_irrefl _)
theorem HOk.kept (x : HOk P w H h) (k : ∀ b u, h.get? b = some u → h'.get? b = some u) : HOk P w H h' := fun a o e =>
 (x a o e).stay (fun b u _ q => k b u q) (fun _ q => q) fun _ _ q => q
theorem HOk.laid (x : HOk P w H h) (k : ∀ b u, h.get? b = some u → h'.get? b = some u) (hp : h.objs.size ≤ a) (new : Be P w (upd H a o) h' a o) : HOk P w (upd H a o) h' := fun b u e => by
 have hn := x.fresh hp
 by_cases hb : b = a
 ·subst hb; rw [Ag] at e; cases e; exact new
 ·rw [Ad hb] at e
  exact (x b u e).stay (fun c v _ q => k c v q) (fun c q => by rw [Ad (Af q hn)]; exact q) fun c xs q => by rw [Ad (Af q hn)]; exact q
end
def Rd (H : Hp) (a : Addr) (u : HO) : Prop := H a = some u ∨ ∃ o, H a = some (.frz o u)
theorem Rd.of {H : Hp} {a : Addr} {u : HO} (h : H a = some u) : Rd H a u := .inl h
theorem Rd.ok {P : Program} {w : World} {H : Hp} {h : Heap} {a : Addr} {u : HO} (r : Rd H a u) (x : HOk P w H h) : Be P w H h a u := by
 rcases r with r | ⟨o, r⟩
 ·exact x a u r
 ·obtain ⟨_, q⟩ := x a _ r
  exact q
def Mut : Option HO → Prop
 | some (.lst _) => True
 | some (.dK _) => True
 | some (.dT _) => True
 | some (.set _ _) => True
 | some (.ins _ _ _) => True
 | some (.ext _) => True
 | _ => False
section
variable {P : Program} {w : World} {H : Hp} {h h' : Heap} {x e : Addr} {o' : HO}
theorem HOk.write (ok : HOk P w H h) (mu : Mut (H x)) (he : e = x ∨ H e = some (.own x)) (k : ∀ b u, b ≠ e → h.get? b = some u → h'.get? b = some u) (heo : ∃ u, h'.get? e = some u)
  (new : Be P w (upd H x o') h' x o') : HOk P w (upd H x o') h' := fun b u q => by
 have nown : ∀ c y, H c = some (.own y) → c ≠ x := fun c y r z => by subst z; rw [r] at mu; exact mu
 have ntup : ∀ c xs, H c = some (.tup xs) → c ≠ x := fun c xs r z => by subst z; rw [r] at mu; exact mu
 by_cases hb : b = x
 ·subst hb; rw [Ag] at q; cases q; exact new
 ·rw [Ad hb] at q
  by_cases hbe : b = e
  ·have q' : H b = some (.own x) := by
    rcases he with z | z
    ·exact absurd (hbe.trans z) hb
    ·rw [hbe]; exact z
   rw [q] at q'; cases q'
   obtain ⟨v, hv⟩ := heo
   exact ⟨v, by rw [hbe]; exact hv⟩
  ·refine (ok b u q).stay (fun c v hc r => k c v ?_ r) (fun c r => by rw [Ad (nown c b r)]; exact r) fun c xs r => by rw [Ad (ntup c xs r)]; exact r
   rcases hc with rfl | hc
   ·exact hbe
   ·rintro rfl
    rcases he with z | z
    ·exact nown c b hc z
    ·rw [hc] at z; cases z; exact hb rfl
end
structure Un (fs ex : List Addr) (H H' : Hp) (h h' : Heap) : Prop where
 keep : ∀ b o, h.get? b = some o → H b = none → b ∉ fs → b ∉ ex → h'.get? b = some o
 slot : ∀ b o, h.get? b = some o → H b = none → b ∈ fs → b ∉ ex → ∃ sl, h'.get? b = some { o with slots := sl }
 free : ∀ b o, h.get? b = some o → H b = none → b ∉ ex → H' b = none
 there : ∀ b o, h.get? b = some o → b ∉ ex → ∃ o', h'.get? b = some o'
 tups : ∀ b xs, H b = some (.tup xs) → H' b = some (.tup xs)
 frzs : ∀ b o u, H b = some (.frz o u) → H' b = some (.frz o u)
 tbls : ∀ b ps, H b = some (.tbl ps) → ∃ more, H' b = some (.tbl (ps ++ more))
section
variable {fs fs' ex ex' : List Addr} {H H1 H2 : Hp} {h h1 h2 h' : Heap} {a x e : Addr} {o : HO}
theorem Un.any (u : Un fs ex H H1 h h1) {b : Addr} {ob : Obj} (q : h.get? b = some ob) (n : H b = none) (hx : b ∉ ex) : ∃ sl, h1.get? b = some { ob with slots := sl } := by
 by_cases hb : b ∈ fs
 ·exact u.slot b ob q n hb hx
 ·exact ⟨ob.slots, u.keep b ob q n hb hx⟩
theorem Un.trans (a : Un fs ex H H1 h h1) (b : Un fs ex H1 H2 h1 h2) : Un fs ex H H2 h h2 where
 keep := fun c ob q n hc hx => b.keep c ob (a.keep c ob q n hc hx) (a.free c ob q n hx) hc hx
 slot := fun c ob q n hc hx => by
  obtain ⟨sl, e1⟩ := a.slot c ob q n hc hx
  obtain ⟨sl', e2⟩ := b.slot c _ e1 (a.free c ob q n hx) hc hx
  exact ⟨sl', e2⟩
 free := fun c ob q n hx => by
  obtain ⟨o', e1⟩ := a.there c ob q hx
  exact b.free c o' e1 (a.free c ob q n hx) hx
 there := fun c ob q hx => by
  obtain ⟨o', e1⟩ := a.there c ob q hx
  exact b.there c o' e1 hx
 tups := fun c xs q => b.tups c xs (a.tups c xs q)
 frzs := fun c ob xs q => b.frzs c ob xs (a.frzs c ob xs q)
 tbls := fun c ps q => by
  obtain ⟨m1, e1⟩ := a.tbls c ps q
  obtain ⟨m2, e2⟩ := b.tbls c _ e1
  exact ⟨m1 ++ m2, by rw [e2, Array.append_assoc]⟩
theorem Un.kept (k : ∀ b u, h.get? b = some u → h'.get? b = some u) : Un fs ex H H h h' :=
 ⟨fun b ob q _ _ _ => k b ob q, fun b ob q _ _ _ => ⟨ob.slots, k b ob q⟩, fun _ _ _ n _ => n, fun b ob q _ => ⟨ob, k b ob q⟩, fun _ _ q => q, fun _ _ _ q => q, fun _ ps q => ⟨#[], by rw [q]; simp⟩⟩
theorem Un.refl : Un fs ex H H h h := Un.kept fun _ _ q => q
theorem Un.laid (k : ∀ b u, h.get? b = some u → h'.get? b = some u) (hp : h.objs.size ≤ a) (hn : H a = none) : Un fs ex H (upd H a o) h h' where
 keep := fun b u q _ _ _ => k b u q
 slot := fun b u q _ _ _ => ⟨u.slots, k b u q⟩
 free := fun b u q n _ => by rw [Ad (Nat.ne_of_lt (Nat.lt_of_lt_of_le (Heap.lt_size q) hp))]; exact n
 there := fun b u q _ => ⟨u, k b u q⟩
 tups := fun b xs q => by rw [Ad (Af q hn)]; exact q
 frzs := fun b u xs q => by rw [Ad (Af q hn)]; exact q
 tbls := fun b ps q => ⟨#[], by rw [Ad (Af q hn), q]; simp⟩
theorem Un.write (mu : Mut (H x)) (he : e = x ∨ H e = some (.own x)) (k : ∀ b u, b ≠ e → h.get? b = some u → h'.get? b = some u) (heo : ∃ u, h'.get? e = some u) : Un fs ex H (upd H x o) h h' := by
 have hx : ∀ b, H b = none → b ≠ x := fun b n z => by subst z; rw [n] at mu; exact mu
 have hb : ∀ b, H b = none → b ≠ e := fun b n z => by
  subst z
  rcases he with r | r
  ·exact hx b n r
  ·rw [n] at r; cases r
 have hm : ∀ b u, H b = some u → ¬ Mut (some u) → b ≠ x := fun b u q nm z => by subst z; rw [q] at mu; exact nm mu
 refine ⟨fun b u q n _ _ => k b u (hb b n) q, fun b u q n _ _ => ⟨u.slots, k b u (hb b n) q⟩, fun b u q n _ => by rw [Ad (hx b n)]; exact n, fun b u q _ => ?_,
  fun b xs q => by rw [Ad (hm b _ q fun z => z)]; exact q, fun b u xs q => by rw [Ad (hm b _ q fun z => z)]; exact q, fun b ps q => ⟨#[], by rw [Ad (hm b _ q fun z => z), q]; simp⟩⟩
 by_cases hbe : b = e
 ·subst hbe; exact heo
 ·exact ⟨u, k b u hbe q⟩
theorem Un.mono (u : Un fs ex H H1 h h1) (hs : ∀ b ∈ fs, b ∈ fs') (hx : ∀ b ∈ ex, b ∈ ex') : Un fs' ex' H H1 h h1 :=
 ⟨fun b ob q n hb he => u.keep b ob q n (fun z => hb (hs b z)) fun z => he (hx b z), fun _ _ q n _ he => u.any q n fun z => he (hx _ z), fun b ob q n he => u.free b ob q n fun z => he (hx b z), fun b ob q he => u.there b ob q fun z => he (hx b z), u.tups, u.frzs, u.tbls⟩
end
def trk (h : Heap) (H : Hp) : List Addr := (List.range h.objs.size).filter fun a => (H a).isSome
def hidT (h : Heap) (H : Hp) : Heap := PySem.W.hideAll h (trk h H)
theorem Mp (h : Heap) (H : Hp) : (hidT h H).objs.size = h.objs.size := PySem.W.hideAll_size _ _
theorem Nf {h : Heap} {H : Hp} {b : Addr} {o : Obj} (e : h.get? b = some o) (n : H b = none) : (hidT h H).get? b = some o :=
 PySem.W.hideAll_get _ e fun hm => by
  have q : (H b).isSome = true := (List.mem_filter.mp hm).2
  rw [n] at q; simp at q
theorem Qx {h : Heap} {H : Hp} {b : Addr} {o : Obj} (e : (hidT h H).get? b = some o) : h.get? b = some o ∧ H b = none := by
 have e' : h.get? b = some o := PySem.W.of_hideAll (trk h H) e
 refine ⟨e', ?_⟩
 cases q : H b with
 | none => rfl
 | some x =>
  have hm : b ∈ trk h H := List.mem_filter.mpr ⟨List.mem_range.mpr (Heap.lt_size e'), by simp [q]⟩
  have z : (hidT h H).get? b = none := PySem.W.hideAll_none (trk h H) hm
  rw [z] at e; cases e
def Qy (g h : Heap) (L : Addr) : List (Addr × Obj) := (List.range h.objs.size).filterMap fun a => if a = L ∨ (g.get? a).isSome = true then none else (h.get? a).map fun o => (a, o)
def rest (g h : Heap) (L d : Addr) : List (Addr × Obj) := (Qy g h L).filter fun p => decide (p.1 ≠ d)
end L2
namespace L2
open PySem PySem.Spec PyProof.Rows
structure Mod (K : PySem.W.Frag) (mg : Str → Option Value) (base : Heap) : Prop where
 kin : K.In base
 glob : base.Ns mainGlobals mg
 blt : ∃ mb, base.Ns builtinsNs mb ∧ ∀ x : Str, x ≠ "__name__" → mb x = bootBuiltins x
 nolimit : base.NoLimit
structure Cx where
 prog : Program
 w : World
 K : PySem.W.Frag
 mg : Str → Option Value
 base : Heap
 A : Around
 N : List Str
 s₀ : Shared
 H₀ : Hp
 env : Env
 outer : List Env
 stack : List Env
 ex : List Addr
 fn : Str → Bool
 calm : Bool
 pn : List (Addr × Obj)
 xe : Value → Shared → Prop
def frs (l : List Env) : List Addr := l.filterMap (·.frame)
abbrev Cx.fs (X : Cx) : List Addr := frs X.outer
def Vis (sc : Scope) (x : Str) : Prop := sc.names.lookup x = some .local ∨ sc.names.lookup x = some .cell ∨ sc.names.lookup x = some .free
def Loc (sc : Scope) (x : Str) : Prop := sc.names.lookup x = some .local ∨ sc.names.lookup x = some .cell
def Look (env : Env) (h : Heap) (m : Str → Option Value) (x : Str) (u : Value) : Prop :=
 (env.kindOf x = some .local ∧ m x = some u) ∨ ((env.kindOf x = some .cell ∨ env.kindOf x = some .free) ∧ ∃ c, env.cells.lookup x = some c ∧ h.IsCell c (some u))
structure Cx.Ok (X : Cx) : Prop where
 mod : Mod X.K X.mg X.base
 kind : X.env.scope.kind = .function
 glob : X.env.globals = mainGlobals
 blt : X.env.builtins = builtinsNs
 above : X.s₀.heap.objs.size ≤ X.env.locals
 inj : ∀ x y c, X.env.cells.lookup x = some c → X.env.cells.lookup y = some c → x = y
 has : ∀ x, (X.env.kindOf x = some .cell ∨ X.env.kindOf x = some .free) → ∃ c, X.env.cells.lookup x = some c
 cab : ∀ x c, X.fn x = true → X.env.cells.lookup x = some c → X.s₀.heap.objs.size ≤ c
 hd : X.calm = true → X.A.handled = none
 frames : X.A.frames = some X.stack
 stk : X.stack = X.outer ∨ (X.stack = X.env :: X.outer ∧ X.env.frame = some X.env.locals)
 exf : ∀ b ∈ X.ex, b ≠ X.env.locals ∧ ∀ x c, X.env.cells.lookup x = some c → c ≠ b
 bs : ∀ b o, X.base.get? b = some o → X.s₀.heap.get? b = some o ∧ X.H₀ b = none
 bsz : X.base.objs.size ≤ X.s₀.heap.objs.size
 noex : ∀ b o, X.base.get? b = some o → b ∉ X.ex
 exfs : ∀ b ∈ X.ex, b ∉ X.fs
 funs : X.s₀.heap.FunFrames X.base X.outer
 frf : ∀ b ∈ X.fs, X.H₀ b = none
structure Inv (X : Cx) (pins : List (Addr × Obj)) (σ : List (Option V)) (H : Hp) (s : Shared) : Prop where
 ok : X.Ok
 os : s.os = X.s₀.os
 bare : AllBare s.gens
 base : Un X.fs X.ex X.H₀ H X.s₀.heap s.heap
 loc : ∃ m, s.heap.Ns X.env.locals m ∧ ∀ (i : Nat) (x : Str) (v : V), X.N[i]? = some x → σ[i]? = some (some v) → Vis X.env.scope x → ∃ u, RelV v u ∧ Look X.env s.heap m x u
 cell : ∀ x c, X.env.cells.lookup x = some c → ∃ v, s.heap.IsCell c v
 free : H X.env.locals = none
 freeC : ∀ x c, X.env.cells.lookup x = some c → H c = none
 pin : ∀ p ∈ X.pn ++ pins, s.heap.get? p.1 = some p.2 ∧ H p.1 = none ∧ p.1 ≠ X.env.locals ∧ p.1 ∉ X.fs ∧ ∀ v, p.2.data ≠ .cell v
 hok : HOk X.prog X.w H s.heap
 len : σ.length = X.N.length
section
variable {X : Cx} {pins : List (Addr × Obj)} {σ : List (Option V)} {H H' : Hp} {s : Shared} {h' : Heap}
theorem Cx.Ok.nofr (ok : X.Ok) {b : Addr} {o : Obj} (e : X.base.get? b = some o) : b ∉ X.fs := fun hb => by
 have := (ok.funs.mem hb).1
 rw [e] at this; cases this
theorem Inv.bs (I : Inv X pins σ H s) : ∀ b o, X.base.get? b = some o → s.heap.get? b = some o ∧ H b = none := fun b o e =>
 ⟨I.base.keep b o (I.ok.bs b o e).1 (I.ok.bs b o e).2 (I.ok.nofr e) (I.ok.noex b o e), I.base.free b o (I.ok.bs b o e).1 (I.ok.bs b o e).2 (I.ok.noex b o e)⟩
theorem Inv.bk (I : Inv X pins σ H s) : ∀ b o, X.base.get? b = some o → s.heap.get? b = some o := fun b o e => (I.bs b o e).1
theorem Inv.mod (I : Inv X pins σ H s) : Mod X.K X.mg X.base := I.ok.mod
theorem Inv.kIn (I : Inv X pins σ H s) : X.K.In s.heap := I.ok.mod.kin.keeps I.bk
theorem Inv.nolimit (I : Inv X pins σ H s) : s.heap.NoLimit := I.ok.mod.nolimit.keeps I.bk
theorem Inv.fr (I : Inv X pins σ H s) : ∃ m, Fr X.base X.env.locals s.heap m :=
 let ⟨m, hn, _⟩ := I.loc
 ⟨m, hn, I.bk, Nat.le_trans I.ok.bsz I.ok.above⟩
theorem Inv.lt (I : Inv X pins σ H s) : X.env.locals < s.heap.objs.size := let ⟨_, hn, _⟩ := I.loc; hn.lt
theorem Inv.sz (I : Inv X pins σ H s) : X.s₀.heap.objs.size ≤ s.heap.objs.size := Nat.le_trans I.ok.above (Nat.le_of_lt I.lt)
theorem Inv.nofs (I : Inv X pins σ H s) {a : Addr} (h : s.heap.objs.size ≤ a) : a ∉ X.fs := fun hb => by
 obtain ⟨_, o, ho, _⟩ := I.ok.funs.mem hb
 exact absurd (Nat.lt_of_lt_of_le (Heap.lt_size ho) (Nat.le_trans I.sz h)) (Nat.lt_irrefl _)
theorem Inv.cne (I : Inv X pins σ H s) : ∀ x c, X.env.cells.lookup x = some c → c ≠ X.env.locals := fun x c e z => by
 obtain ⟨v, o, ho, hd⟩ := I.cell x c e
 obtain ⟨m, ⟨o', es, ep, ho', hd', _⟩, _⟩ := I.loc
 rw [z, ho'] at ho; cases ho; rw [hd'] at hd; cases hd
theorem Inv.funs (I : Inv X pins σ H s) : s.heap.FunFrames X.base X.outer := by
 have all : ∀ (l : List Env), (∀ b ∈ frs l, b ∈ X.fs) → X.s₀.heap.FunFrames X.base l → s.heap.FunFrames X.base l := by
  intro l
  induction l with
  | nil => intro _ _; trivial
  | cons env r ih =>
   intro hs hl
   obtain ⟨hk, ⟨L, o, hf, hn, ho, hd⟩, hr⟩ := hl
   have hL : L ∈ X.fs := hs L (by unfold frs; rw [List.filterMap_cons, hf]; exact List.mem_cons_self)
   obtain ⟨sl, e⟩ := I.base.slot L o ho (I.ok.frf L hL) hL fun z => I.ok.exfs L z hL
   exact ⟨hk, ⟨L, _, hf, hn, e, hd⟩, ih (fun b hb => hs b (by unfold frs; rw [List.filterMap_cons, hf]; exact List.mem_cons_of_mem _ hb)) hr⟩
 exact all X.outer (fun _ hb => hb) I.ok.funs
theorem Inv.stack (I : Inv X pins σ H s) : s.heap.FunFrames X.base X.stack := by
 rcases I.ok.stk with e | ⟨e, hf⟩
 ·rw [e]; exact I.funs
 ·rw [e]
  obtain ⟨m, hn, _⟩ := I.loc
  refine .cons (by rw [I.ok.kind]; decide) hf hn ?_ I.funs
  exact Heap.get?_none_of_le (Nat.le_trans I.ok.bsz I.ok.above)
theorem Inv.stkSub (I : Inv X pins σ H s) : ∀ b ∈ frs X.stack, b ∈ X.env.locals :: X.fs := fun b hb => by
 rcases I.ok.stk with e | ⟨e, hf⟩
 ·rw [e] at hb; exact List.mem_cons_of_mem _ hb
 ·rw [e] at hb
  unfold frs at hb
  rw [List.filterMap_cons, hf] at hb
  exact hb
theorem Inv.stkFree (I : Inv X pins σ H s) : ∀ b ∈ frs X.stack, H b = none := fun b hb => by
 rcases List.mem_cons.mp (I.stkSub b hb) with e | hb
 ·rw [e]; exact I.free
 ·obtain ⟨_, o, ho, _⟩ := I.ok.funs.mem hb
  exact I.base.free b o ho (I.ok.frf b hb) fun z => I.ok.exfs b z hb
theorem Inv.step {g' : Array GenState} {t' : Nat} {d' : Drawn} {ch : List Addr} (I : Inv X pins σ H s)
  (hch : ∀ b ∈ ch, (b ∈ X.ex ∨ X.s₀.heap.objs.size ≤ b) ∧ b ≠ X.env.locals ∧ (∀ x c, X.env.cells.lookup x = some c → c ≠ b) ∧ ∀ p ∈ X.pn ++ pins, p.1 ≠ b)
  (keep : ∀ b o, b ≠ X.env.locals → b ∉ X.fs → b ∉ ch → s.heap.get? b = some o → H b = none → h'.get? b = some o)
  (slot : ∀ b o, b ≠ X.env.locals → b ∈ X.fs → b ∉ ch → s.heap.get? b = some o → H b = none → ∃ sl, h'.get? b = some { o with slots := sl }) (free : ∀ b o, b ∉ ch → s.heap.get? b = some o → H b = none → H' b = none)
  (there : ∀ b o, b ∉ ch → s.heap.get? b = some o → ∃ o', h'.get? b = some o')
  (tups : ∀ b xs, H b = some (.tup xs) → H' b = some (.tup xs)) (frzs : ∀ b o u, H b = some (.frz o u) → H' b = some (.frz o u)) (tbls : ∀ b ps, H b = some (.tbl ps) → ∃ more, H' b = some (.tbl (ps ++ more)))
  (ns : ∀ m, s.heap.Ns X.env.locals m → h'.Ns X.env.locals m) (hok : HOk X.prog X.w H' h') (hg : AllBare g') :
  Inv X pins σ H' { s with heap := h', gens := g', drawn := d', toks := t' } := by
 have neL : ∀ b o, X.s₀.heap.get? b = some o → b ≠ X.env.locals := fun b o e => Nat.ne_of_lt (Nat.lt_of_lt_of_le (Heap.lt_size e) I.ok.above)
 have neC : ∀ b o, X.s₀.heap.get? b = some o → b ∉ X.ex → b ∉ ch := fun b o e hx hb => by
  rcases (hch b hb).1 with z | z
  ·exact hx z
  ·exact absurd (Nat.lt_of_lt_of_le (Heap.lt_size e) z) (Nat.lt_irrefl _)
 have cellK : ∀ x c, X.env.cells.lookup x = some c → ∀ v, s.heap.IsCell c v → h'.IsCell c v := fun x c e v ⟨o, ho, hd⟩ => by
  have nch : c ∉ ch := fun z => (hch c z).2.2.1 x c e rfl
  by_cases hc : c ∈ X.fs
  ·obtain ⟨sl, q⟩ := slot c o (I.cne x c e) hc nch ho (I.freeC x c e)
   exact ⟨_, q, hd⟩
  ·exact ⟨o, keep c o (I.cne x c e) hc nch ho (I.freeC x c e), hd⟩
 refine ⟨I.ok, I.os, hg, ⟨fun b o e n hb hx => ?_, fun b o e n hb hx => ?_, fun b o e n hx => ?_, fun b o e hx => ?_, fun b xs e => tups b xs (I.base.tups b xs e), fun b o xs e => frzs b o xs (I.base.frzs b o xs e), fun b ps e => ?_⟩, ?_, fun x c e => ?_, ?_, fun x c e => ?_, fun p hp => ?_, hok, I.len⟩
 ·exact keep b o (neL b o e) hb (neC b o e hx) (I.base.keep b o e n hb hx) (I.base.free b o e n hx)
 ·obtain ⟨sl, e1⟩ := I.base.slot b o e n hb hx
  obtain ⟨sl', e2⟩ := slot b _ (neL b o e) hb (neC b o e hx) e1 (I.base.free b o e n hx)
  exact ⟨sl', e2⟩
 ·obtain ⟨o', e1⟩ := I.base.there b o e hx
  exact free b o' (neC b o e hx) e1 (I.base.free b o e n hx)
 ·obtain ⟨o', e1⟩ := I.base.there b o e hx
  exact there b o' (neC b o e hx) e1
 ·obtain ⟨m1, e1⟩ := I.base.tbls b ps e
  obtain ⟨m2, e2⟩ := tbls b _ e1
  exact ⟨m1 ++ m2, by rw [e2, Array.append_assoc]⟩
 ·obtain ⟨m, hn, hl⟩ := I.loc
  refine ⟨m, ns m hn, fun i x v e1 e2 e3 => ?_⟩
  obtain ⟨u, r, l⟩ := hl i x v e1 e2 e3
  refine ⟨u, r, ?_⟩
  rcases l with l | ⟨k, c, e, z⟩
  ·exact .inl l
  ·exact .inr ⟨k, c, e, cellK x c e _ z⟩
 ·obtain ⟨v, z⟩ := I.cell x c e
  exact ⟨v, cellK x c e v z⟩
 ·obtain ⟨m, ⟨o, _, _, ho, _⟩, _⟩ := I.loc
  exact free _ o (fun z => (hch _ z).2.1 rfl) ho I.free
 ·obtain ⟨v, o, ho, hd⟩ := I.cell x c e
  exact free c o (fun z => (hch c z).2.2.1 x c e rfl) ho (I.freeC x c e)
 ·obtain ⟨e, n, ne, nf, d⟩ := I.pin p hp
  have nch : p.1 ∉ ch := fun z => (hch p.1 z).2.2.2 p hp rfl
  exact ⟨keep p.1 p.2 ne nf nch e n, free p.1 p.2 nch e n, ne, nf, d⟩
theorem Inv.un {t' : Nat} (I : Inv X pins σ H s) (u : Un X.fs [] H H' s.heap h') (hok : HOk X.prog X.w H' h') : Inv X pins σ H' { s with heap := h', toks := t' } := by
 obtain ⟨m, ⟨o, es, ep, ho, r⟩, _⟩ := id I.loc
 obtain ⟨sl, hL⟩ := u.any ho I.free (by simp)
 exact I.step (g' := s.gens) (d' := s.drawn) (ch := []) (fun _ z => nomatch z) (fun b o _ hb _ e n => u.keep b o e n hb (by simp)) (fun b o _ hb _ e n => u.slot b o e n hb (by simp)) (fun b o _ e n => u.free b o e n (by simp)) (fun b o _ e => u.there b o e (by simp)) u.tups u.frzs u.tbls (fun m' hm => by
  obtain ⟨o', es', ep', ho', r'⟩ := hm
  rw [ho] at ho'; cases ho'
  exact ⟨_, es', ep', hL, r'⟩) hok I.bare
theorem Inv.call {g' : Array GenState} {t' : Nat} {d' : Drawn} {ch : List Addr} (I : Inv X pins σ H s) (u : Un (frs X.stack) ch H H' s.heap h') (hok : HOk X.prog X.w H' h') (hg : AllBare g')
  (hch : ∀ b ∈ ch, (b ∈ X.ex ∨ X.s₀.heap.objs.size ≤ b) ∧ b ≠ X.env.locals ∧ (∀ x c, X.env.cells.lookup x = some c → c ≠ b) ∧ ∀ p ∈ X.pn ++ pins, p.1 ≠ b) :
  Inv X pins σ H' { s with heap := h', gens := g', drawn := d', toks := t' } := by
 obtain ⟨m, ⟨o, es, ep, ho, r⟩, _⟩ := id I.loc
 obtain ⟨sl, hL⟩ := u.any ho I.free fun z => (hch _ z).2.1 rfl
 exact I.step (ch := ch) hch (fun b o hL hb hc e n => u.keep b o e n (fun z => (List.mem_cons.mp (I.stkSub b z)).elim hL hb) hc) (fun b o _ _ hc e n => u.any e n hc) (fun b o hc e n => u.free b o e n hc) (fun b o hc e => u.there b o e hc) u.tups u.frzs u.tbls (fun m' hm => by
  obtain ⟨o', es', ep', ho', r'⟩ := hm
  rw [ho] at ho'; cases ho'
  exact ⟨_, es', ep', hL, r'⟩) hok hg
theorem Inv.turned {t' : Nat} {it : Addr} (I : Inv X pins σ H s) (k : ∀ b o, b ≠ it → s.heap.get? b = some o → h'.get? b = some o) (hn : H it = none) (hL : it ≠ X.env.locals)
  (h1 : it ∈ X.ex ∨ X.s₀.heap.objs.size ≤ it) (h2 : ∀ x c, X.env.cells.lookup x = some c → c ≠ it) (h3 : ∀ p ∈ X.pn ++ pins, p.1 ≠ it) : Inv X pins σ H { s with heap := h', toks := t' } := by
 have nit : ∀ b u, H b = some u → b ≠ it := fun b u e z => by rw [z, hn] at e; cases e
 refine I.step (g' := s.gens) (d' := s.drawn) (ch := [it]) (fun b hb => ?_) (fun b o _ _ hc e _ => k b o (fun z => hc (by simp [z])) e) (fun b o _ _ hc e _ => ⟨o.slots, k b o (fun z => hc (by simp [z])) e⟩) (fun _ _ _ _ n => n)
  (fun b o hc e => ⟨o, k b o (fun z => hc (by simp [z])) e⟩) (fun _ _ e => e) (fun _ _ _ e => e) (fun b ps e => ⟨#[], by rw [e]; simp⟩) (fun m hm => ?_) (fun b u e => ?_) I.bare
 ·have e : b = it := by simpa using hb
  subst e
  exact ⟨h1, hL, h2, h3⟩
 ·obtain ⟨o, es, ep, ho, r⟩ := hm
  exact ⟨o, es, ep, k _ o (Ne.symm hL) ho, r⟩
 ·refine (I.hok b u e).stay (fun c v hc q => k c v ?_ q) (fun _ q => q) fun _ _ q => q
  rcases hc with z | z
  ·rw [z]; exact nit b u e
  ·exact nit c _ z
theorem Inv.tok (I : Inv X pins σ H s) (t : Nat) : Inv X pins σ H { s with toks := t } := I.un (h' := s.heap) (t' := t) Un.refl I.hok
theorem Inv.kept {t' : Nat} (I : Inv X pins σ H s) (k : ∀ b u, s.heap.get? b = some u → h'.get? b = some u) : Inv X pins σ H { s with heap := h', toks := t' } := I.un (Un.kept k) (I.hok.kept k)
theorem Inv.laid {a : Addr} {o : HO} {t' : Nat} (I : Inv X pins σ H s) (k : ∀ b u, s.heap.get? b = some u → h'.get? b = some u) (hp : s.heap.objs.size ≤ a) (new : Be X.prog X.w (upd H a o) h' a o) :
  Inv X pins σ (upd H a o) { s with heap := h', toks := t' } := I.un (Un.laid k hp (I.hok.fresh hp)) (I.hok.laid k hp new)
theorem Inv.write {x e : Addr} {o : HO} {t' : Nat} (I : Inv X pins σ H s) (mu : Mut (H x)) (he : e = x ∨ H e = some (.own x)) (k : ∀ b u, b ≠ e → s.heap.get? b = some u → h'.get? b = some u) (heo : ∃ u, h'.get? e = some u)
  (new : Be X.prog X.w (upd H x o) h' x o) : Inv X pins σ (upd H x o) { s with heap := h', toks := t' } := I.un (Un.write mu he k heo) (I.hok.write mu he k heo new)
theorem Inv.pins_of {pins' : List (Addr × Obj)} (I : Inv X pins σ H s) (h : ∀ p ∈ pins', s.heap.get? p.1 = some p.2 ∧ H p.1 = none ∧ p.1 ≠ X.env.locals ∧ p.1 ∉ X.fs ∧ ∀ v, p.2.data ≠ .cell v) : Inv X pins' σ H s :=
 ⟨I.ok, I.os, I.bare, I.base, I.loc, I.cell, I.free, I.freeC, fun p hp => (List.mem_append.mp hp).elim (fun z => I.pin p (List.mem_append_left _ z)) (h p), I.hok, I.len⟩
theorem G7 {N : List Str} (hN : N.Nodup) {i j : Nat} {x : Str} (a : N[i]? = some x) (b : N[j]? = some x) : i = j := by
 obtain ⟨h1, e1⟩ := List.getElem?_eq_some_iff.mp a
 obtain ⟨h2, e2⟩ := List.getElem?_eq_some_iff.mp b
 exact (List.getElem_inj hN).mp (e1.trans e2.symm)
theorem Mq {M : Model} {A : Around} {E : Value → Shared → Prop} {i : Nat} {x : Str} {v : V} {u : Value} {Q : Unit → Shared → Prop} (I : Inv X pins σ H s) (hN : X.N.Nodup) (hi : X.N[i]? = some x) (hx : Loc X.env.scope x) (r : RelV v u)
  (h : ∀ s', Inv X pins (σ.set i (some v)) H s' → (∃ a, Heap.SameBut a s.heap s'.heap ∧ (a = X.env.locals ∨ X.env.cells.lookup x = some a)) → Q () s') (hf : X.fn x = true ∨ X.env.scope.names.lookup x = some .local := by first | exact .inl rfl | exact .inr rfl | assumption) : wpAny M A (storeName X.env x u) Q E s := by
 obtain ⟨m, hn, hl⟩ := id I.loc
 have hcls : (X.env.scope.kind == .class || (X.env.scope.kind == .module && X.env.locals != X.env.globals)) = false := by rw [I.ok.kind]; rfl
 have hiσ : i < σ.length := by rw [I.len]; exact (List.getElem?_eq_some_iff.mp hi).1
 have cne := I.cne
 have tracked : ∀ {a : Addr} {h' : Heap}, (∃ o, s.heap.get? a = some o ∧ H a = none) → Heap.SameBut a s.heap h' → HOk X.prog X.w H h' := fun {a h'} ha hs b ob e => by
  obtain ⟨_, _, hfree⟩ := ha
  refine (I.hok b ob e).stay (fun c w' hc q => (hs.2 c ?_).trans q) (fun _ q => q) fun _ _ q => q
  rintro rfl
  rcases hc with rfl | hc
  ·rw [hfree] at e; cases e
  ·rw [hfree] at hc; cases hc
 rcases hx with hk | hk
 ·refine wpAny_storeName_local hk hn (fun h' hn' hs => ?_) hcls
  obtain ⟨oL, _, _, hoL, _⟩ := id hn
  refine h _ ⟨I.ok, I.os, I.bare, ⟨fun b o e n hb hx => ?_, fun b o e n hb hx => ?_, I.base.free, fun b o e hx => ?_, I.base.tups, I.base.frzs, I.base.tbls⟩, ⟨_, hn', fun j y v' e1 e2 e3 => ?_⟩, fun y c e => ?_, I.free, I.freeC, fun p hp => ?_, tracked ⟨oL, hoL, I.free⟩ hs, by simpa using I.len⟩ ⟨_, hs, .inl rfl⟩
  ·exact (hs.2 b (Nat.ne_of_lt (Nat.lt_of_lt_of_le (Heap.lt_size e) I.ok.above))).trans (I.base.keep b o e n hb hx)
  ·obtain ⟨sl, e1⟩ := I.base.slot b o e n hb hx
   exact ⟨sl, (hs.2 b (Nat.ne_of_lt (Nat.lt_of_lt_of_le (Heap.lt_size e) I.ok.above))).trans e1⟩
  ·obtain ⟨o', e1⟩ := I.base.there b o e hx
   exact ⟨o', (hs.2 b (Nat.ne_of_lt (Nat.lt_of_lt_of_le (Heap.lt_size e) I.ok.above))).trans e1⟩
  ·by_cases hj : j = i
   ·subst hj
    rw [hi] at e1; cases e1
    rw [List.getElem?_set_self hiσ] at e2
    cases e2
    exact ⟨u, r, .inl ⟨hk, by simp⟩⟩
   ·rw [List.getElem?_set_ne (Ne.symm hj)] at e2
    obtain ⟨u', r', q⟩ := hl j y v' e1 e2 e3
    refine ⟨u', r', ?_⟩
    rcases q with ⟨k, e⟩ | ⟨k, c, e, z⟩
    ·refine .inl ⟨k, ?_⟩
     have : y ≠ x := fun e => hj (G7 hN e1 (e ▸ hi))
     simp [this, e]
    ·exact .inr ⟨k, c, e, z.sameBut hs (cne y c e)⟩
  ·obtain ⟨w', z⟩ := I.cell y c e
   exact ⟨w', z.sameBut hs (cne y c e)⟩
  ·obtain ⟨e, n, ne, nf, d⟩ := I.pin p hp
   exact ⟨(hs.2 p.1 ne).trans e, n, ne, nf, d⟩
 ·have hfn : X.fn x = true := by
   rcases hf with z | z
   ·exact z
   ·rw [z] at hk; cases hk
  obtain ⟨c, hc⟩ := I.ok.has x (.inl hk)
  obtain ⟨w', z⟩ := I.cell x c hc
  refine wpAny_storeName_cell I.ok.kind hk hc z (fun h' hc' hs => ?_)
  obtain ⟨oc, hoc, hocd⟩ := id z
  refine h { s with heap := h' } ⟨I.ok, I.os, I.bare, ⟨fun b o e n hb hx => ?_, fun b o e n hb hx => ?_, I.base.free, fun b o e hx => ?_, I.base.tups, I.base.frzs, I.base.tbls⟩, ⟨m, hn.sameBut hs (Ne.symm (cne x c hc)), fun j y v' e1 e2 e3 => ?_⟩, fun y c' e => ?_, I.free, I.freeC, fun p hp => ?_, tracked ⟨oc, hoc, I.freeC x c hc⟩ hs, by simpa using I.len⟩ ⟨c, hs, .inr hc⟩
  ·exact (hs.2 b (Nat.ne_of_lt (Nat.lt_of_lt_of_le (Heap.lt_size e) (I.ok.cab x c hfn hc)))).trans (I.base.keep b o e n hb hx)
  ·obtain ⟨sl, e1⟩ := I.base.slot b o e n hb hx
   exact ⟨sl, (hs.2 b (Nat.ne_of_lt (Nat.lt_of_lt_of_le (Heap.lt_size e) (I.ok.cab x c hfn hc)))).trans e1⟩
  ·obtain ⟨o', e1⟩ := I.base.there b o e hx
   exact ⟨o', (hs.2 b (Nat.ne_of_lt (Nat.lt_of_lt_of_le (Heap.lt_size e) (I.ok.cab x c hfn hc)))).trans e1⟩
  ·by_cases hj : j = i
   ·subst hj
    rw [hi] at e1; cases e1
    rw [List.getElem?_set_self hiσ] at e2
    cases e2
    exact ⟨u, r, .inr ⟨.inl hk, c, hc, hc'⟩⟩
   ·rw [List.getElem?_set_ne (Ne.symm hj)] at e2
    obtain ⟨u', r', q⟩ := hl j y v' e1 e2 e3
    refine ⟨u', r', ?_⟩
    rcases q with q | ⟨k, c', e, z'⟩
    ·exact .inl q
    ·refine .inr ⟨k, c', e, z'.sameBut hs ?_⟩
     rintro rfl
     exact hj (G7 hN e1 (I.ok.inj _ _ _ e hc ▸ hi))
  ·by_cases hcc : c' = c
   ·subst hcc; exact ⟨_, hc'⟩
   ·obtain ⟨w2, z2⟩ := I.cell y c' e
    exact ⟨w2, z2.sameBut hs hcc⟩
  ·obtain ⟨e, n, ne, nf, d⟩ := I.pin p hp
   refine ⟨(hs.2 p.1 ?_).trans e, n, ne, nf, d⟩
   intro q
   rw [q, hoc] at e
   have q' : oc = p.2 := Option.some.inj e
   exact d w' (by rw [← q']; exact hocd)
theorem GF {M : Model} {A : Around} {E : Value → Shared → Prop} {i : Nat} {x : Str} {v : V} {u : Value} {Q : Unit → Shared → Prop} (I : Inv X pins σ H s) (hN : X.N.Nodup) (hi : X.N[i]? = some x) (hx : Loc X.env.scope x) (r : RelV v u)
  (h : ∀ s', Inv X pins (σ.set i (some v)) H s' → Q () s') (hf : X.fn x = true ∨ X.env.scope.names.lookup x = some .local := by first | exact .inl rfl | exact .inr rfl | assumption) : wpAny M A (storeName X.env x u) Q E s :=
 Mq I hN hi hx r (fun s' I' _ => h s' I') hf
theorem Inv.call' {s' : Shared} {ch : List Addr} (I : Inv X pins σ H s) (ho : s'.os = s.os) (u : Un (frs X.stack) ch H H' s.heap s'.heap) (hok : HOk X.prog X.w H' s'.heap) (hg : AllBare s'.gens)
  (hch : ∀ b ∈ ch, (b ∈ X.ex ∨ X.s₀.heap.objs.size ≤ b) ∧ b ≠ X.env.locals ∧ (∀ x c, X.env.cells.lookup x = some c → c ≠ b) ∧ ∀ p ∈ X.pn ++ pins, p.1 ≠ b) : Inv X pins σ H' s' := by
 obtain ⟨h', g', d', t', o'⟩ := s'
 have e : o' = s.os := ho
 subst e
 exact I.call (g' := g') (t' := t') (d' := d') u hok hg hch
end
abbrev XK := Value → Option Addr → Hp → Prop
abbrev St := List (Option V)
abbrev VK := V → Hp → Prop
abbrev TE := St → Hp → VK → Prop
abbrev TT := St → Hp → (Bool → Hp → Prop) → Prop
abbrev TA := St → Hp → (List V → Hp → Prop) → Prop
structure Ends where
 nx : St → Hp → Prop
 rt : VK
 bk : St → Hp → Prop := fun _ _ => False
 ct : St → Hp → Prop := fun _ _ => False
abbrev TS := Ends → St → Hp → Prop
def EP (X : Cx) (pins : List (Addr × Obj)) (σ : St) (Q : VK) (u : Value) (s' : Shared) : Prop := ∃ v H', Inv X pins σ H' s' ∧ RelV v u ∧ Q v H'
def TP (X : Cx) (pins : List (Addr × Obj)) (σ : St) (Q : Bool → Hp → Prop) (b : Bool) (s' : Shared) : Prop := ∃ H', Inv X pins σ H' s' ∧ Q b H'
def AP (X : Cx) (pins : List (Addr × Obj)) (σ : St) (Q : List V → Hp → Prop) (us : List Value) (s' : Shared) : Prop := ∃ vs H', Inv X pins σ H' s' ∧ Vals vs us ∧ Q vs H'
def SP (X : Cx) (pins : List (Addr × Obj)) (D : Ends) (f : Flow) (s' : Shared) : Prop :=
 match f with
 | .next => ∃ σ' H', Inv X pins σ' H' s' ∧ D.nx σ' H'
 | .brk => ∃ σ' H', Inv X pins σ' H' s' ∧ D.bk σ' H'
 | .cont => ∃ σ' H', Inv X pins σ' H' s' ∧ D.ct σ' H'
 | .ret u => ∃ v σ' H', Inv X pins σ' H' s' ∧ RelV v u ∧ D.rt v H'
def PE (X : Cx) (e : Expr) (t : TE) : Prop :=
 ∀ (pins : List (Addr × Obj)) (s : Shared) (σ : St) (H : Hp) (Q : VK), Inv X pins σ H s → t σ H Q → wpAny (model X.prog X.w) X.A (eval e X.env) (EP X pins σ Q) X.xe s
def PT (X : Cx) (e : Expr) (t : TT) : Prop :=
 ∀ (pins : List (Addr × Obj)) (s : Shared) (σ : St) (H : Hp) (Q : Bool → Hp → Prop), Inv X pins σ H s → t σ H Q → wpAny (model X.prog X.w) X.A (isTrue e X.env (eval e X.env)) (TP X pins σ Q) X.xe s
def PW (X : Cx) (e : Expr) (t : TT) : Prop :=
 ∀ (whole : Sem Value) (pins : List (Addr × Obj)) (s : Shared) (σ : St) (H : Hp) (Q : Bool → Hp → Prop), Inv X pins σ H s → t σ H Q → wpAny (model X.prog X.w) X.A (isTrue e X.env whole) (TP X pins σ Q) X.xe s
theorem PW.pt {X : Cx} {e : Expr} {t : TT} (h : PW X e t) : PT X e t := h _
def PA (X : Cx) (es : List Expr) (t : TA) : Prop :=
 ∀ (pos : Pos) (pins : List (Addr × Obj)) (s : Shared) (σ : St) (H : Hp) (Q : List V → Hp → Prop), Inv X pins σ H s → t σ H Q → wpAny (model X.prog X.w) X.A (spliced (backTo pos (starEach es X.env))) (AP X pins σ Q) X.xe s
def PS (X : Cx) (st : Stmt) (t : TS) : Prop :=
 ∀ (pins : List (Addr × Obj)) (s : Shared) (σ : St) (H : Hp) (D : Ends), Inv X pins σ H s → t D σ H → wpAny (model X.prog X.w) X.A (exec st X.env) (SP X pins D) X.xe s
def PSs (X : Cx) (st : List Stmt) (t : TS) : Prop :=
 ∀ (pins : List (Addr × Obj)) (s : Shared) (σ : St) (H : Hp) (D : Ends), Inv X pins σ H s → t D σ H → wpAny (model X.prog X.w) X.A (execs st X.env) (SP X pins D) X.xe s
theorem thn {α : Type} {t : Sem α} {Q Q' : α → Shared → Prop} {M : Model} {A : Around} {E : Value → Shared → Prop} {s : Shared} (h : wpAny M A t Q E s) (hQ : ∀ a s, Q a s → Q' a s) : wpAny M A t Q' E s := wpAny_mono h hQ fun _ _ x => x
end L2
namespace L2
open PySem PySem.Spec PyProof.Rows
section
variable {X : Cx}
def tVar (i : Nat) : TE := fun σ H Q => ∃ v, σ[i]? = some (some v) ∧ Q v H
def tC (v : V) : TE := fun _ H Q => Q v H
theorem Ua {i : Nat} {x : Str} {pos : Pos} (hN : X.N[i]? = some x) (hv : Vis X.env.scope x) (hd : (x == ("__debug__" : Str)) = false := by decide) (hcd : (x == ("__classdict__" : Str)) = false := by decide) : PE X (.Name x pos) (tVar i) := by
 intro pins s σ H Q I h
 obtain ⟨v, e, h⟩ := h
 obtain ⟨m, hn, hl⟩ := I.loc
 obtain ⟨u, r, l⟩ := hl i x v hN e hv
 have fin : EP X pins σ Q u s := ⟨v, H, I, r, h⟩
 rcases l with ⟨hk, hm⟩ | ⟨hk, c, hc, hcell⟩
 ·exact wpAny_Name (wpAny_loadName_local I.ok.kind hk hn hm fin) hd
 ·rcases hk with hk | hk
  ·exact wpAny_Name (wpAny_loadName_cell I.ok.kind hk hc hcell fin) hd
  ·exact wpAny_Name (wpAny_loadName_free I.ok.kind hk hc hcell fin hcd) hd
theorem Ub {i j pos} : PE X (.Constant (.int i) j pos) (tC (.int i)) := fun _ _ _ H _ I h => wpAny_Constant_int ⟨.int i, H, I.tok _, ⟨_, rfl⟩, h⟩
theorem Vm {b j pos} : PE X (.Constant (.bool b) j pos) (tC (.bl b)) := fun _ _ _ H _ I h => Constant_bool ⟨.bl b, H, I, rfl, h⟩
theorem Uc {j pos} : PE X (.Constant .none j pos) (tC .non) := fun _ _ _ H _ I h => Constant_none ⟨.non, H, I, rfl, h⟩
theorem Ud {x j pos} : PE X (.Constant (.str x) j pos) (tC (.str x)) := fun _ _ _ H _ I h => Calls.Constant_str ⟨.str x, H, I.tok _, ⟨_, rfl⟩, h⟩
def Gl (X : Cx) (x : Str) : Prop := X.env.kindOf x = some .globalImplicit
theorem Dv {E : Value → Shared → Prop} {pins : List (Addr × Obj)} {s : Shared} {σ : St} {H : Hp} {x : Str} {u : Value} {pos : Pos} {Q : Value → Shared → Prop} (I : Inv X pins σ H s) (hg : Gl X x) (hm : X.mg x = some u) (h : Q u s)
  (hd : (x == ("__debug__" : Str)) = false := by decide) : wpAny (model X.prog X.w) X.A (eval (.Name x pos) X.env) Q E s :=
 Calls.Name_function_global I.ok.kind hg (Calls.loadGlobal_global (by rw [I.ok.glob]; exact I.mod.glob.keeps I.bk) hm h) hd
theorem Ng {E : Value → Shared → Prop} {pins : List (Addr × Obj)} {s : Shared} {σ : St} {H : Hp} {x : Str} {u : Value} {pos : Pos} {Q : Value → Shared → Prop} (I : Inv X pins σ H s) (hg : Gl X x) (hm : X.mg x = none) (hv : bootBuiltins x = some u) (h : Q u s)
  (hn : x ≠ "__name__" := by decide) (hd : (x == ("__debug__" : Str)) = false := by decide) : wpAny (model X.prog X.w) X.A (eval (.Name x pos) X.env) Q E s := by
 obtain ⟨mb, h1, h2⟩ := I.mod.blt
 exact Calls.Name_function_global I.ok.kind hg (Calls.loadGlobal_builtin (by rw [I.ok.glob]; exact I.mod.glob.keeps I.bk) hm (by rw [I.ok.blt]; exact h1.keeps I.bk) ((h2 x hn).trans hv) h) hd
theorem Ci {x : Str} {v : V} {u : Value} {pos : Pos} (hg : Gl X x) (hm : X.mg x = some u) (r : RelV v u) (hd : (x == ("__debug__" : Str)) = false := by decide) : PE X (.Name x pos) (tC v) :=
 fun _ _ _ H _ I h => Dv I hg hm ⟨v, H, I, r, h⟩ hd
theorem Qz {x : Str} {v : V} {u : Value} {pos : Pos} (hg : Gl X x) (hm : X.mg x = none) (hv : bootBuiltins x = some u) (r : RelV v u) (hn : x ≠ "__name__" := by decide) (hd : (x == ("__debug__" : Str)) = false := by decide) : PE X (.Name x pos) (tC v) :=
 fun _ _ _ H _ I h => Ng I hg hm hv ⟨v, H, I, r, h⟩ hn hd
def t2I (ta tb : TE) (k : Int → Int → Hp → Prop) : St → Hp → Prop := fun σ H => ta σ H fun x H1 => tb σ H1 fun y H2 => ∃ i j, x = .int i ∧ y = .int j ∧ k i j H2
variable {a b : Expr} {ta tb : TE} {pos : Pos}
def tCmp (p : Int → Int → Bool) (ta tb : TE) : TE := fun σ H Q => t2I ta tb (fun i j H2 => Q (.bl (p i j)) H2) σ H
abbrev tLt : TE → TE → TE := tCmp fun i j => decide (i < j)
abbrev tGt : TE → TE → TE := tCmp fun i j => decide (j < i)
variable {tA tB' : TT} {rest : List Expr}
def tOr (t u : TT) : TT := fun σ H Q => t σ H fun c H1 => if c = true then Q true H1 else u σ H1 Q
def tNot (t : TT) : TT := fun σ H Q => t σ H fun c H1 => Q (!c) H1
theorem Ue (ha : PT X a tA) : PW X (.BoolOp .Or [a] pos) tA := by
 intro wh pins s σ H Q I h
 refine isTrue_or (thn (ha pins s σ H Q I h) fun c s1 e => ?_)
 cases c with
 | false => exact isTrue_or_nil e
 | true => exact e
theorem Vn (ha : PT X a tA) (hb : PW X (.BoolOp .Or (b :: rest) pos) tB') : PW X (.BoolOp .Or (a :: b :: rest) pos) (tOr tA tB') := by
 intro wh pins s σ H Q I h
 refine isTrue_or (thn (ha pins s σ H _ I h) fun c s1 ⟨H1, I1, q1⟩ => ?_)
 cases c with
 | true => exact ⟨H1, I1, q1⟩
 | false => exact hb wh pins s1 σ H1 Q I1 q1
theorem Ug (ha : PT X a tA) : PT X (.UnaryOp .Not a pos) (tNot tA) := by
 intro pins s σ H Q I h
 exact isTrue_not (ha pins s σ H (fun c H1 => Q (!c) H1) I h)
def Vo (ta tb : TE) : TE := fun σ H Q => ta σ H fun x H1 => ∃ c, x = .bl c ∧ if c = true then tb σ H1 Q else Q (.bl false) H1
theorem Uh {op} {t : TE} (h : PE X a t) : PE X (.BoolOp op [a] pos) t := fun pins s σ H Q I hw => BoolOp_one (h pins s σ H Q I hw)
theorem Ui (ha : PE X a ta) (hb : PE X (.BoolOp .And (b :: rest) pos) tb) : PE X (.BoolOp .And (a :: b :: rest) pos) (Vo ta tb) := by
 intro pins s σ H Q I h
 refine BoolOp_and (thn (ha pins s σ H _ I h) fun v s1 ⟨x, H1, I1, r1, q1⟩ => ?_)
 obtain ⟨c, rfl, q1⟩ := q1
 cases r1
 refine wpAny_truthy_bool ?_
 cases c with
 | true => exact hb pins s1 σ H1 Q I1 q1
 | false => exact ⟨.bl false, H1, I1, rfl, q1⟩
def tIf (t : TT) (ta tb : TE) : TE := fun σ H Q => t σ H fun c H1 => if c = true then ta σ H1 Q else tb σ H1 Q
theorem Nh {c : Expr} (hc : PT X c tA) (ha : PE X a ta) (hb : PE X b tb) : PE X (.IfExp c a b pos) (tIf tA ta tb) := by
 intro pins s σ H Q I h
 refine wpAny_IfExp (thn (hc pins s σ H _ I h) fun d s1 ⟨H1, I1, q1⟩ => ?_)
 cases d with
 | true => exact ha pins s1 σ H1 Q I1 q1
 | false => exact hb pins s1 σ H1 Q I1 q1
end
end L2
namespace L2
open PySem PySem.Spec PyProof.Rows
def SqL (K : PySem.W.Frag) (H : Hp) (a : Addr) (xs : List V) : Prop :=
 Rd H a (.lst xs) ∨
  ∃ (o : Obj) (its : Array Value) (n : Nat), K.lookup a = some o ∧ o.cls = .type "list" ∧ o.dict = none ∧ o.data = .seq its n ∧ its.size ≤ sizeLine ∧ Vals xs its.toList
def SqT (K : PySem.W.Frag) (H : Hp) (a : Addr) (xs : List V) : Prop :=
 Rd H a (.tup xs) ∨
  ∃ (o : Obj) (its : Array Value) (n : Nat), K.lookup a = some o ∧ o.cls = .type "tuple" ∧ o.data = .seq its n ∧ its.size ≤ sizeLine ∧ Vals xs its.toList
def absV : Value → Option V
 | .none => some .non
 | .bool b => some (.bl b)
 | .int i _ => some (.int i)
 | .str x _ => some (.str x)
 | .bytes b _ => some (.byt b)
 | .float b _ => some (.flt b)
 | .ref a => some (.ref a)
 | .type n => some (.ty n)
 | _ => none
theorem RelV.abs {x : V} {u : Value} (r : RelV x u) : absV u = some x := by
 cases x with
 | non => cases r; rfl
 | bl _ => cases r; rfl
 | int _ => obtain ⟨t, rfl⟩ := r; rfl
 | str _ => obtain ⟨t, rfl⟩ := r; rfl
 | byt _ => obtain ⟨t, rfl⟩ := r; rfl
 | flt _ => obtain ⟨t, rfl⟩ := r; rfl
 | ref _ => cases r; rfl
 | ty _ => cases r; rfl
theorem RelV.inj {x y : V} {u : Value} (r : RelV x u) (q : RelV y u) : x = y := Option.some.inj (r.abs.symm.trans q.abs)
theorem Vals.inj : ∀ {xs ys : List V} {us : List Value}, Vals xs us → Vals ys us → xs = ys
 | _, _, _, .nil, .nil => rfl
 | _, _, _, .cons r t, .cons r' t' => by rw [r.inj r', Vals.inj t t']
section
variable {X : Cx} {pins : List (Addr × Obj)} {σ : St} {H : Hp} {s : Shared} {a : Addr} {xs ys : List V}
theorem SqL.of {K : PySem.W.Frag} (h : H a = some (.lst xs)) : SqL K H a xs := .inl (.inl h)
theorem SqT.of {K : PySem.W.Frag} (h : H a = some (.tup xs)) : SqT K H a xs := .inl (.inl h)
theorem Inv.list (I : Inv X pins σ H s) (h : SqL X.K H a xs) : ∃ its : List Value, Vals xs its ∧ PlainL s.heap a its.toArray ∧ xs.length ≤ sizeLine := by
 rcases h with h | ⟨o, its, n, hk, hc, hd, hs, hz, r⟩
 ·obtain ⟨z, its, n, r, e⟩ := h.ok I.hok
  exact ⟨its, r, ⟨_, n, e, rfl, rfl, rfl⟩, z⟩
 ·refine ⟨its.toList, r, ⟨o, n, I.kIn a o hk, hc, hd, by simpa using hs⟩, ?_⟩
  have e := r.length
  simp only [Array.length_toList] at e
  omega
theorem Inv.tuple (I : Inv X pins σ H s) (h : SqT X.K H a xs) : ∃ its : List Value, Vals xs its ∧ IsTup s.heap a its.toArray ∧ xs.length ≤ sizeLine := by
 rcases h with h | ⟨o, its, n, hk, hc, hs, hz, r⟩
 ·obtain ⟨z, its, r, p⟩ := h.ok I.hok
  exact ⟨its, r, p, z⟩
 ·refine ⟨its.toList, r, ⟨o, I.kIn a o hk, hc, n, by simpa using hs⟩, ?_⟩
  have e := r.length
  simp only [Array.length_toList] at e
  omega
theorem Inv.list_inj (I : Inv X pins σ H s) (h : SqL X.K H a xs) (h' : SqL X.K H a ys) : xs = ys := by
 obtain ⟨its, r, ⟨o, n, e, _, _, d⟩, _⟩ := I.list h
 obtain ⟨its', r', ⟨o', n', e', _, _, d'⟩, _⟩ := I.list h'
 rw [e] at e'; cases e'
 rw [d] at d'
 injection d' with d1 _
 have : its = its' := by simpa using congrArg Array.toList d1
 subst this
 exact r.inj r'
theorem Inv.tuple_inj (I : Inv X pins σ H s) (h : SqT X.K H a xs) (h' : SqT X.K H a ys) : xs = ys := by
 obtain ⟨its, r, ⟨o, e, _, n, d⟩, _⟩ := I.tuple h
 obtain ⟨its', r', ⟨o', e', _, n', d'⟩, _⟩ := I.tuple h'
 rw [e] at e'; cases e'
 rw [d] at d'
 injection d' with d1 _
 have : its = its' := by simpa using congrArg Array.toList d1
 subst this
 exact r.inj r'
end
abbrev Cx.wish (X : Cx) (E : Value → Shared → Prop) : Cx := { X with xe := E }
abbrev Cx.nox (X : Cx) : Cx := X.wish fun _ _ => False
theorem Cx.Ok.wish {X : Cx} (ok : X.Ok) (E : Value → Shared → Prop) : (X.wish E).Ok :=
 ⟨ok.mod, ok.kind, ok.glob, ok.blt, ok.above, ok.inj, ok.has, ok.cab, ok.hd, ok.frames, ok.stk, ok.exf, ok.bs, ok.bsz, ok.noex, ok.exfs, ok.funs, ok.frf⟩
theorem Cx.Ok.unwish {X : Cx} {E : Value → Shared → Prop} (ok : (X.wish E).Ok) : X.Ok :=
 ⟨ok.mod, ok.kind, ok.glob, ok.blt, ok.above, ok.inj, ok.has, ok.cab, ok.hd, ok.frames, ok.stk, ok.exf, ok.bs, ok.bsz, ok.noex, ok.exfs, ok.funs, ok.frf⟩
section
variable {X : Cx} {pins : List (Addr × Obj)} {σ : St} {H : Hp} {s : Shared} {E : Value → Shared → Prop}
theorem Inv.wish (I : Inv X pins σ H s) (E : Value → Shared → Prop) : Inv (X.wish E) pins σ H s := ⟨I.ok.wish E, I.os, I.bare, I.base, I.loc, I.cell, I.free, I.freeC, I.pin, I.hok, I.len⟩
theorem Inv.unwish (I : Inv (X.wish E) pins σ H s) : Inv X pins σ H s := ⟨I.ok.unwish, I.os, I.bare, I.base, I.loc, I.cell, I.free, I.freeC, I.pin, I.hok, I.len⟩
theorem SP.unwish {D : Ends} {f : Flow} {s' : Shared} (h : SP (X.wish E) pins D f s') : SP X pins D f s' := by
 cases f with
 | next => obtain ⟨σ', H', I, q⟩ := h; exact ⟨σ', H', I.unwish, q⟩
 | brk => obtain ⟨σ', H', I, q⟩ := h; exact ⟨σ', H', I.unwish, q⟩
 | cont => obtain ⟨σ', H', I, q⟩ := h; exact ⟨σ', H', I.unwish, q⟩
 | ret u => obtain ⟨v, σ', H', I, r, q⟩ := h; exact ⟨v, σ', H', I.unwish, r, q⟩
theorem PE.nox {e : Expr} {t : TE} (h : PE X.nox e t) : PE X e t := fun pins s σ H Q I hw =>
 wpAny_mono (h pins s σ H Q (I.wish _) hw) (fun _ _ ⟨v, H', I', r, q⟩ => ⟨v, H', I'.unwish, r, q⟩) fun _ _ z => False.elim z
theorem PT.nox {e : Expr} {t : TT} (h : PT X.nox e t) : PT X e t := fun pins s σ H Q I hw =>
 wpAny_mono (h pins s σ H Q (I.wish _) hw) (fun _ _ ⟨H', I', q⟩ => ⟨H', I'.unwish, q⟩) fun _ _ z => False.elim z
theorem PSs.nox {st : List Stmt} {t : TS} (h : PSs X.nox st t) : PSs X st t := fun pins s σ H D I hw =>
 wpAny_mono (h pins s σ H D (I.wish _) hw) (fun _ _ q => q.unwish) fun _ _ z => False.elim z
end
section
variable {X : Cx} {st : Stmt} {rest : List Stmt} {t u : TS} {e : Expr} {te : TE} {pos : Pos}
def Vp : TS := fun D σ H => D.nx σ H
def tSeq (t u : TS) : TS := fun D σ H => t { D with nx := u D } σ H
theorem Q0 : PSs X [] Vp := fun _ _ σ H _ I h => wpAny_execs_nil ⟨σ, H, I, h⟩
theorem G8 (h1 : PS X st t) (h2 : PSs X rest u) : PSs X (st :: rest) (tSeq t u) := by
 intro pins s σ H D I h
 refine wpAny_execs_cons (thn (h1 pins s σ H { D with nx := u D } I h) fun f s1 q => ?_)
 cases f with
 | next =>
  obtain ⟨σ', H', I', q⟩ := q
  exact h2 pins s1 σ' H' D I' q
 | ret v => exact q
 | brk => exact q
 | cont => exact q
theorem Iv (h1 : PS X st t) : PSs X [st] t := by
 intro pins s σ H D I h
 refine wpAny_execs_cons (thn (h1 pins s σ H D I h) fun f s1 q => ?_)
 cases f with
 | next => exact wpAny_execs_nil q
 | ret v => exact q
 | brk => exact q
 | cont => exact q
theorem Inv.quiet {pins : List (Addr × Obj)} {σ : St} {H : Hp} {s : Shared} (I : Inv X pins σ H s) : interactive X.env = false := by simp [interactive, I.ok.kind]
def Sv (te : TE) : TS := fun D σ H => te σ H fun _ H1 => D.nx σ H1
theorem Iw (he : PE X e te) (hs : swapsWith e none pos.line X.env = pure false := by rfl) : PS X (.Expr e pos) (Sv te) := by
 intro pins s σ H D I h
 exact wpAny_Expr_any (thn (he pins s σ H _ I h) fun v s1 ⟨x, H1, I1, r1, q1⟩ => ⟨σ, H1, I1, q1⟩) I.quiet hs
def tRet (te : TE) : TS := fun D σ H => te σ H D.rt
theorem Ni (he : PE X e te) : PS X (.Return (some e) pos) (tRet te) := by
 intro pins s σ H D I h
 exact wpAny_Return_some (thn (he pins s σ H _ I h) fun v s1 ⟨x, H1, I1, r1, q1⟩ => ⟨x, σ, H1, I1, r1, q1⟩)
def tIfS (c : TT) (t u : TS) : TS := fun D σ H => c σ H fun b H1 => if b = true then t D σ H1 else u D σ H1
theorem Sw {c : Expr} {a b : List Stmt} {tc : TT} (hc : PT X c tc) (ha : PSs X a t) (hb : PSs X b u) : PS X (.If c a b pos) (tIfS tc t u) := by
 intro pins s σ H D I h
 refine wpAny_If (thn (hc pins s σ H _ I h) fun d s1 ⟨H1, I1, q1⟩ => ?_)
 cases d with
 | true => exact ha pins s1 σ H1 D I1 q1
 | false => exact hb pins s1 σ H1 D I1 q1
end
abbrev TG := V → St → Hp → (St → Hp → Prop) → Prop
def PG (X : Cx) (target : Expr) (t : TG) : Prop :=
 ∀ (pins : List (Addr × Obj)) (s : Shared) (σ : St) (H : Hp) (v : V) (u : Value) (Q : St → Hp → Prop), Inv X pins σ H s → RelV v u → t v σ H Q →
  wpAny (model X.prog X.w) X.A (assign target X.env u) (fun _ s' => ∃ σ' H', Inv X pins σ' H' s' ∧ Q σ' H') X.xe s
section
variable {X : Cx} {pos : Pos}
def FW (i : Nat) : TG := fun v σ H Q => Q (σ.set i (some v)) H
theorem Q3 {i : Nat} {x : Str} (hN : X.N.Nodup) (hi : X.N[i]? = some x) (hx : Loc X.env.scope x) (hf : X.fn x = true ∨ X.env.scope.names.lookup x = some .local := by first | exact .inl rfl | exact .inr rfl | assumption) : PG X (.Name x pos) (FW i) := by
 intro pins s σ H v u Q I r h
 exact wpAny_assign_Name (GF I hN hi hx r (fun s' I' => ⟨_, H, I', h⟩) hf)
def tAsg (te : TE) (g : TG) : TS := fun D σ H => te σ H fun x H1 => g x σ H1 D.nx
theorem Iz {i : Nat} {x : Str} {e : Expr} {te : TE} {pos' : Pos} (hN : X.N.Nodup) (hi : X.N[i]? = some x) (hx : Loc X.env.scope x) (he : PE X e te) (hs : swapsWith e (some (.Name x pos')) pos.line X.env = pure false := by rfl) (hf : X.fn x = true ∨ X.env.scope.names.lookup x = some .local := by first | exact .inl rfl | exact .inr rfl | assumption) :
  PS X (.Assign [.Name x pos'] e pos) (tAsg te (FW i)) := by
 intro pins s σ H D I h
 refine wpAny_Assign_Name (thn (he pins s σ H _ I h) fun v s1 ⟨y, H1, I1, r1, q1⟩ => ?_) hs
 exact GF I1 hN hi hx r1 (fun s2 I2 => ⟨_, H1, I2, q1⟩) hf
end
section
variable {X : Cx} {pos : Pos}
def Uj (c : TT) (tb : TS) : TS := fun D σ H => ∃ W : Nat → St → Hp → Prop, (∃ m, W m σ H) ∧ ∀ m σ H, W m σ H →
 c σ H fun b H1 => if b = true then ∃ N : St → Hp → Prop, (∀ σ' H', N σ' H' → ∃ m', m' < m ∧ W m' σ' H') ∧ tb { D with nx := N, ct := N, bk := D.nx } σ H1 else D.nx σ H1
theorem Nj {c : Expr} {body : List Stmt} {tc : TT} {tb : TS} (hp : PassesOwn (model X.prog X.w) X.A X.env X.xe) (hc : PT X c tc) (hb : PSs X body tb) : PS X (.While c body [] pos) (Uj tc tb) := by
 intro pins s σ H D I h
 obtain ⟨W, ⟨m0, w0⟩, turn⟩ := h
 refine wpAny_While (codeAny_whileLoop (fun n s' => ∃ σ' H', Inv X pins σ' H' s' ∧ W n σ' H') ?_ m0 ⟨σ, H, I, w0⟩)
 rintro n s1 ⟨σ1, H1, I1, w1⟩
 refine wpAny_passesOwn hp (thn (hc pins s1 σ1 H1 _ I1 (turn n σ1 H1 w1)) fun b s2 ⟨H2, I2, q2⟩ => ?_)
 cases b with
 | true =>
  obtain ⟨N, hN, q2⟩ := q2
  rw [if_pos rfl]
  refine wpAny_passesOwn hp (thn (hb pins s2 σ1 H2 _ I2 q2) fun f s3 q3 => ?_)
  cases f with
  | next =>
   obtain ⟨σ3, H3, I3, n3⟩ := q3
   obtain ⟨m', hm, w3⟩ := hN σ3 H3 n3
   exact ⟨m', hm, σ3, H3, I3, w3⟩
  | cont =>
   obtain ⟨σ3, H3, I3, n3⟩ := q3
   obtain ⟨m', hm, w3⟩ := hN σ3 H3 n3
   exact ⟨m', hm, σ3, H3, I3, w3⟩
  | brk => exact q3
  | ret v => exact q3
 | false =>
  rw [if_neg Bool.false_ne_true]
  exact wpAny_execs_nil ⟨σ1, H2, I2, q2⟩
end
structure It where
 go : Nat → Hp → Prop
 yld : Nat → Hp → V → Hp → Prop
 stop : Nat → Hp → Prop
def FpOk (X : Cx) (pins : List (Addr × Obj)) (H : Hp) (b : Addr) : Prop :=
 H b = none ∧ b ≠ X.env.locals ∧ b ∉ X.fs ∧ (b ∈ X.ex ∨ X.s₀.heap.objs.size ≤ b) ∧ (∀ x c, X.env.cells.lookup x = some c → c ≠ b) ∧ ∀ p ∈ X.pn ++ pins, p.1 ≠ b
theorem Inv.fpOk {X : Cx} {pins : List (Addr × Obj)} {σ : St} {H H' : Hp} {s : Shared} {b : Addr} (I : Inv X pins σ H s) (hb : s.heap.objs.size ≤ b) (hn : H' b = none) : FpOk X pins H' b := by
 refine ⟨hn, Nat.ne_of_gt (Nat.lt_of_lt_of_le I.lt hb), I.nofs hb, .inr (Nat.le_trans I.sz hb), fun x c e z => ?_, fun p hp z => ?_⟩
 ·obtain ⟨v, q⟩ := I.cell x c e
  exact absurd (Nat.lt_of_lt_of_le q.lt (by rw [z]; exact hb)) (Nat.lt_irrefl _)
 ·exact absurd (Nat.lt_of_lt_of_le (Heap.lt_size (I.pin p hp).1) (by rw [z]; exact hb)) (Nat.lt_irrefl _)
structure Turn (P : Program) (w : World) (K : PySem.W.Frag) (tg : Expr) (J : It) (fp : List Addr) (it : Addr) (tn : Nat → Heap → Prop) : Prop where
 mem : it ∈ fp
 obj : ∀ i h, tn i h → ∀ b ∈ fp, ∃ o, h.get? b = some o ∧ ∀ v, o.data ≠ .cell v
 keep : ∀ i h h', tn i h → (∀ b ∈ fp, ∀ o, h.get? b = some o → h'.get? b = some o) → tn i h'
 item : ∀ (X : Cx), X.prog = P → X.w = w → X.K = K → X.calm = true → ∀ (i : Nat) (pins : List (Addr × Obj)) (s : Shared) (σ : St) (H : Hp) (E : Value → Shared → Prop), Inv X pins σ H s → (∀ b ∈ fp, FpOk X pins H b) → tn i s.heap → J.go i H →
  wpAny (model P w) X.A (pyNext (.ref it)) (fun r s1 => ∃ u, r = some u ∧
   wpAny (model P w) X.A (letOwnedTupleGo tg (.ref it) u) (fun _ s2 => ∃ x H', Inv X pins σ H' s2 ∧ RelV x u ∧ J.yld i H x H' ∧ tn (i + 1) s2.heap ∧ ∀ b ∈ fp, H' b = none) E s1) E s
 done : ∀ (X : Cx), X.prog = P → X.w = w → X.K = K → X.calm = true → ∀ (i : Nat) (pins : List (Addr × Obj)) (s : Shared) (σ : St) (H : Hp) (E : Value → Shared → Prop), Inv X pins σ H s → (∀ b ∈ fp, FpOk X pins H b) → tn i s.heap → J.stop i H →
  wpAny (model P w) X.A (pyNext (.ref it)) (fun r s1 => r = none ∧ Inv X pins σ H s1) E s
 self : ∀ (A : Around) (i : Nat) (s : Shared) (Q : Value → Shared → Prop) (E : Value → Shared → Prop), tn i s.heap → Q (.ref it) s → wpAny (model P w) A (pyIter (.ref it)) Q E s
abbrev TI := St → Hp → (It → Hp → Prop) → Prop
def PIE (X : Cx) (pins : List (Addr × Obj)) (σ : St) (tg : Expr) (R : It → Hp → Prop) (itv : Value) (s2 : Shared) : Prop :=
 ∃ (it : Addr) (fp : List Addr) (tn : Nat → Heap → Prop) (J : It) (H' : Hp), itv = .ref it ∧ Inv X pins σ H' s2 ∧ Turn X.prog X.w X.K tg J fp it tn ∧ tn 0 s2.heap ∧ (∀ b ∈ fp, FpOk X pins H' b) ∧ R J H'
def PI (X : Cx) (tg iter : Expr) (wi : TI) : Prop :=
 ∀ (pins : List (Addr × Obj)) (s : Shared) (σ : St) (H : Hp) (R : It → Hp → Prop), Inv X pins σ H s → wi σ H R →
  wpAny (model X.prog X.w) X.A (eval iter X.env) (fun v s1 => wpAny (model X.prog X.w) X.A (pyIter v) (PIE X pins σ tg R) X.xe s1) X.xe s
theorem Ky {M : Model} {A : Around} {E : Value → Shared → Prop} {s : Shared} {tg : Expr} {it : Addr} {u : Value} {o : Obj} {n : String} {vs : Array Value} {Q : Unit → Shared → Prop} (ho : s.heap.get? it = some o) (hc : o.cls = .type n) (hd : o.data = .fields vs)
    (hn : ["enumerate", "zip", "dict_itemiterator", "dict_reverseitemiterator", "odict_iterator", "itertools.zip_longest", "itertools.pairwise"].contains n = false) (hQ : Q () s) : wpAny M A (letOwnedTupleGo tg (.ref it) u) Q E s := by
  unfold letOwnedTupleGo
  cases tg <;> first
    | exact wpAny_pure hQ
    | (cases u <;> first
        | exact wpAny_pure hQ
        | (refine wpAny_bind (wpAny_load ho ?_)
           rw [hc, hd]
           show wpAny M A (if (["enumerate", "zip", "dict_itemiterator", "dict_reverseitemiterator", "odict_iterator", "itertools.zip_longest", "itertools.pairwise"].contains n && vs[0]? == some (rawInt _)) = true then _ else _) Q E s
           rw [if_neg (by intro h; rw [hn, Bool.false_and] at h; cases h)]
           exact wpAny_pure hQ))
def Itl (K : PySem.W.Frag) (a : Addr) : It :=
 ⟨fun i H => ∃ xs x, SqL K H a xs ∧ xs[i]? = some x, fun i H x H' => H' = H ∧ ∀ xs, SqL K H a xs → xs[i]? = some x, fun i H => ∃ xs, SqL K H a xs ∧ xs.length ≤ i⟩
def Itt (K : PySem.W.Frag) (a : Addr) : It :=
 ⟨fun i H => ∃ xs x, SqT K H a xs ∧ xs[i]? = some x, fun i H x H' => H' = H ∧ ∀ xs, SqT K H a xs → xs[i]? = some x, fun i H => ∃ xs, SqT K H a xs ∧ xs.length ≤ i⟩
theorem Mr {P : Program} {w : World} {K : PySem.W.Frag} {tg : Expr} (a it : Addr) : Turn P w K tg (Itl K a) [it] it (fun i h => h.IsListIter it a i) where
 mem := by simp
 obj := fun i h st b hb => by
  have e : b = it := by simpa using hb
  subst e
  obtain ⟨o, e, c, d⟩ := st
  exact ⟨o, e, fun v z => by rw [d] at z; cases z⟩
 keep := fun i h h' st k => st.at fun o e => k it (by simp) o e
 item := by
  intro X hP hw hK hc i pins s σ H E I hf st hg
  subst hP hw hK
  obtain ⟨xs, x, hq, hx⟩ := hg
  obtain ⟨its, rv, p, hz⟩ := I.list hq
  obtain ⟨u, hu, ru⟩ := rv.get hx
  obtain ⟨f0, f1, f2, f3, f4, f5⟩ := hf it (by simp)
  refine wpAny_pyNext_list_item st p.isList (x := u) (by simpa using hu) fun h' st' sb => ?_
  have I1 : Inv X pins σ H { s with heap := h' } := I.turned (t' := s.toks) (fun b o hb e => (sb.2 b hb).trans e) f0 f1 f3 f4 f5
  obtain ⟨o, e, c, d⟩ := id st'
  exact ⟨u, rfl, Ky (s := { s with heap := h' }) e c d (by decide) ⟨x, H, I1, ru, ⟨rfl, fun ys hy => by rw [I.list_inj hy hq]; exact hx⟩, st', fun b hb => (hf b hb).1⟩⟩
 done := by
  intro X hP hw hK hc i pins s σ H E I hf st hg
  subst hP hw hK
  obtain ⟨xs, hq, hx⟩ := hg
  obtain ⟨its, rv, p, hz⟩ := I.list hq
  obtain ⟨f0, f1, f2, f3, f4, f5⟩ := hf it (by simp)
  have hl := rv.length
  exact wpAny_pyNext_list_end (I.ok.hd hc) st p.isList (by simp; omega) fun h' eb => ⟨rfl, I.turned (t' := s.toks) (fun b o hb e => eb b o hb e) f0 f1 f3 f4 f5⟩
 self := fun _ _ _ _ _ st h => wpAny_pyIter_listiter st h
theorem KD {P : Program} {w : World} {K : PySem.W.Frag} {tg : Expr} (a it : Addr) : Turn P w K tg (Itt K a) [it] it (fun i h => h.IsTupleIter it a i) where
 mem := by simp
 obj := fun i h st b hb => by
  have e : b = it := by simpa using hb
  subst e
  obtain ⟨o, e, c, d⟩ := st
  exact ⟨o, e, fun v z => by rw [d] at z; cases z⟩
 keep := fun i h h' st k => st.at fun o e => k it (by simp) o e
 item := by
  intro X hP hw hK hc i pins s σ H E I hf st hg
  subst hP hw hK
  obtain ⟨xs, x, hq, hx⟩ := hg
  obtain ⟨its, rv, p, hz⟩ := I.tuple hq
  obtain ⟨u, hu, ru⟩ := rv.get hx
  obtain ⟨f0, f1, f2, f3, f4, f5⟩ := hf it (by simp)
  refine wpAny_pyNext_tuple_item st (show s.heap.IsTuple a its.toArray from p) (x := u) (by simpa using hu) fun h' st' sb => ?_
  have I1 : Inv X pins σ H { s with heap := h' } := I.turned (t' := s.toks) (fun b o hb e => (sb.2 b hb).trans e) f0 f1 f3 f4 f5
  obtain ⟨o, e, c, d⟩ := id st'
  exact ⟨u, rfl, Ky (s := { s with heap := h' }) e c d (by decide) ⟨x, H, I1, ru, ⟨rfl, fun ys hy => by rw [I.tuple_inj hy hq]; exact hx⟩, st', fun b hb => (hf b hb).1⟩⟩
 done := by
  intro X hP hw hK hc i pins s σ H E I hf st hg
  subst hP hw hK
  obtain ⟨xs, hq, hx⟩ := hg
  obtain ⟨its, rv, p, hz⟩ := I.tuple hq
  obtain ⟨f0, f1, f2, f3, f4, f5⟩ := hf it (by simp)
  have hl := rv.length
  exact wpAny_pyNext_tuple_end (I.ok.hd hc) st (show s.heap.IsTuple a its.toArray from p) (by simp; omega) fun h' eb => ⟨rfl, I.turned (t' := s.toks) (fun b o hb e => eb b o hb e) f0 f1 f3 f4 f5⟩
 self := fun _ _ _ _ _ st h => wpAny_pyIter_tupleiter st h
end L2
namespace L2
open PySem PySem.Spec PyProof.Rows
section
variable {X : Cx} {tg : Expr}
def Vq (K : PySem.W.Frag) (tl : TE) : TI := fun σ H R => tl σ H fun x H1 => ∃ a, x = .ref a ∧ (∃ xs, SqL K H1 a xs) ∧ R (Itl K a) H1
def iTup (K : PySem.W.Frag) (tl : TE) : TI := fun σ H R => tl σ H fun x H1 => ∃ a, x = .ref a ∧ (∃ xs, SqT K H1 a xs) ∧ R (Itt K a) H1
theorem Q4 {l : Expr} {tl : TE} (hl : PE X l tl) : PI X tg l (Vq X.K tl) := by
 intro pins s σ H R I h
 refine thn (hl pins s σ H _ I h) fun v s1 ⟨x, H1, I1, r1, q1⟩ => ?_
 obtain ⟨a, e, ⟨xs, hq⟩, q⟩ := q1
 subst e
 cases r1
 obtain ⟨its, rv, p, hz⟩ := I1.list hq
 refine wpAny_pyIter_list p.isList ?_
 refine ⟨s1.heap.objs.size, [s1.heap.objs.size], _, _, H1, rfl, I1.kept (t' := s1.toks) fun b o e => Heap.get?_push_of_some _ e, Mr a _, ⟨_, Heap.get?_push_size _ rfl, rfl, rfl⟩, fun b hb => ?_, q⟩
 have e : b = s1.heap.objs.size := by simpa using hb
 subst e
 exact I1.fpOk (Nat.le_refl _) (I1.hok.fresh (Nat.le_refl _))
theorem Uk {l : Expr} {tl : TE} (hl : PE X l tl) : PI X tg l (iTup X.K tl) := by
 intro pins s σ H R I h
 refine thn (hl pins s σ H _ I h) fun v s1 ⟨x, H1, I1, r1, q1⟩ => ?_
 obtain ⟨a, e, ⟨xs, hq⟩, q⟩ := q1
 subst e
 cases r1
 obtain ⟨its, rv, p, hz⟩ := I1.tuple hq
 refine wpAny_pyIter_tuple (show s1.heap.IsTuple a its.toArray from p) ?_
 refine ⟨s1.heap.objs.size, [s1.heap.objs.size], _, _, H1, rfl, I1.kept (t' := s1.toks) fun b o e => Heap.get?_push_of_some _ e, KD a _, ⟨_, Heap.get?_push_size _ rfl, rfl, rfl⟩, fun b hb => ?_, q⟩
 have e : b = s1.heap.objs.size := by simpa using hb
 subst e
 exact I1.fpOk (Nat.le_refl _) (I1.hok.fresh (Nat.le_refl _))
def tFor (wi : TI) (g : TG) (tb : TS) : TS := fun D σ H => wi σ H fun J H1 => ∃ W : Nat → Nat → St → Hp → Prop, (∃ m, W 0 m σ H1) ∧ ∀ i m σ H, W i m σ H →
 (J.stop i H ∧ D.nx σ H) ∨ (J.go i H ∧ ∃ N : St → Hp → Prop, (∀ σ' H', N σ' H' → ∃ m', m' < m ∧ W (i + 1) m' σ' H') ∧ ∀ x H', J.yld i H x H' → g x σ H' fun σ2 H2 => tb { D with nx := N, ct := N, bk := D.nx } σ2 H2)
def G9 (fp : List Addr) (h : Heap) : List (Addr × Obj) := fp.filterMap fun b => (h.get? b).map fun o => (b, o)
theorem Dw {fp : List Addr} {h : Heap} {b : Addr} {o : Obj} (hb : b ∈ fp) (e : h.get? b = some o) : (b, o) ∈ G9 fp h := List.mem_filterMap.mpr ⟨b, hb, by rw [e]; rfl⟩
theorem Ms {fp : List Addr} {h : Heap} {p : Addr × Obj} (hp : p ∈ G9 fp h) : p.1 ∈ fp ∧ h.get? p.1 = some p.2 := by
 obtain ⟨b, hb, e⟩ := List.mem_filterMap.mp hp
 cases q : h.get? b with
 | none => rw [q] at e; cases e
 | some o =>
  rw [q] at e
  have e' : (b, o) = p := Option.some.inj e
  subst e'
  exact ⟨hb, q⟩
theorem Inv.pinned {pins : List (Addr × Obj)} {σ : St} {H : Hp} {s : Shared} {fp : List Addr} (I : Inv X pins σ H s) (hf : ∀ b ∈ fp, FpOk X pins H b) (ho : ∀ b ∈ fp, ∃ o, s.heap.get? b = some o ∧ ∀ v, o.data ≠ .cell v) : Inv X (pins ++ G9 fp s.heap) σ H s :=
 I.pins_of fun p hp => (List.mem_append.mp hp).elim (fun z => I.pin p (List.mem_append_right _ z)) fun z => by
  obtain ⟨hb, e⟩ := Ms z
  obtain ⟨f0, f1, f2, _⟩ := hf p.1 hb
  obtain ⟨o, e', d⟩ := ho p.1 hb
  rw [e] at e'; cases e'
  exact ⟨e, f0, f1, f2, d⟩
theorem Inv.unpinned {pins pl : List (Addr × Obj)} {σ : St} {H : Hp} {s : Shared} (I : Inv X (pins ++ pl) σ H s) : Inv X pins σ H s := I.pins_of fun p hp => I.pin p (List.mem_append_right _ (List.mem_append_left _ hp))
theorem Ul {iter : Expr} {body : List Stmt} {wi : TI} {g : TG} {tb : TS} {pos : Pos} (hp : PassesOwn (model X.prog X.w) X.A X.env X.xe) (hc : X.calm = true) (hi : PI X tg iter wi) (hg : PG X tg g) (hb : PSs X body tb)
  (hs : ∀ x, foldedSetIterable iter X.env x = pure x := by intro _; rfl) : PS X (.For tg iter body [] pos) (tFor wi g tb) := by
 intro pins s σ H D I h
 refine wpAny_For (thn (hi pins s σ H _ I h) fun v s1 h1 => thn h1 fun itv s2 h2 => ?_) hs
 obtain ⟨it, fp, tn, J, H2, e, I2, T, st2, f2, W, ⟨m0, w0⟩, turn⟩ := h2
 subst e
 have stat : ∀ {H' : Hp}, (∀ b ∈ fp, H' b = none) → ∀ b ∈ fp, FpOk X pins H' b := fun hn b hb => ⟨hn b hb, (f2 b hb).2⟩
 refine codeAny_forLoop_any (fun n s' => ∃ i σ' H', Inv X pins σ' H' s' ∧ tn i s'.heap ∧ (∀ b ∈ fp, H' b = none) ∧ W i n σ' H') ?_ m0 ⟨0, σ, H2, I2, st2, fun b hb => (f2 b hb).1, w0⟩
 rintro n s3 ⟨i, σ3, H3, I3, st3, fr3, w3⟩
 rcases turn i n σ3 H3 w3 with ⟨stop, qn⟩ | ⟨go, N, hN, step⟩
 ·refine wpAny_passesOwn hp (thn (T.done X rfl rfl rfl hc i pins s3 σ3 H3 X.xe I3 (stat fr3) st3 stop) fun r s4 ⟨hr, I4⟩ => ?_)
  subst hr
  exact wpAny_execs_nil ⟨σ3, H3, I4, qn⟩
 ·refine wpAny_passesOwn hp (thn (T.item X rfl rfl rfl hc i pins s3 σ3 H3 X.xe I3 (stat fr3) st3 go) fun r s4 ⟨u, hr, h4⟩ => ?_)
  subst hr
  refine wpAny_passesOwn hp (thn h4 fun _ s5 ⟨x, H5, I5, r5, y5, st5, fr5⟩ => ?_)
  have I5' := I5.pinned (stat fr5) (T.obj _ _ st5)
  refine wpAny_passesOwn hp (thn (hg _ s5 σ3 H5 x u _ I5' r5 (step x H5 y5)) fun _ s6 ⟨σ6, H6, I6, q6⟩ => ?_)
  refine wpAny_passesOwn hp (thn (hb _ s6 σ6 H6 _ I6 q6) fun f s7 q7 => ?_)
  have again : ∀ {σ7 : St} {H7 : Hp}, Inv X (pins ++ G9 fp s5.heap) σ7 H7 s7 → N σ7 H7 → ∃ m, m < n ∧ ∃ i σ' H', Inv X pins σ' H' s7 ∧ tn i s7.heap ∧ (∀ b ∈ fp, H' b = none) ∧ W i m σ' H' := fun {σ7 H7} I7 n7 => by
   obtain ⟨m', hm, w7⟩ := hN σ7 H7 n7
   refine ⟨m', hm, i + 1, σ7, H7, I7.unpinned, T.keep _ _ _ st5 fun b hb o e => (I7.pin (b, o) (List.mem_append_right _ (List.mem_append_right _ (Dw hb e)))).1, fun b hb => ?_, w7⟩
   obtain ⟨o, e, d⟩ := T.obj _ _ st5 b hb
   exact (I7.pin (b, o) (List.mem_append_right _ (List.mem_append_right _ (Dw hb e)))).2.1
  cases f with
  | next => obtain ⟨σ7, H7, I7, n7⟩ := q7; exact again I7 n7
  | cont => obtain ⟨σ7, H7, I7, n7⟩ := q7; exact again I7 n7
  | brk => obtain ⟨σ7, H7, I7, q7⟩ := q7; exact ⟨σ7, H7, I7.unpinned, q7⟩
  | ret v => obtain ⟨x7, σ7, H7, I7, r7, q7⟩ := q7; exact ⟨x7, σ7, H7, I7.unpinned, r7, q7⟩
end
end L2
namespace L2
open PySem PySem.Spec PyProof.Rows
abbrev R2 := V → V → Hp → VK → Prop
def OpR (X : Cx) (f : Value → Value → Sem Value) (r : R2) : Prop :=
 ∀ (pins : List (Addr × Obj)) (s : Shared) (σ : St) (H : Hp) (x y : V) (v u : Value) (Q : VK), Inv X pins σ H s → RelV x v → RelV y u → r x y H Q →
  wpAny (model X.prog X.w) X.A (f v u) (EP X pins σ Q) X.xe s
def Ej (X : Cx) (f : Value) (r : List V → Hp → VK → Prop) : Prop :=
 ∀ (pins : List (Addr × Obj)) (s : Shared) (σ : St) (H : Hp) (xs : List V) (us : List Value) (Q : VK), Inv X pins σ H s → Vals xs us → r xs H Q →
  wpAny (model X.prog X.w) X.A (call f us) (EP X pins σ Q) X.xe s
def TruR (X : Cx) (r : V → Hp → (Bool → Hp → Prop) → Prop) : Prop :=
 ∀ (pins : List (Addr × Obj)) (s : Shared) (σ : St) (H : Hp) (x : V) (v : Value) (Q : Bool → Hp → Prop), Inv X pins σ H s → RelV x v → r x H Q →
  wpAny (model X.prog X.w) X.A (truthy v) (TP X pins σ Q) X.xe s
def tOp (r : R2) (ta tb : TE) : TE := fun σ H Q => ta σ H fun x H1 => tb σ H1 fun y H2 => r x y H2 Q
def rI (C : Int → Int → Prop) (g : Int → Int → V) : R2 := fun x y H Q => ∃ i j, x = .int i ∧ y = .int j ∧ C i j ∧ Q (g i j) H
def rI0 (g : Int → Int → V) : R2 := fun x y H Q => ∃ i j, x = .int i ∧ y = .int j ∧ Q (g i j) H
section
variable {X : Cx} {a b c : Expr} {ta tb tc : TE} {pos : Pos}
theorem binT (ha : PE X a ta) (hb : PE X b tb) {pins : List (Addr × Obj)} {s : Shared} {σ : St} {H : Hp} {R : V → V → Hp → Prop} (I : Inv X pins σ H s)
  (h : ta σ H fun x H1 => tb σ H1 fun y H2 => R x y H2) {Q : Value → Shared → Prop} {f : Value → Value → Sem Value}
  (hf : ∀ v u s2 x y H2, Inv X pins σ H2 s2 → RelV x v → RelV y u → R x y H2 → wpAny (model X.prog X.w) X.A (f v u) Q X.xe s2) :
  wpAny (model X.prog X.w) X.A (eval a X.env) (fun v s₁ => wpAny (model X.prog X.w) X.A (eval b X.env) (fun u s₂ => wpAny (model X.prog X.w) X.A (f v u) Q X.xe s₂) X.xe s₁) X.xe s := by
 refine thn (ha pins s σ H _ I h) fun v s1 ⟨x, H1, I1, r1, q1⟩ => ?_
 refine thn (hb pins s1 σ H1 _ I1 q1) fun u s2 ⟨y, H2, I2, r2, q2⟩ => ?_
 exact hf v u s2 x y H2 I2 r1 r2 q2
theorem Vr {op : Operator} {r : R2} (ho : OpR X (binaryOp op) r) (ha : PE X a ta) (hb : PE X b tb) : PE X (.BinOp a op b pos) (tOp r ta tb) := by
 intro pins s σ H Q I h
 exact wpAny_BinOp (binT ha hb I h fun v u s2 x y H2 I2 rx ry q => ho pins s2 σ H2 x y v u Q I2 rx ry q)
theorem opI {f : Value → Value → Sem Value} {C : Int → Int → Prop} {g : Int → Int → Int}
  (rule : ∀ (i j : Int) (t u : Tok) (s : Shared) (Q : Value → Shared → Prop) (E : Value → Shared → Prop), C i j → Q (.int (g i j) s.toks) { s with toks := s.toks + 1 } → wpAny (model X.prog X.w) X.A (f (.int i t) (.int j u)) Q E s) :
  OpR X f (rI C fun i j => .int (g i j)) := by
 intro pins s σ H x y v u Q I rx ry h
 obtain ⟨i, j, rfl, rfl, hc, q⟩ := h
 obtain ⟨t, rfl⟩ := rx
 obtain ⟨t', rfl⟩ := ry
 exact rule i j t t' s _ _ hc ⟨.int (g i j), H, I.tok _, ⟨_, rfl⟩, q⟩
theorem opI0 {f : Value → Value → Sem Value} {g : Int → Int → Int}
  (rule : ∀ (i j : Int) (t u : Tok) (s : Shared) (Q : Value → Shared → Prop) (E : Value → Shared → Prop), Q (.int (g i j) s.toks) { s with toks := s.toks + 1 } → wpAny (model X.prog X.w) X.A (f (.int i t) (.int j u)) Q E s) :
  OpR X f (rI0 fun i j => .int (g i j)) := by
 intro pins s σ H x y v u Q I rx ry h
 obtain ⟨i, j, rfl, rfl, q⟩ := h
 obtain ⟨t, rfl⟩ := rx
 obtain ⟨t', rfl⟩ := ry
 exact rule i j t t' s _ _ ⟨.int (g i j), H, I.tok _, ⟨_, rfl⟩, q⟩
theorem opB0 {f : Value → Value → Sem Value} {g : Int → Int → Bool}
  (rule : ∀ (i j : Int) (t u : Tok) (s : Shared) (Q : Value → Shared → Prop) (E : Value → Shared → Prop), Q (.bool (g i j)) s → wpAny (model X.prog X.w) X.A (f (.int i t) (.int j u)) Q E s) :
  OpR X f (rI0 fun i j => .bl (g i j)) := by
 intro pins s σ H x y v u Q I rx ry h
 obtain ⟨i, j, rfl, rfl, q⟩ := h
 obtain ⟨t, rfl⟩ := rx
 obtain ⟨t', rfl⟩ := ry
 exact rule i j t t' s _ _ ⟨.bl (g i j), H, I, rfl, q⟩
def CDiv (i j : Int) : Prop := 0 < j ∧ j < 1073741824
def CPow (i j : Int) : Prop := 0 ≤ j ∧ j ≤ 1000000 ∧ i.natAbs < 2 ^ 64
def CMul (i j : Int) : Prop := (-(2 ^ 64) < i ∧ i < 2 ^ 64) ∨ (-(2 ^ 64) < j ∧ j < 2 ^ 64)
theorem CMul.ok {i j : Int} (h : CMul i j) : IntMulOk i j := by
 rcases h with ⟨h1, h2⟩ | ⟨h1, h2⟩
 ·exact .of_left (intBits_le_64 h1 h2)
 ·exact .of_right (intBits_le_64 h1 h2)
theorem Um : OpR X (binaryOp .Add) (rI0 fun i j => .int (i + j)) := opI0 fun _ _ _ _ _ _ _ q => add_int q
theorem Uo : OpR X (binaryOp .Sub) (rI0 fun i j => .int (i - j)) := opI0 fun _ _ _ _ _ _ _ q => sub_int q
theorem Q5 : OpR X (binaryOp .FloorDiv) (rI CDiv fun i j => .int (i / j)) := opI fun i j _ _ _ _ _ hc q => by
 have h1 : (0 : Int) < j := hc.1
 have h2 : j < 1073741824 := hc.2
 exact floordiv_int (by omega) (by rw [Int.fdiv_eq_ediv_of_nonneg i (by omega)]; exact q) (.inl (PyProof.noPylong_small (by omega)))
theorem Up : OpR X (binaryOp .Mod) (rI (fun _ j => 0 < j) fun i j => .int (i % j)) := opI fun i j _ _ _ _ _ hc q => by
 have h1 : (0 : Int) < j := hc
 exact mod_int' (by omega) (by rw [Int.fmod_eq_emod_of_nonneg i (by omega)]; exact q)
end
def scal : V → V → Bool
 | .non, .non => true | .non, .int _ => true | .int _, .non => true | .non, .bl _ => true | .bl _, .non => true | .non, .str _ => true | .str _, .non => true
 | .int _, .int _ => true | .bl _, .bl _ => true | .str _, .str _ => true | .byt _, .byt _ => true
 | .int _, .str _ => true | .str _, .int _ => true | .bl _, .str _ => true | .str _, .bl _ => true
 | _, _ => false
def rEq : R2 := fun x y H Q => scal x y = true ∧ Q (.bl (decide (x = y))) H
def rNe : R2 := fun x y H Q => scal x y = true ∧ Q (.bl (!decide (x = y))) H
theorem Kz {i j : Int} : decide (V.int i = V.int j) = (i == j) := by
 rw [Bool.eq_iff_iff]
 simp
theorem Nk {i j : Bool} : decide (V.bl i = V.bl j) = (i == j) := by
 rw [Bool.eq_iff_iff]
 simp
theorem K1 {i j : Str} : decide (V.str i = V.str j) = (i == j) := by
 rw [Bool.eq_iff_iff]
 simp
theorem K3 {i j : Array UInt8} : decide (V.byt i = V.byt j) = (i.toList == j.toList) := by
 rw [Bool.eq_iff_iff]
 cases i
 cases j
 simp
section
variable {X : Cx} {a b c : Expr} {ta tb tc : TE} {pos : Pos}
theorem Ak {pins : List (Addr × Obj)} {σ : St} {H : Hp} {s : Shared} {Q : VK} {k k' : Bool} (I : Inv X pins σ H s) (q : Q (.bl k) H) (e : k = k') : EP X pins σ Q (.bool k') s := by
 subst e
 exact ⟨.bl k, H, I, rfl, q⟩
theorem Vs : OpR X (compareOp .Eq) rEq := by
 intro pins s σ H x y v u Q I rx ry h
 obtain ⟨hs, q⟩ := h
 cases x with
 | non =>
  cases rx
  cases y with
  | non => cases ry; exact PySem.EqNone.eq_none_none (Ak I q (by simp))
  | bl j => cases ry; exact PySem.EqNone.eq_none_bool (Ak I q (by simp))
  | int j => obtain ⟨t', rfl⟩ := ry; exact PySem.EqNone.eq_none_int (Ak I q (by simp))
  | str j => obtain ⟨t', rfl⟩ := ry; exact PySem.EqNone.eq_none_str (Ak I q (by simp))
  | _ => exact absurd (show false = true from hs) Bool.false_ne_true
 | bl i =>
  cases rx
  cases y with
  | non => cases ry; exact PySem.EqNone.eq_bool_none (Ak I q (by simp))
  | bl j => cases ry; exact eq_bool (Ak I q Nk)
  | str j => obtain ⟨t', rfl⟩ := ry; exact PySem.EqMixed.eq_bool_str (Ak I q (by simp))
  | _ => exact absurd (show false = true from hs) Bool.false_ne_true
 | int i =>
  obtain ⟨t, rfl⟩ := rx
  cases y with
  | non => cases ry; exact PySem.EqNone.eq_int_none (Ak I q (by simp))
  | int j => obtain ⟨t', rfl⟩ := ry; exact eq_int (Ak I q Kz)
  | str j => obtain ⟨t', rfl⟩ := ry; exact PySem.EqMixed.eq_int_str (Ak I q (by simp))
  | _ => exact absurd (show false = true from hs) Bool.false_ne_true
 | str i =>
  obtain ⟨t, rfl⟩ := rx
  cases y with
  | non => cases ry; exact PySem.EqNone.eq_str_none (Ak I q (by simp))
  | bl j => cases ry; exact PySem.EqMixed.eq_str_bool (Ak I q (by simp))
  | int j => obtain ⟨t', rfl⟩ := ry; exact PySem.EqMixed.eq_str_int (Ak I q (by simp))
  | str j => obtain ⟨t', rfl⟩ := ry; exact eq_str (Ak I q K1)
  | _ => exact absurd (show false = true from hs) Bool.false_ne_true
 | byt i =>
  obtain ⟨t, rfl⟩ := rx
  cases y with
  | byt j => obtain ⟨t', rfl⟩ := ry; exact PySem.W.eq_bytes (Ak I q K3)
  | _ => exact absurd (show false = true from hs) Bool.false_ne_true
 | _ => cases y <;> exact absurd (show false = true from hs) Bool.false_ne_true
theorem Vt : OpR X (compareOp .NotEq) rNe := by
 intro pins s σ H x y v u Q I rx ry h
 obtain ⟨hs, q⟩ := h
 cases x with
 | non =>
  cases rx
  cases y with
  | non => cases ry; exact PySem.EqNone.ne_none_none (Ak I q (by simp))
  | bl j => cases ry; exact PySem.EqNone.ne_none_bool (Ak I q (by simp))
  | int j => obtain ⟨t', rfl⟩ := ry; exact PySem.EqNone.ne_none_int (Ak I q (by simp))
  | str j => obtain ⟨t', rfl⟩ := ry; exact PySem.EqNone.ne_none_str (Ak I q (by simp))
  | _ => exact absurd (show false = true from hs) Bool.false_ne_true
 | bl i =>
  cases rx
  cases y with
  | non => cases ry; exact PySem.EqNone.ne_bool_none (Ak I q (by simp))
  | bl j => cases ry; exact ne_bool (Ak I q (congrArg not Nk))
  | str j => obtain ⟨t', rfl⟩ := ry; exact PySem.EqMixed.ne_bool_str (Ak I q (by simp))
  | _ => exact absurd (show false = true from hs) Bool.false_ne_true
 | int i =>
  obtain ⟨t, rfl⟩ := rx
  cases y with
  | non => cases ry; exact PySem.EqNone.ne_int_none (Ak I q (by simp))
  | int j => obtain ⟨t', rfl⟩ := ry; exact ne_int (Ak I q (congrArg not Kz))
  | str j => obtain ⟨t', rfl⟩ := ry; exact PySem.EqMixed.ne_int_str (Ak I q (by simp))
  | _ => exact absurd (show false = true from hs) Bool.false_ne_true
 | str i =>
  obtain ⟨t, rfl⟩ := rx
  cases y with
  | non => cases ry; exact PySem.EqNone.ne_str_none (Ak I q (by simp))
  | bl j => cases ry; exact PySem.EqMixed.ne_str_bool (Ak I q (by simp))
  | int j => obtain ⟨t', rfl⟩ := ry; exact PySem.EqMixed.ne_str_int (Ak I q (by simp))
  | str j => obtain ⟨t', rfl⟩ := ry; exact ne_str (Ak I q (congrArg not K1))
  | _ => exact absurd (show false = true from hs) Bool.false_ne_true
 | byt i =>
  obtain ⟨t, rfl⟩ := rx
  cases y with
  | byt j => obtain ⟨t', rfl⟩ := ry; exact PySem.W.ne_bytes (Ak I q (congrArg not K3))
  | _ => exact absurd (show false = true from hs) Bool.false_ne_true
 | _ => cases y <;> exact absurd (show false = true from hs) Bool.false_ne_true
theorem Sy : OpR X (compareOp .Lt) (rI0 fun i j => .bl (decide (i < j))) := opB0 fun _ _ _ _ _ _ _ q => lt_int q
theorem Vu : OpR X (compareOp .Gt) (rI0 fun i j => .bl (decide (j < i))) := opB0 fun _ _ _ _ _ _ _ q => gt_int q
theorem Mt : OpR X (compareOp .In) (fun x y H Q => ∃ i j, x = .str i ∧ y = .str j ∧ Q (.bl (!(Builtin.Str.occurrences j i 0 j.length 1).isEmpty)) H) := by
 intro pins s σ H x y v u Q I rx ry h
 obtain ⟨i, j, rfl, rfl, q⟩ := h
 obtain ⟨t, rfl⟩ := rx
 obtain ⟨t', rfl⟩ := ry
 exact in_str (Ak I q rfl)
theorem OpR.or {f : Value → Value → Sem Value} {r r' : R2} (h : OpR X f r) (h' : OpR X f r') : OpR X f (fun x y H Q => r x y H Q ∨ r' x y H Q) := by
 intro pins s σ H x y v u Q I rx ry q
 rcases q with q | q
 ·exact h pins s σ H x y v u Q I rx ry q
 ·exact h' pins s σ H x y v u Q I rx ry q
theorem Gb (b : Expr) {op : CmpOp} (h : op ≠ .In := by decide) (h2 : op ≠ .NotIn := by decide) : behindInMarks op b = false := by
 have e1 : (op == CmpOp.In) = false := by cases op <;> first | rfl | exact absurd rfl h
 have e2 : (op == CmpOp.NotIn) = false := by cases op <;> first | rfl | exact absurd rfl h2
 cases b <;> simp [behindInMarks, e1, e2]
theorem Q6 {op : CmpOp} {r : R2} (ho : OpR X (compareOp op) r) (ha : PE X a ta) (hb : PE X b tb) (hm : behindInMarks op b = false) : PE X (.Compare a [op] [b] pos) (tOp r ta tb) := by
 intro pins s σ H Q I h
 exact wpAny_Compare1 (binT ha hb I h fun v u s2 x y H2 I2 rx ry q => ho pins s2 σ H2 x y v u Q I2 rx ry q) hm
def Vv (t : TE) : TT := fun σ H Q => t σ H fun x H' => ∃ k, x = .bl k ∧ Q k H'
theorem Q7 {op : CmpOp} {r : R2} (ho : OpR X (compareOp op) r) (ha : PE X a ta) (hb : PE X b tb) (hm : behindInMarks op b = false) : PT X (.Compare a [op] [b] pos) (Vv (tOp r ta tb)) := by
 intro pins s σ H Q I h
 refine wpAny_isTrue_Compare1 (thn (ha pins s σ H _ I h) fun v s1 ⟨x, H1, I1, r1, q1⟩ => thn (hb pins s1 σ H1 _ I1 q1) fun u s2 ⟨y, H2, I2, r2, q2⟩ =>
  thn (ho pins s2 σ H2 x y v u _ I2 r1 r2 q2) fun c s3 ⟨z, H3, I3, r3, k, e, q3⟩ => ?_) hm
 subst e
 cases r3
 exact wpAny_truthy_bool ⟨H3, I3, q3⟩
def TruV (K : PySem.W.Frag) (x : V) (H : Hp) (k : Bool) : Prop :=
 match x with
 | .non => k = false
 | .bl b => k = b
 | .int i => k = (i != 0)
 | .str y => y.length ≤ sizeLine ∧ k = ((y.length : Int) != 0)
 | .byt y => y.size ≤ sizeLine ∧ k = ((y.size : Int) != 0)
 | .ref p => (∃ xs, SqL K H p xs ∧ k = !xs.isEmpty) ∨ (∃ xs, SqT K H p xs ∧ k = !xs.isEmpty) ∨ ∃ kvs, H p = some (.dK kvs) ∧ k = !kvs.isEmpty
 | _ => False
theorem KH {κ : Type} {kvs : List (κ × V)} {vs : List (κ × Value)} (r : KV kvs vs) : (!vs.isEmpty) = !kvs.isEmpty := by
 cases r <;> rfl
theorem G_ {xs : List V} {its : List Value} (r : Vals xs its) : (!its.toArray.isEmpty) = !xs.isEmpty := by
 cases r <;> simp
theorem HB : (sizeLine : Nat) < 2 ^ 63 := by rw [sizeLine_eq]; decide
theorem Uq : TruR X (fun x H Q => ∃ k, TruV X.K x H k ∧ Q k H) := by
 intro pins s σ H x v Q I rx h
 obtain ⟨k, e, q⟩ := h
 have hl := HB
 have hs : sizeLine = 16777216 := sizeLine_eq
 cases x with
 | non =>
  cases rx
  have e' : k = false := e
  subst e'
  exact truthy_none ⟨H, I, q⟩
 | bl b =>
  cases rx
  have e' : k = b := e
  subst e'
  exact wpAny_truthy_bool ⟨H, I, q⟩
 | int i =>
  obtain ⟨t, rfl⟩ := rx
  have e' : k = (i != 0) := e
  subst e'
  exact PySem.P.truthy_int ⟨H, I, q⟩
 | str y =>
  obtain ⟨t, rfl⟩ := rx
  obtain ⟨hy, e'⟩ : y.length ≤ sizeLine ∧ k = ((y.length : Int) != 0) := e
  subst e'
  exact PySem.P.truthy_str (by omega) ⟨H, I.tok _, q⟩
 | byt y =>
  obtain ⟨t, rfl⟩ := rx
  obtain ⟨hy, e'⟩ : y.size ≤ sizeLine ∧ k = ((y.size : Int) != 0) := e
  subst e'
  exact PySem.W.truthy_bytes (by omega) ⟨H, I.tok _, q⟩
 | ref p =>
  cases rx
  have e' : (∃ xs, SqL X.K H p xs ∧ k = !xs.isEmpty) ∨ (∃ xs, SqT X.K H p xs ∧ k = !xs.isEmpty) ∨ ∃ kvs, H p = some (.dK kvs) ∧ k = !kvs.isEmpty := e
  rcases e' with ⟨xs, hx, e'⟩ | ⟨xs, hx, e'⟩ | ⟨kvs, hx, e'⟩
  ·subst e'
   obtain ⟨its, r, pl, hz⟩ := I.list hx
   have hlen := r.length
   exact wpAny_truthy_list pl.isList (by simp only [List.size_toArray]; omega) ⟨H, I.tok _, by rw [G_ r]; exact q⟩
  ·subst e'
   obtain ⟨its, r, pl, hz⟩ := I.tuple hx
   have hlen := r.length
   exact truthy_tuple pl (by simp only [List.size_toArray]; omega) ⟨H, I.tok _, by rw [G_ r]; exact q⟩
  ·subst e'
   obtain ⟨hz, hS, vs, r, m⟩ : kvs.length ≤ sizeLine ∧ (p == sysModules) = false ∧ ∃ vs, KV kvs vs ∧ s.heap.DictOf (Bd X.prog X.w) p vs := I.hok p _ hx
   have hlen : kvs.length = vs.length := Paired.length r
   exact wpAny_truthy_dict hS m (by omega) ⟨H, I.tok _, by rw [KH r]; exact q⟩
 | _ => exact (show False from e).elim
theorem Nm (ha : PE X a ta) (he : ∀ whole, isTrue a X.env whole = (do let v ← whole; standAt a.pos; holding [v] (truthy v))) :
  PT X a (fun σ H Q => ta σ H fun x H' => ∃ k, TruV X.K x H' k ∧ Q k H') := by
 intro pins s σ H Q I h
 exact isTrue_plain (thn (ha pins s σ H _ I h) fun v s1 ⟨x, H1, I1, r1, q1⟩ => Uq pins s1 σ H1 x v Q I1 r1 q1) (he _)
theorem KJ : OpR X (binaryOp .Add) (fun x y H Q => ∃ i j, x = .str i ∧ y = .str j ∧ i.length + j.length ≤ sizeLine ∧ Q (.str (i ++ j)) H) := by
 intro pins s σ H x y v u Q I rx ry h
 obtain ⟨i, j, rfl, rfl, hz, q⟩ := h
 obtain ⟨t, rfl⟩ := rx
 obtain ⟨t', rfl⟩ := ry
 exact add_str (fun t' tk => ⟨.str (i ++ j), H, I.tok _, ⟨_, rfl⟩, q⟩) hz
theorem vals1 {x : V} {us : List Value} (r : Vals [x] us) : ∃ u, us = [u] ∧ RelV x u := by
 cases r with
 | cons r1 r2 => cases r2; exact ⟨_, rfl, r1⟩
def LenV (K : PySem.W.Frag) (x : V) (H : Hp) (n : Nat) : Prop :=
 match x with
 | .str y => y.length ≤ sizeLine ∧ n = y.length
 | .byt y => y.size ≤ sizeLine ∧ n = y.size
 | .ref p => (∃ xs, SqL K H p xs ∧ n = xs.length) ∨ ∃ xs, SqT K H p xs ∧ n = xs.length
 | _ => False
theorem Np : Ej X (.builtin "len") (fun xs H Q => ∃ x n, xs = [x] ∧ LenV X.K x H n ∧ Q (.int n) H) := by
 intro pins s σ H xs us Q I r h
 obtain ⟨x, n, rfl, e, q⟩ := h
 obtain ⟨u, rfl, rx⟩ := vals1 r
 have hl := HB
 have hs : sizeLine = 16777216 := sizeLine_eq
 cases x with
 | str y =>
  obtain ⟨t, rfl⟩ := rx
  obtain ⟨hy, e'⟩ : y.length ≤ sizeLine ∧ n = y.length := e
  subst e'
  exact len_str (by omega) ⟨.int _, H, I.tok _, ⟨_, rfl⟩, q⟩
 | byt y =>
  obtain ⟨t, rfl⟩ := rx
  obtain ⟨hy, e'⟩ : y.size ≤ sizeLine ∧ n = y.size := e
  subst e'
  exact PySem.W.len_bytes (by omega) ⟨.int _, H, I.tok _, ⟨_, rfl⟩, q⟩
 | ref p =>
  cases rx
  have e' : (∃ xs, SqL X.K H p xs ∧ n = xs.length) ∨ ∃ xs, SqT X.K H p xs ∧ n = xs.length := e
  rcases e' with ⟨xs, hx, e'⟩ | ⟨xs, hx, e'⟩
  ·subst e'
   obtain ⟨its, r', pl, hz⟩ := I.list hx
   have hlen := r'.length
   exact Calls.call_len_list pl.isList (by simp only [List.size_toArray]; omega) ⟨.int xs.length, H, I.tok _, ⟨_, by simp only [List.size_toArray]; rw [hlen]⟩, q⟩
  ·subst e'
   obtain ⟨its, r', pl, hz⟩ := I.tuple hx
   have hlen := r'.length
   exact len_tuple pl (by simp only [List.size_toArray]; omega) ⟨.int xs.length, H, I.tok _, ⟨_, by simp only [List.size_toArray]; rw [hlen]⟩, q⟩
 | _ => exact (show False from e).elim
end
end L2
namespace L2
open PySem PySem.Spec PyProof.Rows
structure ObjM (h : Heap) (x dx C : Addr) (mA : Str → Option Value) : Prop where
 obj : h.get? x = some (PySem.W.instObj C dx)
 ns : h.Ns1 dx mA
 ne : dx ≠ x
theorem Gd {h : Heap} {dx : Addr} {mA : Str → Option Value} (n : h.Ns1 dx mA) : ∃ od, h.get? dx = some od ∧ ∀ name, PySem.W.lookIn name od = some (mA name) := by
 obtain ⟨o, es, ep, ho, hd, hk, _, hm⟩ := n
 refine ⟨o, ho, fun name => ?_⟩
 have e := hm name
 unfold nsFind findBy at e
 rw [← Array.find?_toList] at e
 unfold PySem.W.lookIn
 rw [hd]
 dsimp only
 split
 ·rename_i y q
  rw [q] at e
  exact congrArg some e
 ·rename_i q
  rw [q] at e
  have a : es.toList.any (·.refKey) = false := by
   rw [List.any_eq_false]
   intro y hy
   obtain ⟨z, t, hkey⟩ := hk y (Array.mem_toList_iff.mp hy)
   simp [DictEntry.refKey, hkey]
  have a' : ¬ es.toList.any (·.refKey) = true := by rw [a]; exact Bool.false_ne_true
  rw [if_neg a']
  exact congrArg some e
theorem ObjM.look {h : Heap} {x dx C : Addr} {mA : Str → Option Value} (I : ObjM h x dx C mA) : ∃ od, PySem.W.InstAt h x (PySem.W.instObj C dx) C (some od) ∧ ∀ name, PySem.W.lookIn name od = some (mA name) :=
 let ⟨od, ho, hl⟩ := Gd I.ns
 ⟨od, ⟨I.obj, rfl, rfl, ho⟩, hl⟩
section
variable {prog : Program} {w : World} {A : Around} {E : Value → Shared → Prop} {s : Shared} {K : PySem.W.Frag} {x dx C f : Addr} {mA : Str → Option Value} {name : Str} {v : Value}
theorem Q8 {expr : Bool} {Q : Value → Shared → Prop} (X : K.In s.heap) (I : ObjM s.heap x dx C mA) (hg : PySem.W.plainGet K C name = true) (hh : PySem.W.hasDictIn K C = true)
  (ha : PySem.W.findIn K (.ref C) name = some none) (hv : mA name = some v) (hv' : PySem.W.handedIn v = true) (h : Q v { s with toks := s.toks + 1 }) :
  wpAny (model prog w) A (getAttr (.ref x) name expr) Q E s := by
 obtain ⟨od, J, hl⟩ := I.look
 exact PySem.W.get_value X J (PySem.W.plainGet_of hg).1 (PySem.W.findObj_own hh ha rfl (by rw [hl, hv])) hv' h
theorem Nq {pl : Sem Bool} {Q : Value × List Value → Shared → Prop} (X : K.In s.heap) (I : ObjM s.heap x dx C mA) (hg : PySem.W.plainGet K C name = true)
  (hf : PySem.W.findIn K (.ref C) name = some (some (.ref f))) (ht : PySem.W.isFn K (.ref f) = true) (hv : mA name = none) (h : Q (.ref f, [.ref x]) s) :
  wpAny (model prog w) A (getMethod (.ref x) name pl) Q E s := by
 obtain ⟨od, J, hl⟩ := I.look
 exact PySem.W.method_fn X J (PySem.W.plainGet_of hg).1 (PySem.W.plainGet_of hg).2 hf (beq_iff_eq.mp ht) (by show (PySem.W.lookIn name od).map (·.isSome) = some false; rw [hl, hv]; rfl) h
theorem Q9 {ns : List Str} {Q : Unit → Shared → Prop} (X : K.In s.heap) (I : ObjM s.heap x dx C mA)
  (hs : PySem.W.findIn K (.ref C) "__setattr__" = some (some (.builtin "object.__setattr__"))) (hp : PySem.W.plainOver K C = true) (ht : PySem.W.takerIn K C name = some none) (hh : PySem.W.hasDictIn K C = true)
  (hw : PySem.Within mA ns) (hsz : ns.length ≤ sizeLine)
  (h : ∀ h', ObjM h' x dx C (fun y => if y = name then some v else mA y) → Heap.SameBut dx s.heap h' → Q () { s with heap := h', toks := s.toks + 2 }) :
  wpAny (model prog w) A (setAttr (.ref x) name v) Q E s := by
 obtain ⟨od, J, hl⟩ := I.look
 refine PySem.W.set_plain X J hs (PySem.W.osa_open (s := { s with toks := s.toks + 1 }) (r := none) X J hp ht fun b => ?_)
 obtain ⟨cd, hc, hd'⟩ := PySem.W.any_some hh
 have hx : s.heap.get? x = some ⟨.ref C, some dx, .plain, #[]⟩ := I.obj
 refine wpAny_bind (wpAny_pure (wpAny_bind (wpAny_bind (wpAny_loadPart hx (wpAny_bind (PySem.W.Looks.here (s := { s with toks := s.toks + 1 }) (PySem.W.looks_clsIn X hc) ?_))))))
 rw [hd']
 refine wpAny_pure (a := some dx) (wpAny_bind (wpAny_pure (wpAny_bind ?_)))
 refine wpAny_nsSet1 (s := { s with toks := s.toks + 1 }) I.ns fun h' hn2 hs2 => ?_
 obtain ⟨oD, esD, epD, hoD, hdD, hcD⟩ := hn2.count (PySem.Within.cons name v hw)
 refine wpAny_bind (wpAny_lookBehind hoD (by rw [hdD]; exact pastItsLine_dict (Nat.le_trans hcD (by rw [List.length_cons]; omega))) ?_)
 exact wpAny_pure (h _ ⟨(hs2.2 _ (Ne.symm I.ne)).trans I.obj, hn2, I.ne⟩ hs2)
theorem Nr {R : Result → Shared → Prop} {vs : List Value} {kw : List (Str × Value)} (X : K.In s.heap) (hm : PySem.W.makesIn K C = true)
  (hi : PySem.W.findIn K (.ref C) "__init__" = some (some (.ref f))) (hf : PySem.W.typeIn K (.ref f) = some (.type "function"))
  (h : codeAny (model prog w) (A.under (.builtin "type.__call__" ⟨.ref C :: vs, kw⟩)) (.call (.ref f) ⟨.ref (s.heap.objs.size + 1) :: vs, kw⟩) (PySem.W.InitBack (s.heap.objs.size + 1) R)
   { s with heap := (s.heap.push PySem.W.emptyDict).push (PySem.W.instObj C s.heap.objs.size) }) :
  codeAny (model prog w) A (.call (.ref C) ⟨vs, kw⟩) R s := by
 obtain ⟨hh, g, d, t, os⟩ := s
 exact PySem.W.make_core (PySem.W.makes_of X hm) (PySem.W.looks_findIn X hi) (fun self => PySem.W.bind_fn X self hf) (.inl rfl) h
end
def putF (f : Str) (v : V) : List (Str × V) → List (Str × V)
 | [] => [(f, v)]
 | (g, x) :: r => if g = f then (g, v) :: r else (g, x) :: putF f v r
theorem Gn (f g : Str) (v : V) : ∀ fs : List (Str × V), (putF f v fs).lookup g = if g = f then some v else fs.lookup g
 | [] => by
  show List.lookup g [(f, v)] = _
  by_cases h : g = f
  ·have hb : (g == f) = true := beq_iff_eq.mpr h
   simp only [List.lookup, hb, if_pos h]
  ·have hb : (g == f) = false := beq_eq_false_iff_ne.mpr h
   simp only [List.lookup, hb, if_neg h]
 | (k, x) :: r => by
  have ih := Gn f g v r
  rw [show putF f v ((k, x) :: r) = (if k = f then (k, v) :: r else (k, x) :: putF f v r) from rfl]
  by_cases hk : k = f
  ·rw [if_pos hk]
   by_cases h : g = k
   ·have hb : (g == k) = true := beq_iff_eq.mpr h
    simp only [List.lookup, hb, if_pos (h.trans hk)]
   ·have hb : (g == k) = false := beq_eq_false_iff_ne.mpr h
    simp only [List.lookup, hb, if_neg (fun e : g = f => h (e.trans hk.symm))]
  ·rw [if_neg hk]
   by_cases h : g = k
   ·have hb : (g == k) = true := beq_iff_eq.mpr h
    simp only [List.lookup, hb, if_neg (fun e : g = f => hk (h.symm.trans e))]
   ·have hb : (g == k) = false := beq_eq_false_iff_ne.mpr h
    simp only [List.lookup, hb]
    exact ih
theorem Ge (f : Str) (v : V) : ∀ fs : List (Str × V), f ∈ (putF f v fs).map (·.1) ∧ ∀ g, g ∈ fs.map (·.1) → g ∈ (putF f v fs).map (·.1)
 | [] => ⟨by simp [putF], fun g h => by simp at h⟩
 | (k, x) :: r => by
  obtain ⟨i1, i2⟩ := Ge f v r
  rw [show putF f v ((k, x) :: r) = (if k = f then (k, v) :: r else (k, x) :: putF f v r) from rfl]
  by_cases hk : k = f
  ·rw [if_pos hk]
   subst hk
   exact ⟨by simp, fun g h => by simpa using h⟩
  ·rw [if_neg hk]
   refine ⟨?_, fun g h => ?_⟩
   ·rw [List.map_cons]
    exact List.mem_cons_of_mem _ i1
   ·rw [List.map_cons] at h ⊢
    rcases List.mem_cons.mp h with e | e
    ·exact List.mem_cons.mpr (.inl e)
    ·exact List.mem_cons_of_mem _ (i2 g e)
theorem Gp (f : Str) (v : V) : ∀ fs : List (Str × V), (putF f v fs).length ≤ fs.length + 1
 | [] => by simp [putF]
 | (k, x) :: r => by
  have ih := Gp f v r
  rw [show putF f v ((k, x) :: r) = (if k = f then (k, v) :: r else (k, x) :: putF f v r) from rfl]
  by_cases hk : k = f
  ·rw [if_pos hk, List.length_cons, List.length_cons]; omega
  ·rw [if_neg hk, List.length_cons, List.length_cons]; omega
theorem RelO.some_of {v : V} {o : Option Value} (r : RelO (some v) o) : ∃ u, o = some u ∧ RelV v u := by
 cases o with
 | none => exact (show False from r).elim
 | some u => exact ⟨u, rfl, r⟩
theorem RelO.none_of {o : Option Value} (r : RelO none o) : o = none := by
 cases o with
 | none => rfl
 | some u => exact (show False from r).elim
theorem H_ {v : V} {u : Value} (r : RelV v u) : PySem.W.handedIn u = true := by
 cases v with
 | non => cases (show u = Value.none from r); rfl
 | bl b => cases (show u = Value.bool b from r); rfl
 | int i => obtain ⟨t, e⟩ := (show ∃ t, u = Value.int i t from r); cases e; rfl
 | str x => obtain ⟨t, e⟩ := (show ∃ t, u = Value.str x t from r); cases e; rfl
 | byt b => obtain ⟨t, e⟩ := (show ∃ t, u = Value.bytes b t from r); cases e; rfl
 | flt b => obtain ⟨t, e⟩ := (show ∃ t, u = Value.float b t from r); cases e; rfl
 | ref a => cases (show u = Value.ref a from r); rfl
 | ty n => cases (show u = Value.type n from r); rfl
section
variable {P : Program} {w : World} {H H' : Hp} {h h' : Heap} {a C dx : Addr} {fs fs' : List (Str × V)}
theorem I_ (hok : HOk P w H h) (e : H a = some (.ins C dx fs)) : ∃ mA, ObjM h a dx C mA ∧ (∀ f, RelO (fs.lookup f) (mA f)) ∧ PySem.Within mA (fs.map (·.1)) ∧ fs.length ≤ 1000 ∧ H dx = some (.own a) := by
 obtain ⟨d, z, ne, ob, mA, n, r, q⟩ := (show Be P w H h a (.ins C dx fs) from hok a _ e)
 exact ⟨mA, ⟨ob, n, ne⟩, r, q, z, d⟩
end
structure Cls (K : PySem.W.Frag) (C : Addr) : Prop where
 pg : PySem.W.plainGet K C Str.empty = true
 hd : PySem.W.hasDictIn K C = true
 po : PySem.W.plainOver K C = true
 sa : PySem.W.findIn K (.ref C) "__setattr__" = some (some (.builtin "object.__setattr__"))
theorem Cls.get {K : PySem.W.Frag} {C : Addr} (c : Cls K C) (f : Str) : PySem.W.plainGet K C f = true := c.pg
def BW (K : PySem.W.Frag) (C : Addr) (f : Str) : Prop := PySem.W.findIn K (.ref C) f = some none
theorem BW.taker {K : PySem.W.Frag} {C : Addr} {f : Str} (n : BW K C f) : PySem.W.takerIn K C f = some none := by
 unfold PySem.W.takerIn
 rw [show PySem.W.findIn K (.ref C) f = some none from n]
 rfl
structure Meth (K : PySem.W.Frag) (C : Addr) (m : Str) (f : Addr) : Prop where
 at_ : PySem.W.findIn K (.ref C) m = some (some (.ref f))
 fn : PySem.W.isFn K (.ref f) = true
 kp : PySem.W.keepIn K (.ref f) = true
section
variable {X : Cx} {pins : List (Addr × Obj)} {σ : St} {H : Hp} {s : Shared} {a C dx : Addr} {fs : List (Str × V)} {f : Str} {v : V} {A : Around} {E : Value → Shared → Prop}
theorem KN {b : Bool} {Q : Value → Shared → Prop} (I : Inv X pins σ H s) (e : H a = some (.ins C dx fs)) (c : Cls X.K C) (n : BW X.K C f) (l : fs.lookup f = some v)
  (h : ∀ u s', Inv X pins σ H s' → RelV v u → Q u s') : wpAny (model X.prog X.w) A (getAttr (.ref a) f b) Q E s := by
 obtain ⟨mA, O, r, _, _, _⟩ := I_ I.hok e
 obtain ⟨u, hu, ru⟩ := RelO.some_of (v := v) (o := mA f) (by rw [← l]; exact r f)
 exact Q8 I.kIn O (c.get f) c.hd n hu (H_ ru) (h u _ (I.tok _) ru)
theorem Dy {m : Str} {g : Addr} {pl : Sem Bool} {Q : Value × List Value → Shared → Prop} (I : Inv X pins σ H s) (e : H a = some (.ins C dx fs)) (c : Cls X.K C) (k : Meth X.K C m g) (l : fs.lookup m = none)
  (h : Q (.ref g, [.ref a]) s) : wpAny (model X.prog X.w) A (getMethod (.ref a) m pl) Q E s := by
 obtain ⟨mA, O, r, _, _, _⟩ := I_ I.hok e
 have hn : mA m = none := RelO.none_of (by rw [← l]; exact r m)
 exact Nq I.kIn O (c.get m) k.at_ k.fn hn h
theorem KQ {y : V} {u : Value} {Q : Unit → Shared → Prop} (I : Inv X pins σ H s) (e : H a = some (.ins C dx fs)) (c : Cls X.K C) (n : BW X.K C f) (hl : fs.length < 1000) (ry : RelV y u)
  (h : ∀ s', Inv X pins σ (upd H a (.ins C dx (putF f y fs))) s' → Q () s') : wpAny (model X.prog X.w) A (setAttr (.ref a) f u) Q E s := by
 obtain ⟨mA, O, r, wi, _, ho⟩ := I_ I.hok e
 have hz : (fs.map (·.1)).length ≤ sizeLine := by rw [List.length_map, sizeLine_eq]; omega
 refine Q9 I.kIn O c.sa c.po n.taker c.hd wi hz fun h' O' sb => h _ ?_
 have hd : ∃ o, h'.get? dx = some o := let ⟨o, _, _, e', _⟩ := O'.ns; ⟨o, e'⟩
 refine I.write (x := a) (e := dx) (by rw [e]; exact True.intro) (.inr ho) (fun b q hb z => (sb.2 b hb).trans z) hd ?_
 refine ⟨by rw [Ad O.ne]; exact ho, ?_, O.ne, O'.obj, _, O'.ns, fun g => ?_, fun g hg => ?_⟩
 ·have := Gp f y fs; omega
 ·show RelO ((putF f y fs).lookup g) (if g = f then some u else mA g)
  rw [Gn]
  by_cases q : g = f
  ·rw [if_pos q, if_pos q]; exact ry
  ·rw [if_neg q, if_neg q]; exact r g
 ·by_cases q : g = f
  ·rw [q]; exact (Ge f y fs).1
  ·refine (Ge f y fs).2 g (wi g fun z => hg ?_)
   show (if g = f then some u else mA g) = none
   rw [if_neg q]; exact z
theorem Inv.made (I : Inv X pins σ H s) : Inv X pins σ (upd (upd H s.heap.objs.size (.own (s.heap.objs.size + 1))) (s.heap.objs.size + 1) (.ins C s.heap.objs.size []))
  { s with heap := (s.heap.push PySem.W.emptyDict).push (PySem.W.instObj C s.heap.objs.size) } := by
 have e1 : (s.heap.push PySem.W.emptyDict).get? s.heap.objs.size = some PySem.W.emptyDict := Heap.get?_push_size s.heap rfl
 have e2 : ((s.heap.push PySem.W.emptyDict).push (PySem.W.instObj C s.heap.objs.size)).get? (s.heap.objs.size + 1) = some (PySem.W.instObj C s.heap.objs.size) := by
  have := Heap.get?_push_size (s.heap.push PySem.W.emptyDict) (o := PySem.W.instObj C s.heap.objs.size) rfl
  rwa [Heap.size_push] at this
 have e3 : (s.heap.push PySem.W.emptyDict).Ns s.heap.objs.size (fun _ => none) := ⟨PySem.W.emptyDict, #[], _, e1, rfl, (fun e he => absurd he (by simp)), fun _ => rfl⟩
 have I1 := I.laid (a := s.heap.objs.size) (o := .own (s.heap.objs.size + 1)) (h' := s.heap.push PySem.W.emptyDict) (t' := s.toks) (fun b u q => Heap.get?_push_of_some _ q) (Nat.le_refl _) ⟨_, e1⟩
 refine I1.laid (a := s.heap.objs.size + 1) (o := .ins C s.heap.objs.size []) (t' := s.toks) (fun b u q => Heap.get?_push_of_some _ q) (Nat.le_of_eq (Heap.size_push _ _)) ?_
 have ne : s.heap.objs.size ≠ s.heap.objs.size + 1 := Nat.ne_of_lt (Nat.lt_succ_self _)
 refine ⟨by rw [Ad ne, Ag], Nat.zero_le _, ne, e2, fun _ => none, (Heap.Ns1.of_empty e3).at fun o q => Heap.get?_push_of_some _ q, fun _ => True.intro, fun y hy => absurd rfl hy⟩
theorem K4 {prog : Program} {w : World} {env : Env} {e : Expr} {f : Str} {pos : Pos} {s : Shared} {Q : Value → Shared → Prop} (hb : attributeBase e f env (eval e env) = eval e env)
  (h : wpAny (model prog w) A (eval e env) (fun o s₁ => wpAny (model prog w) A (getAttr o f true) Q E s₁) E s) : wpAny (model prog w) A (eval (.Attribute e f pos) env) Q E s :=
 Attribute_any_ h (by rw [arm_eval_Attribute, hb])
end
def tFld (K : PySem.W.Frag) (ta : TE) (f : Str) : TE := fun σ H Q => ta σ H fun x H1 => ∃ a C dx fs v, x = .ref a ∧ H1 a = some (.ins C dx fs) ∧ Cls K C ∧ BW K C f ∧ fs.lookup f = some v ∧ Q v H1
def sFld (K : PySem.W.Frag) (ta tv : TE) (f : Str) : TS := fun D σ H => tv σ H fun y H1 => ta σ H1 fun x H2 => ∃ a C dx fs, x = .ref a ∧ H2 a = some (.ins C dx fs) ∧ Cls K C ∧ BW K C f ∧ fs.length < 1000 ∧
 D.nx σ (upd H2 a (.ins C dx (putF f y fs)))
section
variable {X : Cx} {o e value : Expr} {f : Str} {pos pos' tpos : Pos} {ta tv : TE}
theorem Ur (he : PE X e ta) (hb : attributeBase e f X.env (eval e X.env) = eval e X.env) : PE X (.Attribute e f pos) (tFld X.K ta f) := by
 intro pins s σ H Q I h
 refine K4 hb (thn (he pins s σ H _ I h) fun u s1 ⟨x, H1, I1, rx, a, C, dx, fs, v, ex, ea, c, n, l, q⟩ => ?_)
 subst ex
 obtain rfl : u = Value.ref a := rx
 exact KN I1 ea c n l fun u' s2 I2 ru => ⟨v, H1, I2, ru, q⟩
theorem Us (ha : PE X o ta) (hv : PE X value tv) (hs : swapsWith value (some (.Attribute o f pos')) pos.line X.env = pure false) : PS X (.Assign [.Attribute o f pos'] value pos) (sFld X.K ta tv f) := by
 intro pins s σ H D I h
 refine plainObj_wpAny_Assign_Attribute (thn (hv pins s σ H _ I h) fun u s1 ⟨y, H1, I1, ry, q⟩ => thn (ha pins s1 σ H1 _ I1 q) fun ov s2 ⟨x, H2, I2, rx, a, C, dx, fs, ex, ea, c, n, l, q2⟩ => ?_) hs
 subst ex
 obtain rfl : ov = Value.ref a := rx
 exact KQ I2 ea c n l ry fun s3 I3 => ⟨σ, _, I3, q2⟩
def rAdd : V → V → Hp → VK → Prop := fun x y H Q => ∃ i j, x = .int i ∧ y = .int j ∧ Q (.int (i + j)) H
end
section
variable {X : Cx} {pins : List (Addr × Obj)} {σ : St} {H : Hp} {s : Shared} {A : Around} {E : Value → Shared → Prop} {Q : Value → Shared → Prop} {c : Value} {b : Bool}
end
end L2
namespace L2
open PySem PySem.Spec PyProof.Rows
structure Room (k : Nat) (A : Around) : Prop where
 hd : A.handled = none
 dp : A.depth + 3 * k + 5 < recursionLimit
 un : A.units + 16 * k + 200 < cLine
theorem Room.mono {j k : Nat} {A : Around} (r : Room k A) (h : j ≤ k) : Room j A := ⟨r.hd, by have := r.dp; omega, by have := r.un; omega⟩
theorem Room.deeper {k : Nat} {A : Around} (r : Room (k + 1) A) (env : Env) : Room k (A.deeper env) :=
 ⟨r.hd, by have := r.dp; show A.depth + 1 + 3 * k + 5 < _; omega, by have := r.un; show A.units + 3 + 16 * k + 200 < _; omega⟩
theorem Room.in1 {k : Nat} {A : Around} (r : Room (k + 1) A) : Room k A.in1 :=
 ⟨r.hd, by have := r.dp; show A.depth + 3 * k + 5 < _; omega, by have := r.un; show A.units + 1 + 16 * k + 200 < _; omega⟩
theorem KR {A : Around} {C : Addr} {us : List Value} {kw : List (Str × Value)} : (A.under (.builtin "type.__call__" ⟨.ref C :: us, kw⟩)).depth = A.depth + 1 := by
 first | rfl | simp [Around.under, Code.weight, Code.isCreation, Code.isGuard, Code.isCaller, Code.frames, Code.isFrame, guardIds]
theorem KY {A : Around} {C : Addr} {us : List Value} {kw : List (Str × Value)} : (A.under (.builtin "type.__call__" ⟨.ref C :: us, kw⟩)).units = A.units + 1 := by
 first | rfl | simp [Around.under, Code.cUnits, Code.frames, Code.isFrame]
theorem Room.make {k : Nat} {A : Around} (r : Room (k + 1) A) (C : Addr) (us : List Value) (kw : List (Str × Value)) : Room k (A.under (.builtin "type.__call__" ⟨.ref C :: us, kw⟩)) :=
 ⟨r.hd, by have := r.dp; rw [KR]; omega, by have := r.un; rw [KY]; omega⟩
theorem Room.depth {k : Nat} {A : Around} (r : Room k A) : A.depth < recursionLimit := by have := r.dp; omega
theorem Room.units {k : Nat} {A : Around} (r : Room k A) : A.units + 64 < cLine := by have := r.un; omega
def tNil : TA := fun _ H Q => Q [] H
def K5 (ta : TE) (tr : TA) : TA := fun σ H Q => ta σ H fun x H1 => tr σ H1 fun xs H2 => Q (x :: xs) H2
section
variable {X : Cx} {e : Expr} {es : List Expr} {te : TE} {t : TA} {pos : Pos}
theorem Fo : PA X [] tNil := fun _ _ _ _ H Q I h => Calls.spliced_nil ⟨[], H, I, .nil, h⟩
theorem Bs (ha : PE X e te) (hr : PA X es t) (hs : starEach (e :: es) X.env = (false, eval e X.env) :: starEach es X.env := by rfl) : PA X (e :: es) (K5 te t) := by
 intro pos pins s σ H Q I h
 rw [hs]
 show wpAny _ _ (spliced ((false, eval e X.env) :: backTo pos (starEach es X.env))) _ _ s
 refine Calls.spliced_cons (thn (ha pins s σ H _ I h) fun u s1 ⟨x, H1, I1, r1, q1⟩ => ?_)
 exact thn (hr pos pins s1 σ H1 _ I1 q1) fun us s2 ⟨xs, H2, I2, r2, q2⟩ => ⟨x :: xs, H2, I2, .cons r1 r2, q2⟩
def tTup (t : TA) : TE := fun σ H Q => t σ H fun xs H1 => xs.length ≤ sizeLine ∧ ∀ p, H1 p = none → Q (.ref p) (upd H1 p (.tup xs))
def tLst (t : TA) : TE := fun σ H Q => t σ H fun xs H1 => xs.length ≤ sizeLine ∧ ∀ p, H1 p = none → Q (.ref p) (upd H1 p (.lst xs))
theorem KZ {x1} (h : PA X es t) : PE X (.Tuple es x1 pos) (tTup t) := by
 intro pins s σ H Q I hq
 refine wpAny_Tuple_spliced (thn (h pos pins s σ H _ I hq) fun us s1 ⟨xs, H1, I1, r, z, q⟩ => ⟨by rw [← r.length]; exact z, ?_⟩)
 have hf : H1 s1.heap.objs.size = none := I1.hok.fresh (Nat.le_refl _)
 refine ⟨.ref s1.heap.objs.size, upd H1 s1.heap.objs.size (.tup xs), I1.laid (t' := s1.toks) (fun b u e => Heap.get?_push_of_some _ e) (Nat.le_refl _) ?_, rfl, q _ hf⟩
 exact ⟨z, us, r, ⟨_, Heap.get?_push_size _ rfl, rfl, _, rfl⟩⟩
theorem Ut (h : PA X es t) : PE X (.List es pos) (tLst t) := by
 intro pins s σ H Q I hq
 refine wpAny_List_spliced (thn (h pos pins s σ H _ I hq) fun us s1 ⟨xs, H1, I1, r, z, q⟩ => ⟨by rw [← r.length]; exact z, ?_⟩)
 have hf : H1 s1.heap.objs.size = none := I1.hok.fresh (Nat.le_refl _)
 refine ⟨.ref s1.heap.objs.size, upd H1 s1.heap.objs.size (.lst xs), I1.laid (t' := s1.toks) (fun b u e => Heap.get?_push_of_some _ e) (Nat.le_refl _) ?_, rfl, q _ hf⟩
 exact ⟨z, us, 0, r, Heap.get?_push_size _ rfl⟩
end
abbrev Sp := List V → Hp → VK → XK → Prop
abbrev CXT := List Env → Hp → Shared → XK → Value → Shared → Prop
structure Env0 (P : Program) (w : World) (K : PySem.W.Frag) (mg : Str → Option Value) (base : Heap) (A : Around) (outer : List Env) (s : Shared) (H : Hp) : Prop where
 frames : A.frames = some outer
 mod : Mod K mg base
 bs : ∀ b o, base.get? b = some o → s.heap.get? b = some o ∧ H b = none
 bsz : base.objs.size ≤ s.heap.objs.size
 funs : s.heap.FunFrames base outer
 frf : ∀ b ∈ frs outer, H b = none
 hok : HOk P w H s.heap
 bare : AllBare s.gens
def CE (outer : List Env) (P : Program) (w : World) (H : Hp) (s : Shared) (Q : VK) (u : Value) (s' : Shared) : Prop :=
 ∃ v H', s'.os = s.os ∧ AllBare s'.gens ∧ Un (frs outer) [] H H' s.heap s'.heap ∧ HOk P w H' s'.heap ∧ RelV v u ∧ Q v H'
def CR (CX : CXT) (outer : List Env) (P : Program) (w : World) (H : Hp) (s : Shared) (Q : VK) (E : XK) (r : Result) (s' : Shared) : Prop :=
 match r with
 | .ok (.ret u) => CE outer P w H s Q u s'
 | .ok _ => False
 | .error e => CX outer H s E e s'
structure FnOk (P : Program) (w : World) (K : PySem.W.Frag) (mg : Str → Option Value) (base : Heap) (CX : CXT) (k : Nat) (f : Addr) (fd : FuncData) (ps : List Str) (sp : Sp) : Prop where
 len : ∀ vs H Q E, sp vs H Q E → vs.length = ps.length
 run : ∀ (A : Around) (outer : List Env) (s : Shared) (H : Hp) (args : Args) (us : List Value) (vs : List V) (Q : VK) (E : XK), Room k A → Env0 P w K mg base A outer s H → BindsTo s fd args (ps.zip us) → Vals vs us → sp vs H Q E →
  codeAny (model P w) A (.call (.ref f) args) (CR CX outer P w H s Q E) s
theorem FnOk.mono {P : Program} {w : World} {K : PySem.W.Frag} {mg : Str → Option Value} {base : Heap} {CX : CXT} {j k : Nat} {f : Addr} {fd : FuncData} {ps : List Str} {sp : Sp} (F : FnOk P w K mg base CX j f fd ps sp) (h : j ≤ k) :
  FnOk P w K mg base CX k f fd ps sp := ⟨F.len, fun A outer s H args us vs Q E hr => F.run A outer s H args us vs Q E (hr.mono h)⟩
theorem FnOk.imp {P : Program} {w : World} {K : PySem.W.Frag} {mg : Str → Option Value} {base : Heap} {CX : CXT} {k : Nat} {f : Addr} {fd : FuncData} {ps : List Str} {sp sp' : Sp} (F : FnOk P w K mg base CX k f fd ps sp)
  (h : ∀ vs H Q E, sp' vs H Q E → sp vs H Q E) : FnOk P w K mg base CX k f fd ps sp' :=
 ⟨fun vs H Q E q => F.len vs H Q E (h _ _ _ _ q), fun A outer s H args us vs Q E hr he hb hv hs => F.run A outer s H args us vs Q E hr he hb hv (h _ _ _ _ hs)⟩
theorem Env0.make {P : Program} {w : World} {K : PySem.W.Frag} {mg : Str → Option Value} {base : Heap} {A : Around} {outer : List Env} {s : Shared} {H : Hp} (e : Env0 P w K mg base A outer s H) (C : Addr) (us : List Value) (kw : List (Str × Value)) :
  Env0 P w K mg base (A.under (.builtin "type.__call__" ⟨.ref C :: us, kw⟩)) outer s H := ⟨by first | exact e.frames | (simpa [Around.under, Code.envs, Code.isFrame, pushEnvs] using e.frames), e.mod, e.bs, e.bsz, e.funs, e.frf, e.hok, e.bare⟩
theorem Env0.in1 {P : Program} {w : World} {K : PySem.W.Frag} {mg : Str → Option Value} {base : Heap} {A : Around} {outer : List Env} {s : Shared} {H : Hp} (e : Env0 P w K mg base A outer s H) :
  Env0 P w K mg base A.in1 outer s H := ⟨e.frames, e.mod, e.bs, e.bsz, e.funs, e.frf, e.hok, e.bare⟩
section
variable {X : Cx} {pins : List (Addr × Obj)} {σ : St} {H : Hp} {s s' : Shared}
theorem Inv.env0 (I : Inv X pins σ H s) : Env0 X.prog X.w X.K X.mg X.base X.A X.stack s H :=
 ⟨I.ok.frames, I.ok.mod, I.bs, Nat.le_trans I.ok.bsz I.sz, I.stack, I.stkFree, I.hok, I.bare⟩
theorem Inv.after {Q : VK} {u : Value} (I : Inv X pins σ H s) (h : CE X.stack X.prog X.w H s Q u s') : EP X pins σ Q u s' := by
 obtain ⟨v, H', os, bare, un, hok, r, q⟩ := h
 obtain ⟨hh, g, d, t, os'⟩ := s'
 obtain rfl : os' = s.os := os
 exact ⟨v, H', I.call (h' := hh) (g' := g) (d' := d) (t' := t) (ch := []) un hok bare (fun b z => absurd z (by simp)), r, q⟩
end
def Vw (sp : Sp) (dvs : List V) (E : XK) (t : TA) : TE := fun σ H Q => t σ H fun vs H1 => sp (vs ++ dvs) H1 Q E
def S5 (C : Addr) (m : Str) (sp : Sp) (dvs : List V) (E : XK) (ta : TE) (t : TA) : TE := fun σ H Q => ta σ H fun x H1 => ∃ a dx fs, x = .ref a ∧ H1 a = some (.ins C dx fs) ∧ fs.lookup m = none ∧
 t σ H1 fun vs H2 => sp (x :: (vs ++ dvs)) H2 Q E
def Vx (C : Addr) (sp : Sp) (dvs : List V) (E : XK) (t : TA) : TE := fun σ H Q => t σ H fun vs H1 => ∀ x dx, H1 x = none → H1 dx = none → dx ≠ x →
 sp (.ref x :: (vs ++ dvs)) (upd (upd H1 dx (.own x)) x (.ins C dx [])) (fun v H2 => v = .non ∧ Q (.ref x) H2) E
def Binds (K : PySem.W.Frag) (fd : FuncData) (ps : List Str) (ds : List Value) : Prop :=
 ∀ (s : Shared) (us : List Value), K.In s.heap → (us ++ ds).length = ps.length → BindsTo s fd ⟨us, []⟩ (ps.zip (us ++ ds))
theorem Binds.all {K : PySem.W.Frag} {fd : FuncData} {ps : List Str} (h : ∀ us : List Value, us.length = ps.length → bindArgs fd ⟨us, []⟩ = pure (ps.zip us)) : Binds K fd ps [] := fun s us _ hl => by
 rw [List.append_nil] at hl ⊢
 exact .of_eq (h us hl)
def Fp (CX : CXT) (X : Cx) (E : XK) : Prop := ∀ (pins : List (Addr × Obj)) (σ : St) (H : Hp) (s : Shared) (e : Value) (s' : Shared), Inv X pins σ H s → CX X.stack H s E e s' → X.xe e s'
section
variable {X : Cx} {CX : CXT} {k : Nat} {f C : Addr} {fd : FuncData} {ps : List Str} {sp : Sp} {dvs : List V} {ds : List Value} {E : XK} {x m : Str} {p pos apos : Pos} {e o : Expr} {es : List Expr} {ta : TE} {t : TA}
theorem Ka {pins : List (Addr × Obj)} {σ : St} {H : Hp} {s : Shared} {Q : VK} {us : List Value} {vs : List V} (F : FnOk X.prog X.w X.K X.mg X.base CX k f fd ps sp) (hr : Room k X.A) (hb : Binds X.K fd ps ds) (hd : Vals dvs ds) (hx : Fp CX X E)
  (I : Inv X pins σ H s) (r : Vals vs us) (h : sp (vs ++ dvs) H Q E) : wpAny (model X.prog X.w) X.A (call (.ref f) us) (EP X pins σ Q) X.xe s := by
 have r2 : Vals (vs ++ dvs) (us ++ ds) := r.append hd
 have hl : (us ++ ds).length = ps.length := by rw [← r2.length]; exact F.len _ _ _ _ h
 refine wpAny_call (codeAny_mono (F.run X.A X.stack s H ⟨us, []⟩ (us ++ ds) (vs ++ dvs) Q E hr I.env0 (hb s us I.kIn hl) r2 h) fun r s' hq => ?_)
 cases r with
 | error e => exact hx pins σ H s e s' I hq
 | ok fl =>
  cases fl with
  | ret u => exact I.after hq
  | next => exact False.elim hq
  | brk => exact False.elim hq
  | cont => exact False.elim hq
theorem Q_ (F : FnOk X.prog X.w X.K X.mg X.base CX k f fd ps sp) (hr : Room k X.A) (hg : Gl X x) (hm : X.mg x = some (.ref f)) (hk : PySem.W.keepIn X.K (.ref f) = true) (hb : Binds X.K fd ps ds) (hd : Vals dvs ds) (hx : Fp CX X E)
  (ha : PA X (e :: es) t) (hdb : (x == ("__debug__" : Str)) = false := by decide) (he : starEach (e :: es) X.env = (false, eval e X.env) :: starEach es X.env := by rfl) (hpl : (backTo pos (starEach es X.env)).any (·.1) = false := by rfl) :
  PE X (.Call (.Name x p) (e :: es) [] pos) (Vw sp dvs E t) := by
 intro pins s σ H Q I h
 refine wpAny_Call_Name_kw (Dv I hg hm ?_ hdb)
 refine PySem.W.callWith_K (h₀ := X.base) I.ok.mod.kin hk (thn (ha pos pins s σ H _ I h) fun us s1 ⟨vs, H1, I1, r, q⟩ => ⟨I1.kIn, ?_⟩) he hpl
 exact Ka F hr hb hd hx I1 r q
theorem RB {pl : Sem Bool} (he : PE X o ta) (c : Cls X.K C) (hm : Meth X.K C m f) (F : FnOk X.prog X.w X.K X.mg X.base CX k f fd ps sp) (hr : Room k X.A) (hb : Binds X.K fd ps ds) (hd : Vals dvs ds) (hx : Fp CX X E) (ha : PA X (e :: es) t)
  (hst : starEach (e :: es) X.env = (false, eval e X.env) :: starEach es X.env := by rfl) (hpl : (backTo pos (starEach es X.env)).any (·.1) = false := by rfl)
  (ht : eval (.Call (.Attribute o m apos) (e :: es) [] pos) X.env = (do
   let ov ← eval o X.env
   standAt apos.atName
   let (f, first) ← holding [ov] (getMethod ov m pl)
   callWith pos f first (backTo pos (starEach (e :: es) X.env)) (backToKw pos (keywordEach [] X.env))) := by rfl) :
  PE X (.Call (.Attribute o m apos) (e :: es) [] pos) (S5 C m sp dvs E ta t) := by
 intro pins s σ H Q I h
 refine PySem.W.methodCall_KW (pl := pl) (thn (he pins s σ H _ I h) fun u s1 ⟨x, H1, I1, rx, a, dx, fs, ex, ea, l, q⟩ => ?_) ht
 subst ex
 obtain rfl : u = Value.ref a := rx
 refine Dy I1 ea c hm l ?_
 refine PySem.W.callWith_K (first := [.ref a]) (h₀ := X.base) I.ok.mod.kin hm.kp (thn (ha pos pins s1 σ H1 _ I1 q) fun us s2 ⟨vs, H2, I2, r, q2⟩ => ⟨I2.kIn, ?_⟩) hst hpl
 exact Ka (us := .ref a :: us) (vs := .ref a :: vs) F hr hb hd hx I2 (.cons rfl r) q2
theorem Jj {pl : Sem Bool} (he : PE X o ta) (c : Cls X.K C) (hm : Meth X.K C m f) (F : FnOk X.prog X.w X.K X.mg X.base CX k f fd ps sp) (hr : Room k X.A) (hb : Binds X.K fd ps ds) (hd : Vals dvs ds) (hx : Fp CX X E)
  (ht : eval (.Call (.Attribute o m apos) [] [] pos) X.env = (do
   let ov ← eval o X.env
   standAt apos.atName
   let (f, first) ← holding [ov] (getMethod ov m pl)
   callWith pos f first (backTo pos (starEach [] X.env)) (backToKw pos (keywordEach [] X.env))) := by rfl) :
  PE X (.Call (.Attribute o m apos) [] [] pos) (S5 C m sp dvs E ta tNil) := by
 intro pins s σ H Q I h
 refine PySem.W.methodCall_KW (pl := pl) (thn (he pins s σ H _ I h) fun u s1 ⟨x, H1, I1, rx, a, dx, fs, ex, ea, l, q⟩ => ?_) ht
 subst ex
 obtain rfl : u = Value.ref a := rx
 refine Dy I1 ea c hm l ?_
 exact PySem.W.callWith_K0 (first := [.ref a]) I1.kIn hm.kp (Ka (us := [.ref a]) (vs := [.ref a]) F hr hb hd hx I1 (.cons rfl .nil) q)
structure Mk (K : PySem.W.Frag) (C f : Addr) : Prop where
 makes : PySem.W.makesIn K C = true
 init : PySem.W.findIn K (.ref C) "__init__" = some (some (.ref f))
 fn : PySem.W.isFn K (.ref f) = true
 kp : PySem.W.keepIn K (.ref C) = true
theorem Nu {pins : List (Addr × Obj)} {σ : St} {H : Hp} {s : Shared} {Q : VK} {us : List Value} {vs : List V} (M : Mk X.K C f) (F : FnOk X.prog X.w X.K X.mg X.base CX k f fd ps sp) (hr : Room (k + 1) X.A) (hb : Binds X.K fd ps ds) (hd : Vals dvs ds)
  (hx : Fp CX X E) (I : Inv X pins σ H s) (r : Vals vs us)
  (h : ∀ x dx, H x = none → H dx = none → dx ≠ x → sp (.ref x :: (vs ++ dvs)) (upd (upd H dx (.own x)) x (.ins C dx [])) (fun v H2 => v = .non ∧ Q (.ref x) H2) E) :
  wpAny (model X.prog X.w) X.A (call (.ref C) us) (EP X pins σ Q) X.xe s := by
 have hq := h (s.heap.objs.size + 1) s.heap.objs.size (I.hok.fresh (Nat.le_succ _)) (I.hok.fresh (Nat.le_refl _)) (Nat.ne_of_lt (Nat.lt_succ_self _))
 have I2 := Inv.made (C := C) I
 have r2 : Vals (V.ref (s.heap.objs.size + 1) :: (vs ++ dvs)) (Value.ref (s.heap.objs.size + 1) :: (us ++ ds)) := .cons rfl (r.append hd)
 have hl : (Value.ref (s.heap.objs.size + 1) :: us ++ ds).length = ps.length := by
  have e := r2.length
  rw [F.len _ _ _ _ hq] at e
  exact e.symm
 refine wpAny_call (Nr (f := f) I.kIn M.makes M.init (beq_iff_eq.mp M.fn) (codeAny_mono (F.run _ X.stack _ _ ⟨Value.ref (s.heap.objs.size + 1) :: us, []⟩ (Value.ref (s.heap.objs.size + 1) :: (us ++ ds)) _ _ E (hr.make C us [])
  (I2.env0.make C us []) (hb _ (Value.ref (s.heap.objs.size + 1) :: us) I2.kIn hl) r2 hq) fun r s' hq' => ?_))
 cases r with
 | error e => exact hx pins σ _ _ e s' I2 hq'
 | ok fl =>
  cases fl with
  | ret u =>
   obtain ⟨v, H', I3, rv, ev, q3⟩ := I2.after hq'
   subst ev
   exact ⟨rv, ⟨V.ref (s.heap.objs.size + 1), H', I3, rfl, q3⟩⟩
  | next => exact False.elim hq'
  | brk => exact False.elim hq'
  | cont => exact False.elim hq'
theorem RC (M : Mk X.K C f) (F : FnOk X.prog X.w X.K X.mg X.base CX k f fd ps sp) (hr : Room (k + 1) X.A) (hg : Gl X x) (hm : X.mg x = some (.ref C)) (hb : Binds X.K fd ps ds) (hd : Vals dvs ds) (hx : Fp CX X E)
  (ha : PA X (e :: es) t) (hdb : (x == ("__debug__" : Str)) = false := by decide) (he : starEach (e :: es) X.env = (false, eval e X.env) :: starEach es X.env := by rfl) (hpl : (backTo pos (starEach es X.env)).any (·.1) = false := by rfl) :
  PE X (.Call (.Name x p) (e :: es) [] pos) (Vx C sp dvs E t) := by
 intro pins s σ H Q I h
 refine wpAny_Call_Name_kw (Dv I hg hm ?_ hdb)
 refine PySem.W.callWith_K (h₀ := X.base) I.ok.mod.kin M.kp (thn (ha pos pins s σ H _ I h) fun us s1 ⟨vs, H1, I1, r, q⟩ => ⟨I1.kIn, ?_⟩) he hpl
 exact Nu M F hr hb hd hx I1 r q
end
section
variable {X : Cx} {CX : CXT} {k : Nat} {f C : Addr} {fd : FuncData} {ps ks : List Str} {sp : Sp} {E : XK} {x m : Str} {p pos apos kpos : Pos} {e o : Expr} {es : List Expr} {kws : List Keyword} {te ta : TE} {t tk : TA} {nm : Option Str}
variable {g : List Value → List Value → List Value} {gV : List V → List V → List V}
end
structure FnScope (N P : List Str) (sc : Scope) : Prop where
 kind : sc.kind = .function
 co : sc.isCoroutine = false
 gen : sc.isGenerator = false
 nd : N.Nodup
 pre : N.take P.length = P
 par : ∀ x ∈ P, sc.names.lookup x = some .local ∨ sc.names.lookup x = some .cell
 nofree : ∀ y ∈ sc.names, y.2 ≠ .free
theorem IK {kindOf : Str → Option NameKind} {x : Str} : ∀ {binds : List (Str × Value)} {m : Str → Option Value}, (∀ v, (x, v) ∉ binds) → bindL kindOf binds m x = m x
 | [], _, _ => rfl
 | (n, v) :: r, m, h => by
  unfold bindL
  rw [IK fun w hw => h w (List.mem_cons_of_mem _ hw)]
  split
  ·have : x ≠ n := by rintro rfl; exact h v List.mem_cons_self
   simp [this]
  ·rfl
theorem IV {kindOf : Str → Option NameKind} {x : Str} : ∀ {binds : List (Str × Value)} {m : Str → Option Value}, (∀ v, (x, v) ∉ binds) → bindC kindOf binds m x = m x
 | [], _, _ => rfl
 | (n, v) :: r, m, h => by
  unfold bindC
  rw [IV fun w hw => h w (List.mem_cons_of_mem _ hw)]
  split
  ·rfl
  ·have : x ≠ n := by rintro rfl; exact h v List.mem_cons_self
   simp [this]
theorem IW {kindOf : Str → Option NameKind} {x : Str} {v : Value} : ∀ {P : List Str} {vs : List Value} {i : Nat} {m : Str → Option Value}, P.Nodup → P[i]? = some x → vs[i]? = some v → kindOf x = some .local →
  bindL kindOf (P.zip vs) m x = some v
 | [], _, _, _, _, h, _, _ => by simp at h
 | _ :: _, [], _, _, _, _, h, _ => by simp at h
 | p :: P, w :: vs, 0, m, nd, h1, h2, hk => by
  simp at h1 h2; subst h1; subst h2
  show bindL kindOf ((p, w) :: P.zip vs) m p = _
  unfold bindL
  rw [IK fun v hv => (List.nodup_cons.mp nd).1 (List.of_mem_zip hv).1, if_pos hk]
  simp
 | p :: P, w :: vs, i + 1, m, nd, h1, h2, hk => by
  show bindL kindOf ((p, w) :: P.zip vs) m x = _
  unfold bindL
  exact IW (i := i) (List.nodup_cons.mp nd).2 (by simpa using h1) (by simpa using h2) hk
theorem Ia {kindOf : Str → Option NameKind} {x : Str} {v : Value} : ∀ {P : List Str} {vs : List Value} {i : Nat} {m : Str → Option Value}, P.Nodup → P[i]? = some x → vs[i]? = some v → kindOf x ≠ some .local →
  bindC kindOf (P.zip vs) m x = some v
 | [], _, _, _, _, h, _, _ => by simp at h
 | _ :: _, [], _, _, _, _, h, _ => by simp at h
 | p :: P, w :: vs, 0, m, nd, h1, h2, hk => by
  simp at h1 h2; subst h1; subst h2
  show bindC kindOf ((p, w) :: P.zip vs) m p = _
  unfold bindC
  rw [IV fun v hv => (List.nodup_cons.mp nd).1 (List.of_mem_zip hv).1, if_neg hk]
  simp
 | p :: P, w :: vs, i + 1, m, nd, h1, h2, hk => by
  show bindC kindOf ((p, w) :: P.zip vs) m x = _
  unfold bindC
  exact Ia (i := i) (List.nodup_cons.mp nd).2 (by simpa using h1) (by simpa using h2) hk
def start (N : List Str) (vs : List V) : St := vs.map some ++ List.replicate (N.length - vs.length) none
def cxOf (CX : CXT) (P : Program) (w : World) (K : PySem.W.Frag) (mg : Str → Option Value) (base : Heap) (N : List Str) (qual : Str) (scope : Scope) (f : Addr) (cd : Value) (A : Around) (outer : List Env) (s : Shared) (H : Hp) (E : XK) : Cx where
 prog := P
 w := w
 K := K
 mg := mg
 base := base
 A := A.deeper (envOfC qual scope s.heap.objs.size f cd)
 N := N
 s₀ := s
 H₀ := H
 env := envOfC qual scope s.heap.objs.size f cd
 outer := outer
 stack := envOfC qual scope s.heap.objs.size f cd :: outer
 ex := []
 calm := true
 fn := fun _ => true
 pn := []
 xe := fun e s' => wpAny (model P w) (A.deeper (envOfC qual scope s.heap.objs.size f cd)) (leaving (envOfC qual scope s.heap.objs.size f cd) e) (fun _ s'' => CX outer H s E e s'') (fun e' s'' => CX outer H s E e' s'') s'
theorem Jk {sc : Scope} {n : Nat} {x : Str} (h : sc.names.lookup x = some .cell) : ∃ c, (cellsFrom n sc.names []).lookup x = some c := by
 have q := PySem.W.cellsFrom_some sc.names n [] (.inl h)
 exact Option.isSome_iff_exists.mp q
theorem Mu {CX : CXT} {P : Program} {w : World} {K : PySem.W.Frag} {mg : Str → Option Value} {base : Heap} {N ps : List Str} {qual : Str} {scope : Scope} {f : Addr} {cd : Value} {A : Around} {outer : List Env} {s s1 : Shared} {H : Hp} {E : XK} {us : List Value} {vs : List V}
  (S : FnScope N ps scope) (hd : A.handled = none) (e0 : Env0 P w K mg base A outer s H) (hl : vs.length = ps.length) (r : Vals vs us)
  (x : InCallC s s.heap.objs.size (bindL (envOfC qual scope s.heap.objs.size f cd).kindOf (ps.zip us) fun _ => none) (cellsFrom (s.heap.objs.size + 1) scope.names []) (bindC (envOfC qual scope s.heap.objs.size f cd).kindOf (ps.zip us) fun _ => none) s1) :
  Inv (cxOf CX P w K mg base N qual scope f cd A outer s H E) [] (start N vs) H s1 := by
 have hpl : ps.length ≤ N.length := by have := congrArg List.length S.pre; rw [List.length_take] at this; omega
 obtain ⟨h1, tk, rfl, hk⟩ := x.done
 have noA : ∀ b : Addr, b ∉ (cxOf CX P w K mg base N qual scope f cd A outer s H E).ex := fun b z => absurd (show b ∈ ([] : List Addr) from z) (by simp)
 refine ⟨⟨e0.mod, S.kind, rfl, rfl, Nat.le_refl _, fun y z c h1 h2 => ?_, fun y hy => ?_, fun y c _ h => ?_, fun _ => hd, Around.frames_deeper e0.frames, .inr ⟨rfl, rfl⟩, fun b z => absurd z (noA b), e0.bs, e0.bsz, fun b _ _ => noA b, fun b z => absurd z (noA b), e0.funs, e0.frf⟩,
  rfl, e0.bare, Un.kept hk, ⟨_, x.toInCall.ns, fun i y v h1 h2 h3 => ?_⟩, fun y c h => ⟨_, x.cell y c h⟩, e0.hok.fresh (Nat.le_refl _), fun y c h => ?_, fun p hp => absurd (show p ∈ ([] : List (Addr × Obj)) from hp) (by simp), e0.hok.kept hk, ?_⟩
 ·exact name_of_addr x.apart (PySem.mem_of_lookup h1) (PySem.mem_of_lookup h2)
 ·have hy : scope.names.lookup y = some .cell ∨ scope.names.lookup y = some .free := hy
  rcases hy with hy | hy
  ·exact Jk hy
  ·exact absurd rfl (S.nofree _ (PySem.mem_of_lookup hy))
 ·exact Nat.le_of_lt (x.above y c (PySem.mem_of_lookup h))
 ·have hi : i < vs.length := by
   unfold start at h2
   by_cases hi : i < vs.length
   ·exact hi
   ·rw [List.getElem?_append_right (by simpa using hi)] at h2
    rw [List.getElem?_replicate] at h2
    split at h2 <;> cases h2
  have ha : vs[i]? = some v := by
   unfold start at h2
   rw [List.getElem?_append_left (by simpa using hi), List.getElem?_map] at h2
   cases e : vs[i]? with
   | none => rw [e] at h2; cases h2
   | some a => rw [e] at h2; cases h2; rfl
  obtain ⟨u, hu, rv⟩ := r.get ha
  have hp : ps[i]? = some y := by
   rw [← S.pre, List.getElem?_take_of_lt (by omega)]; exact h1
  have ndP : ps.Nodup := by rw [← S.pre]; exact S.nd.sublist (List.take_sublist _ _)
  refine ⟨u, rv, ?_⟩
  rcases S.par y (List.mem_of_getElem? hp) with k | k
  ·exact .inl ⟨k, IW ndP hp hu k⟩
  ·obtain ⟨c, e⟩ := Jk (n := s.heap.objs.size + 1) k
   refine .inr ⟨.inl k, c, e, ?_⟩
   have q := x.cell y c e
   rw [Ia ndP hp hu (by show scope.names.lookup y ≠ _; rw [k]; decide)] at q
   exact q
 ·exact e0.hok.fresh (Nat.le_of_lt (x.above y c (PySem.mem_of_lookup h)))
 ·unfold start
  show _ = N.length
  rw [List.length_append, List.length_map, List.length_replicate]
  omega
theorem K6 {CX : CXT} {P : Program} {w : World} {K : PySem.W.Frag} {mg : Str → Option Value} {base : Heap} {k : Nat} {f : Addr} {name qual : Str} {params : Arguments} {body : List Stmt} {scope : Scope} {dV kV doc pm cdv ct oc : Value} {an od : Option Addr}
  {osl : Array (Option Value)} {N ps : List Str} {sp : Sp} (lk : K.lookup f = some ⟨oc, od, .func (PySem.W.fnOf name qual params body scope dV kV doc pm an cdv ct), osl⟩) (hcd : PySem.W.codeIn K cdv qual = true) (S : FnScope N ps scope)
  (len : ∀ vs H Q E, sp vs H Q E → vs.length = ps.length)
  (hbody : ∀ (A : Around) (outer : List Env) (s : Shared) (H : Hp) (vs : List V) (Q : VK) (E : XK), Room k (A.deeper (envOfC qual scope s.heap.objs.size f cdv)) → sp vs H Q E →
   ∃ t, PSs (cxOf CX P w K mg base N qual scope f cdv A outer s H E) body t ∧ t { nx := fun _ H' => Q .non H', rt := Q } (start N vs) H) :
  FnOk P w K mg base CX (k + 1) f (PySem.W.fnOf name qual params body scope dV kV doc pm an cdv ct) ps sp := by
 refine ⟨len, fun A outer s H args us vs Q E hr e0 hb r hsp => ?_⟩
 have hl := len _ _ _ _ hsp
 have KX : K.In s.heap := e0.mod.kin.keeps fun b o e => (e0.bs b o e).1
 have lim : s.heap.NoLimit := e0.mod.nolimit.keeps fun b o e => (e0.bs b o e).1
 have hkind : ∀ y ∈ ps.zip us, scope.names.lookup y.1 = some .local ∨ (scope.names.lookup y.1 = some .cell ∧ ((cellsFrom (s.heap.objs.size + 1) scope.names []).lookup y.1).isSome = true) := fun ⟨n, v⟩ hy => by
  rcases S.par n (List.of_mem_zip hy).1 with q | q
  ·exact .inl q
  ·exact .inr ⟨q, PySem.W.cellsFrom_some _ _ _ (.inl q)⟩
 refine codeAny_call_function hr.depth (KX _ _ lk) rfl S.co S.gen rfl (PySem.W.codeRec_of KX hcd) (hb _ _ _ _ ?_)
 refine wpAny_newFunctionEnv_cells S.kind hkind fun env he s1 x => ?_
 subst he
 refine ⟨lim.keeps x.toInCall.keep, codeAny_func ?_⟩
 obtain ⟨t, ht, hq⟩ := hbody A outer s H vs Q E (hr.deeper _) hsp
 have I : Inv (cxOf CX P w K mg base N qual scope f cdv A outer s H E) [] (start N vs) H s1 := Mu S hr.hd e0 hl r x
 refine wpAny_mono (ht [] s1 (start N vs) H _ I hq) (fun fl s' hs => ?_) fun e s' hs => hs
 have fin : ∀ {σ' : St} {H' : Hp} {v : V} {u : Value}, Inv (cxOf CX P w K mg base N qual scope f cdv A outer s H E) [] σ' H' s' → RelV v u → Q v H' → CE outer P w H s Q u s' :=
  fun {σ' H' v u} J rv q => ⟨v, H', J.os, J.bare, J.base, J.hok, rv, q⟩
 cases fl with
 | ret u =>
  obtain ⟨v, σ', H', J, rv, q⟩ := hs
  exact fin J rv q
 | next =>
  obtain ⟨σ', H', J, q⟩ := hs
  exact fin (v := V.non) (u := Value.none) J rfl q
 | brk =>
  obtain ⟨_, _, _, q⟩ := hs
  exact False.elim q
 | cont =>
  obtain ⟨_, _, _, q⟩ := hs
  exact False.elim q
end L2
namespace L2
open PySem PySem.Spec PyProof.Rows
section
variable {X : Cx} {x : Str} {p pos : Pos} {e : Expr} {es : List Expr} {t : TA} {id T : String} {r : List V → Hp → VK → Prop}
def tCB (r : List V → Hp → VK → Prop) (t : TA) : TE := fun σ H Q => t σ H fun vs H1 => r vs H1 Q
theorem Jl (hc : Ej X (.builtin id) r) (hg : Gl X x) (hm : X.mg x = none) (hv : bootBuiltins x = some (.builtin id)) (ha : PA X (e :: es) t) (hn : x ≠ "__name__" := by decide) (hdb : (x == ("__debug__" : Str)) = false := by decide)
  (he : starEach (e :: es) X.env = (false, eval e X.env) :: starEach es X.env := by rfl) (hpl : (backTo pos (starEach es X.env)).any (·.1) = false := by rfl) : PE X (.Call (.Name x p) (e :: es) [] pos) (tCB r t) := by
 intro pins s σ H Q I h
 refine wpAny_Call_Name_kw (Ng I hg hm hv ?_ hn hdb)
 exact PyProof.Rows.callWith_builtin1 (thn (ha pos pins s σ H _ I h) fun us s1 ⟨vs, H1, I1, r1, q1⟩ => hc pins s1 σ H1 vs us Q I1 r1 q1) he hpl
end
end L2
namespace HT
open PySem PyProof.Rows
section
open PySem.SeqAt
open PySem.AutoSeq1 (wpAny_loadPart')
open PySem.MeetsSeq PySem.MeetsSeq2 PySem.MeetsSeq3
end
section
variable {prog : Program} {w : World} {A : Around} {E : Value → Shared → Prop} {s : Shared}
def sIx (n d : Nat) : Option Int → Nat
 | none => d
 | some v => if v < 0 then (v + (n : Int)).toNat else min v.toNat n
theorem Uu (n d : Nat) (hd : d ≤ n) (o : Option Int) : sIx n d o ≤ n := by
 cases o with
 | none => exact hd
 | some v =>
  show (if v < 0 then (v + (n : Int)).toNat else min v.toNat n) ≤ n
  by_cases hv : v < 0
  ·rw [if_pos hv]; omega
  ·rw [if_neg hv]; exact Nat.min_le_right _ _
theorem K7 (v : Int) (n d : Nat) : (if v < 0 then max (v + (n : Int)) 0 else min v (n : Int)) = ((sIx n d (some v) : Nat) : Int) := by
 show (if v < 0 then max (v + (n : Int)) 0 else min v (n : Int)) = (((if v < 0 then (v + (n : Int)).toNat else min v.toNat n) : Nat) : Int)
 by_cases hv : v < 0
 ·simp only [if_pos hv]; omega
 ·simp only [if_neg hv]; omega
theorem Kc (lo hi : Option Int) (n : Nat) : Builtin.Slice.sliceAdjust lo hi 1 (n : Int) = (((sIx n 0 lo : Nat) : Int), ((sIx n n hi : Nat) : Int)) := by
 have h1 : ¬ ((1 : Int) < 0) := by omega
 unfold Builtin.Slice.sliceAdjust
 simp only [h1, if_false]
 refine Prod.ext ?_ ?_
 ·cases lo with
  | none => rfl
  | some v => exact K7 v n 0
 ·cases hi with
  | none => rfl
  | some v => exact K7 v n n
theorem Kd (i j : Nat) : Builtin.Slice.slicePlaces (i : Int) (j : Int) 1 = j - i := by
 unfold Builtin.Slice.slicePlaces
 have h1 : (1 : Int) > 0 := by omega
 simp only [h1, if_true, Int.ediv_one]
 split <;> omega
theorem HD {v : Value} {o : Option Int} {Q : Option Int → Shared → Prop} (p : IsPart v o) (h : Q o s) : wpAny (model prog w) A (Builtin.Slice.slicePartIndex v) Q E s := by
 cases p with
 | none => exact slicePart_none h
 | int i t => exact slicePart_int h
theorem Gf {sl : Addr} {vl vu : Value} {lo hi : Option Int} {n : Nat} {Q : Int × Int × Nat → Shared → Prop} (hs : s.heap.IsSliceOf sl vl vu .none) (pl : IsPart vl lo) (pu : IsPart vu hi)
  (h : Q (((sIx n 0 lo : Nat) : Int), 1, sIx n n hi - sIx n 0 lo) s) : wpAny (model prog w) A (Builtin.Slice.sliceApplied (.ref sl) (pure (n : Int))) Q E s := by
 obtain ⟨os, hos, hcs, hds⟩ := id hs
 unfold Builtin.Slice.sliceApplied Builtin.Slice.sliceFields
 refine wpAny_bind (wpAny_bind (wpAny_field hos hds (x := vl) rfl (wpAny_bind (wpAny_field hos hds (x := vu) rfl (wpAny_bind (wpAny_field hos hds (x := .none) rfl (wpAny_pure ?_)))))))
 refine wpAny_bind (slicePart_none ?_)
 show wpAny _ _ (if ((1 : Int) == 0) = true then _ else _) _ _ s
 rw [if_neg (by decide)]
 refine wpAny_bind (HD pl (wpAny_bind (HD pu (wpAny_bind (wpAny_pure ?_)))))
 show wpAny _ _ (match Builtin.Slice.sliceAdjust lo hi 1 (n : Int) with | (lo, hi) => pure (lo, (1 : Int), Builtin.Slice.slicePlaces lo hi 1)) _ _ s
 rw [Kc lo hi n]
 show wpAny _ _ (pure (((sIx n 0 lo : Nat) : Int), (1 : Int), Builtin.Slice.slicePlaces ((sIx n 0 lo : Nat) : Int) ((sIx n n hi : Nat) : Int) 1)) _ _ s
 rw [Kd]
 exact wpAny_pure h
theorem Nv (xs : Array Value) (i k : Nat) : ((List.range k).filterMap fun (m : Nat) => xs[((i : Int) + (m : Int) * 1).toNat]?).toArray = ((xs.toList.drop i).take k).toArray := by
 have e : (fun (m : Nat) => xs[((i : Int) + (m : Int) * 1).toNat]?) = fun m => xs[i + m]? := by
  funext m
  have : ((i : Int) + (m : Int) * 1).toNat = i + m := by omega
  rw [this]
 rw [e]
 have := pick_run xs i k
 rw [List.filterMap_map] at this
 have e2 : ((fun x => xs[x]?) ∘ fun x => i + x) = fun m => xs[i + m]? := rfl
 rw [e2] at this
 rw [this]
theorem GJ {t sl : Addr} {items : Array Value} {vl vu : Value} {lo hi : Option Int} {Q : Value → Shared → Prop} (ht : IsTup s.heap t items) (hs : s.heap.IsSliceOf sl vl vu .none) (pl : IsPart vl lo) (pu : IsPart vu hi)
  (hw : ¬ (sIx items.size 0 lo = 0 ∧ sIx items.size items.size hi = items.size))
  (h : Q (.ref s.heap.objs.size) { s with heap := s.heap.push { cls := .type "tuple", data := .seq ((items.toList.drop (sIx items.size 0 lo)).take (sIx items.size items.size hi - sIx items.size 0 lo)).toArray } })
  (hsz : items.size ≤ sizeLine) : wpAny (model prog w) A (getItem (.ref t) (.ref sl)) Q E s := by
 have htake : sizeOk (.seq ((items.toList.drop (sIx items.size 0 lo)).take (sIx items.size items.size hi - sIx items.size 0 lo)).toArray) := by
  show ((items.toList.drop (sIx items.size 0 lo)).take (sIx items.size items.size hi - sIx items.size 0 lo)).toArray.size ≤ sizeLine
  rw [List.size_toArray, List.length_take, List.length_drop, Array.length_toList]
  omega
 have hj : sIx items.size items.size hi ≤ items.size := Uu _ _ (Nat.le_refl _) hi
 obtain ⟨os, hos, hcs, hds⟩ := id hs
 have hTs : s.TypeIs (.ref sl) "slice" := ⟨os, hos, hcs⟩
 unfold getItem
 try with_reducible refine wpAny_holding ?_
 first | refine wpAny_bind (wpAny_pure ?_) | skip
 refine wpAny_bind (wpAny_sequenceKey ht.typeIs (by decide) ?_)
 refine wpAny_bind (wpAny_callSpecial?_slot (name := Str.ofString "__getitem__") ht.typeIs PyProof.Rows.slot_tuple_getitem
  (wpAny_call_entry PyProof.Rows.slot_tuple_getitem ht.typeIs entry_tuple_getitem ?_ (args_tuple_getitem _ _)))
 show wpAny _ _ (Builtin.Tuple.tupleItemsOf (.ref t) >>= _) _ _ s
 refine wpAny_bind (tupleItemsOf_ ht ?_)
 refine wpAny_bind (wpAny_typeOf hTs ?_)
 rw [if_pos (by decide)]
 refine wpAny_bind (Gf hs pl pu ?_)
 have hno : ¬ ((((sIx items.size 0 lo : Nat) : Int) == 0 && (1 : Int) == 1 && (sIx items.size items.size hi - sIx items.size 0 lo) == items.size) = true) := by
  intro q
  rw [Bool.and_eq_true, Bool.and_eq_true] at q
  have q1 : ((sIx items.size 0 lo : Nat) : Int) = 0 := eq_of_beq q.1.1
  have q2 : sIx items.size items.size hi - sIx items.size 0 lo = items.size := eq_of_beq q.2
  exact hw ⟨by omega, by omega⟩
 show wpAny _ _ (if (((sIx items.size 0 lo : Nat) : Int) == 0 && (1 : Int) == 1 && (sIx items.size items.size hi - sIx items.size 0 lo) == items.size) = true then _ else _) _ _ s
 rw [if_neg hno, Nv]
 first
  | exact wpAny_bind (m := Builtin.Tuple.tupleExact _) (wpAny_newObj_type (wpAny_pure ⟨_, rfl, wpAny_pure h⟩) htake)
  | exact wpAny_bind (m := Builtin.Tuple.tupleExact _) (wpAny_newObj_type (wpAny_bind (wpAny_pure (wpAny_pure ⟨_, rfl, wpAny_pure h⟩))) htake)
  | exact wpAny_bind (wpAny_bind (m := Builtin.Tuple.tupleExact _) (wpAny_newObj_type (wpAny_pure (wpAny_pure ⟨_, rfl, wpAny_pure h⟩)) htake))
  | exact wpAny_bind (wpAny_bind (m := Builtin.Tuple.tupleExact _) (wpAny_newObj_type (wpAny_pure ⟨_, rfl, wpAny_pure h⟩) htake))
end
end HT
namespace L2
open PySem PySem.Spec PyProof.Rows
abbrev TO := St → Hp → (Option Int → Hp → Prop) → Prop
def PO (X : Cx) (e : Option Expr) (t : TO) : Prop :=
 ∀ (pins : List (Addr × Obj)) (s : Shared) (σ : St) (H : Hp) (Q : Option Int → Hp → Prop), Inv X pins σ H s → t σ H Q →
  wpAny (model X.prog X.w) X.A (evalPart e X.env) (fun u s' => ∃ o H', Inv X pins σ H' s' ∧ IsPart u o ∧ Q o H') X.xe s
def RD : TO := fun _ H Q => Q none H
def Vy (t : TE) : TO := fun σ H Q => t σ H fun x H1 => ∃ i, x = .int i ∧ Q (some i) H1
section
variable {X : Cx} {e : Expr} {te : TE} {lo hi : Option Expr} {tl th : TO} {pos p2 : Pos}
theorem RG : PO X none RD := by
 intro pins s σ H Q I h
 rw [evalPart_none]
 exact wpAny_pure ⟨none, H, I, .none, h⟩
theorem RJ (h : PE X e te) : PO X (some e) (Vy te) := by
 intro pins s σ H Q I hw
 rw [evalPart_some]
 refine thn (h pins s σ H _ I hw) fun u s1 ⟨x, H1, I1, r1, q1⟩ => ?_
 obtain ⟨i, rfl, q⟩ := q1
 obtain ⟨t, rfl⟩ := r1
 exact ⟨some i, H1, I1, .int i t, q⟩
def SlR (X : Cx) (r : V → Option Int → Option Int → Hp → VK → Prop) : Prop :=
 ∀ (pins : List (Addr × Obj)) (s : Shared) (σ : St) (H : Hp) (x : V) (v vl vu : Value) (lo hi : Option Int) (sl : Addr) (Q : VK), Inv X pins σ H s → RelV x v → s.heap.IsSliceOf sl vl vu .none → IsPart vl lo → IsPart vu hi → r x lo hi H Q →
  ∃ T id, typeLookup (.type T) "__getitem__" = pure (some (.builtin id)) ∧ s.TypeIs v T ∧ wpAny (model X.prog X.w) X.A (getItem v (.ref sl)) (EP X pins σ Q) X.xe s
theorem SlR.or {r r' : V → Option Int → Option Int → Hp → VK → Prop} (h : SlR X r) (h' : SlR X r') : SlR X (fun x lo hi H Q => r x lo hi H Q ∨ r' x lo hi H Q) := by
 intro pins s σ H x v vl vu lo hi sl Q I rx hs pl pu q
 rcases q with q | q
 ·exact h pins s σ H x v vl vu lo hi sl Q I rx hs pl pu q
 ·exact h' pins s σ H x v vl vu lo hi sl Q I rx hs pl pu q
def tSl (r : V → Option Int → Option Int → Hp → VK → Prop) (te : TE) (tl th : TO) : TE := fun σ H Q => te σ H fun x H1 => tl σ H1 fun l H2 => th σ H2 fun u H3 => r x l u H3 Q
theorem Nx {r : V → Option Int → Option Int → Hp → VK → Prop} (hr : SlR X r) (he : PE X e te) (hl : PO X lo tl) (hu : PO X hi th) : PE X (.Subscript e (.Slice lo hi none p2) pos) (tSl r te tl th) := by
 intro pins s σ H Q I h
 refine Subscript_ (thn (he pins s σ H _ I h) fun v s1 ⟨x, H1, I1, r1, q1⟩ => ?_)
 refine wpAny_Slice (thn (hl pins s1 σ H1 _ I1 q1) fun vl s2 ⟨l, H2, I2, pl, q2⟩ => thn (hu pins s2 σ H2 _ I2 q2) fun vu s3 ⟨u, H3, I3, pu, q3⟩ => ?_)
 rw [evalPart_none]
 refine wpAny_pure ?_
 have I4 : Inv X pins σ H3 { s3 with heap := s3.heap.push { cls := .type "slice", data := .fields #[vl, vu, .none] } } := I3.kept (t' := s3.toks) fun b ob q => Heap.get?_push_of_some _ q
 obtain ⟨T, id, hT, ht, hg⟩ := hr pins { s3 with heap := s3.heap.push { cls := .type "slice", data := .fields #[vl, vu, .none] } } σ H3 x v vl vu l u s3.heap.objs.size Q I4 r1 (Heap.IsSliceOf.new ..) pl pu q3
 show wpAny (model X.prog X.w) X.A (subscriptTail e (.Slice lo hi none p2) v (.ref s3.heap.objs.size)) (EP X pins σ Q) X.xe { s3 with heap := s3.heap.push { cls := .type "slice", data := .fields #[vl, vu, .none] } }
 exact tail_any (ops := [.ref s3.heap.objs.size, v]) ht hT hg (by with_unfolding_all rfl)
def cutV (xs : List V) (lo hi : Option Int) : List V := (xs.drop (HT.sIx xs.length 0 lo)).take (HT.sIx xs.length xs.length hi - HT.sIx xs.length 0 lo)
theorem Gq (xs : List V) (lo hi : Option Int) : (cutV xs lo hi).length ≤ xs.length := by
 unfold cutV
 rw [List.length_take, List.length_drop]
 omega
def rSlT (K : PySem.W.Frag) : V → Option Int → Option Int → Hp → VK → Prop := fun x lo hi H Q => ∃ a xs, x = .ref a ∧ SqT K H a xs ∧
 ¬ (HT.sIx xs.length 0 lo = 0 ∧ HT.sIx xs.length xs.length hi = xs.length) ∧ ∀ p, H p = none → Q (.ref p) (upd H p (.tup (cutV xs lo hi)))
theorem Uv : SlR X (rSlT X.K) := by
 intro pins s σ H x v vl vu lo hi sl Q I rx hs pl pu h
 obtain ⟨a, xs, rfl, hx, hw, q⟩ := h
 cases rx
 obtain ⟨its, r, ht, hz⟩ := I.tuple hx
 have hlen : its.toArray.size = xs.length := by rw [List.size_toArray]; exact r.length.symm
 refine ⟨"tuple", _, PyProof.Rows.slot_tuple_getitem.lookup, ht.typeIs, ?_⟩
 refine HT.GJ ht hs pl pu (by rw [hlen]; exact hw) ?_ (by rw [hlen]; exact hz)
 rw [hlen]
 refine ⟨.ref s.heap.objs.size, _, I.laid (t' := s.toks) (o := .tup (cutV xs lo hi)) (fun b ob q => Heap.get?_push_of_some _ q) (Nat.le_refl _) ?_, rfl, q _ (I.hok.fresh (Nat.le_refl _))⟩
 exact ⟨Nat.le_trans (Gq xs lo hi) hz, _, (r.drop (HT.sIx xs.length 0 lo)).take (HT.sIx xs.length xs.length hi - HT.sIx xs.length 0 lo), IsTup.new _ _⟩
end
end L2
namespace L2
open PySem PySem.Spec PyProof.Rows
def ixN (n : Nat) (i : Int) : Option Nat := if 0 ≤ i then (if i < n then some i.toNat else none) else if -(n : Int) ≤ i then some (i + n).toNat else none
def atI {α : Type} (xs : List α) (i : Int) : Option α := (ixN xs.length i).bind fun j => xs[j]?
theorem RK {n : Nat} {i : Int} {j : Nat} (h : ixN n i = some j) : seqIndex? i n = some j ∧ j < n ∧ -(n : Int) ≤ i ∧ i < n := by
 unfold ixN at h
 by_cases h0 : 0 ≤ i
 ·rw [if_pos h0] at h
  by_cases h1 : i < n
  ·rw [if_pos h1] at h
   have e : i.toNat = j := Option.some.inj h
   exact ⟨by rw [seqIndex_of h0 h1, e], by omega, by omega, h1⟩
  ·rw [if_neg h1] at h; cases h
 ·rw [if_neg h0] at h
  by_cases h1 : -(n : Int) ≤ i
  ·rw [if_pos h1] at h
   have e : (i + n).toNat = j := Option.some.inj h
   exact ⟨by rw [seqIndex_neg (by omega) h1, e], by omega, h1, by omega⟩
  ·rw [if_neg h1] at h; cases h
theorem JB {α : Type} {xs : List α} {i : Int} {v : α} (h : atI xs i = some v) : ∃ j, seqIndex? i xs.length = some j ∧ xs[j]? = some v ∧ j < xs.length ∧ -(xs.length : Int) ≤ i ∧ i < xs.length := by
 unfold atI at h
 cases e : ixN xs.length i with
 | none => rw [e] at h; cases h
 | some j =>
  rw [e] at h
  obtain ⟨h1, h2, h3, h4⟩ := RK e
  exact ⟨j, h1, h, h2, h3, h4⟩
def JC (b : Expr) : Prop := ∀ o i, subscripted b false o i = operate [o, i] (getItem o i)
def IxR (X : Cx) (r : R2) : Prop :=
 ∀ (value slice : Expr) (pins : List (Addr × Obj)) (s : Shared) (σ : St) (H : Hp) (x y : V) (v u : Value) (Q : VK), Inv X pins σ H s → RelV x v → RelV y u → r x y H Q →
  subscripted slice false v u = operate [v, u] (getItem v u) → wpAny (model X.prog X.w) X.A (subscriptTail value slice v u) (EP X pins σ Q) X.xe s
def MtR (X : Cx) (id : String) (r : V → List V → Hp → VK → Prop) : Prop :=
 ∀ (pins : List (Addr × Obj)) (s : Shared) (σ : St) (H : Hp) (x : V) (xs : List V) (v : Value) (us : List Value) (Q : VK), Inv X pins σ H s → RelV x v → Vals xs us → r x xs H Q →
  wpAny (model X.prog X.w) X.A (call (.builtin id) (v :: us)) (EP X pins σ Q) X.xe s
section
variable {X : Cx} {a b : Expr} {ta tb : TE} {pos : Pos}
theorem IxR.or {r r' : R2} (h : IxR X r) (h' : IxR X r') : IxR X (fun x y H Q => r x y H Q ∨ r' x y H Q) := by
 intro value slice pins s σ H x y v u Q I rx ry q hs
 rcases q with q | q
 ·exact h value slice pins s σ H x y v u Q I rx ry q hs
 ·exact h' value slice pins s σ H x y v u Q I rx ry q hs
theorem MtR.or {id : String} {r r' : V → List V → Hp → VK → Prop} (h : MtR X id r) (h' : MtR X id r') : MtR X id (fun x xs H Q => r x xs H Q ∨ r' x xs H Q) := by
 intro pins s σ H x xs v us Q I rx rs q
 rcases q with q | q
 ·exact h pins s σ H x xs v us Q I rx rs q
 ·exact h' pins s σ H x xs v us Q I rx rs q
theorem Vz {r : R2} (hr : IxR X r) (ha : PE X a ta) (hb : PE X b tb) (hs : JC b) : PE X (.Subscript a b pos) (tOp r ta tb) := by
 intro pins s σ H Q I h
 exact Subscript_ (binT ha hb I h fun v u s2 x y H2 I2 rx ry q => hr a b pins s2 σ H2 x y v u Q I2 rx ry q (hs _ _))
def rIxL (K : PySem.W.Frag) : R2 := fun x y H Q => ∃ p xs i v, x = .ref p ∧ y = .int i ∧ SqL K H p xs ∧ atI xs i = some v ∧ Q v H
def rIxT (K : PySem.W.Frag) : R2 := fun x y H Q => ∃ p xs i v, x = .ref p ∧ y = .int i ∧ SqT K H p xs ∧ atI xs i = some v ∧ Q v H
def rIxS : R2 := fun x y H Q => ∃ z i c, x = .str z ∧ y = .int i ∧ z.length ≤ sizeLine ∧ atI z.cps.toList i = some c ∧ Q (.str ⟨#[c]⟩) H
theorem RL : IxR X (rIxL X.K) := by
 intro value slice pins s σ H x y v u Q I rx ry h hs
 obtain ⟨p, xs, i, z, rfl, rfl, hq, he, q⟩ := h
 cases rx
 obtain ⟨t, rfl⟩ := ry
 obtain ⟨its, r, pl, hz⟩ := I.list hq
 obtain ⟨j, h1, h2, h3, h4, h5⟩ := JB he
 obtain ⟨w, ew, rw'⟩ := r.get h2
 have hl := r.length
 have hn := HB
 have fin : EP X pins σ Q w s := ⟨z, H, I, rw', q⟩
 by_cases h0 : 0 ≤ i
 ·have hj : i.toNat = j := by
   rw [seqIndex_of h0 h5] at h1
   exact Option.some.inj h1
  exact item_listR pl.isList h0 (by omega) (by rw [hj]; simpa using ew) fin hs
 ·have hj : (i + (its.toArray.size : Int)).toNat = j := by
   rw [seqIndex_neg (by omega) h4] at h1
   rw [List.size_toArray, ← hl]
   exact Option.some.inj h1
  exact subscriptTail_builtinR (x := w) pl.isList.typeIs slot_list_getitem.lookup
   (wpAny_getItem_list_neg (Q := fun r s' => r = w ∧ EP X pins σ Q r s') pl.isList (by omega) (by rw [List.size_toArray] <;> omega) (by omega) (by rw [hj]; simpa using ew) ⟨rfl, fin⟩) hs
theorem Uw : IxR X (rIxT X.K) := by
 intro value slice pins s σ H x y v u Q I rx ry h hs
 obtain ⟨p, xs, i, z, rfl, rfl, hq, he, q⟩ := h
 cases rx
 obtain ⟨t, rfl⟩ := ry
 obtain ⟨its, r, pl, hz⟩ := I.tuple hq
 obtain ⟨j, h1, h2, h3, h4, h5⟩ := JB he
 obtain ⟨w, ew, rw'⟩ := r.get h2
 have hl := r.length
 have hn := HB
 have fin : EP X pins σ Q w s := ⟨z, H, I, rw', q⟩
 exact subscriptTail_builtinR (x := w) pl.typeIs slot_tuple_getitem.lookup
  (getItem_tuple (j := j) (Q := fun r s' => r = w ∧ EP X pins σ Q r s') pl (by omega) (by omega) (by rw [List.size_toArray, ← hl]; exact h1) (by simpa using ew) ⟨rfl, fin⟩) hs
theorem Ux : IxR X rIxS := by
 intro value slice pins s σ H x y v u Q I rx ry h hs
 obtain ⟨z, i, c, rfl, rfl, hz, he, q⟩ := h
 obtain ⟨t, rfl⟩ := rx
 obtain ⟨t', rfl⟩ := ry
 obtain ⟨j, h1, h2, h3, h4, h5⟩ := JB he
 have hl : z.cps.toList.length = z.length := by simp [Str.length]
 rw [hl] at h1 h4 h5
 have hn := HB
 exact tail_any (typeIs_str s z t) slot_str_getitem.lookup (getItem_str (c := c) (by
  have e1 : decide (i < -(2 ^ 63 : Int)) = false := decide_eq_false (by omega)
  have e2 : decide (i ≥ 2 ^ 63) = false := decide_eq_false (by omega)
  rw [e1, e2, Bool.or_false]) (by rw [h1]; simpa using h2) ⟨.str ⟨#[c]⟩, H, I.tok _, ⟨_, rfl⟩, q⟩) hs
def rIx (K : PySem.W.Frag) : R2 := fun x y H Q => rIxL K x y H Q ∨ rIxT K x y H Q ∨ rIxS x y H Q
theorem Uy : IxR X (rIx X.K) := RL.or (Uw.or Ux)
theorem Inv.lst {pins : List (Addr × Obj)} {σ : St} {H : Hp} {s : Shared} {p : Addr} {xs : List V} (I : Inv X pins σ H s) (h : H p = some (.lst xs)) :
  ∃ (its : List Value) (n : Nat), Vals xs its ∧ s.heap.get? p = some { cls := .type "list", data := .seq its.toArray n } ∧ xs.length ≤ sizeLine := by
 obtain ⟨z, its, n, r, e⟩ := I.hok p _ h
 exact ⟨its, n, r, e, z⟩
theorem JD (lo hi : Option Int) (n : Nat) : (sliceBounds lo hi none n).1 = ((HT.sIx n 0 lo : Nat) : Int) ∧ (sliceBounds lo hi none n).2.1 = ((HT.sIx n n hi : Nat) : Int) ∧ (sliceBounds lo hi none n).2.2 = 1 := by
 refine ⟨?_, ?_, rfl⟩
 ·cases lo with
  | none => simp [sliceBounds, HT.sIx]
  | some i =>
   simp only [sliceBounds, HT.sIx, Option.getD_none, show (1 : Int) > 0 by decide, if_true]
   by_cases h : i < 0
   ·simp only [h, if_true] <;> omega
   ·simp only [h, if_false] <;> omega
 ·cases hi with
  | none => simp [sliceBounds, HT.sIx]
  | some i =>
   simp only [sliceBounds, HT.sIx, Option.getD_none, show (1 : Int) > 0 by decide, if_true]
   by_cases h : i < 0
   ·simp only [h, if_true] <;> omega
   ·simp only [h, if_false] <;> omega
theorem Hw (its : List Value) (lo hi : Option Int) : slicePick its.toArray lo hi none = ((its.drop (HT.sIx its.length 0 lo)).take (HT.sIx its.length its.length hi - HT.sIx its.length 0 lo)).toArray := by
 obtain ⟨h1, h2, h3⟩ := JD lo hi its.toArray.size
 unfold slicePick
 rw [h1, h2, h3]
 simp only [sliceRange_one, pick_run, List.size_toArray] <;> rfl
def rSlL (K : PySem.W.Frag) : V → Option Int → Option Int → Hp → VK → Prop := fun x lo hi H Q => ∃ a xs, x = .ref a ∧ SqL K H a xs ∧ ∀ p, H p = none → Q (.ref p) (upd H p (.lst (cutV xs lo hi)))
theorem RM : SlR X (rSlL X.K) := by
 intro pins s σ H x v vl vu lo hi sl Q I rx hs pl pu h
 obtain ⟨a, xs, rfl, hx, q⟩ := h
 cases rx
 obtain ⟨its, r, ht, hz⟩ := I.list hx
 have hlen := r.length
 refine ⟨"list", _, slot_list_getitem.lookup, ht.isList.typeIs, ?_⟩
 refine wpAny_getItem_list_slice ht.isList hs pl pu .none (by simp) ?_ (by rw [List.size_toArray] <;> omega)
 rw [Hw, ← hlen]
 refine ⟨.ref s.heap.objs.size, _, I.laid (t' := s.toks) (o := .lst (cutV xs lo hi)) (fun b ob q => Heap.get?_push_of_some _ q) (Nat.le_refl _) ?_, rfl, q _ (I.hok.fresh (Nat.le_refl _))⟩
 exact ⟨Nat.le_trans (Gq xs lo hi) hz, _, 0, (r.drop (HT.sIx xs.length 0 lo)).take (HT.sIx xs.length xs.length hi - HT.sIx xs.length 0 lo), Heap.get?_push_size _ rfl⟩
def Eg : V → Bool
 | .non => true
 | .bl _ => true
 | .int _ => true
 | .str _ => true
 | _ => false
def eqV : V → V → Bool
 | .non, .non => true
 | .bl a, .bl b => a == b
 | .bl a, .int b => (if a then 1 else 0) == b
 | .int a, .bl b => a == (if b then 1 else 0)
 | .int a, .int b => a == b
 | .str a, .str b => a == b
 | _, _ => false
theorem Ny {A : Around} {s : Shared} {y x : V} {u v : Value} (ry : RelV y u) (rx : RelV x v) (fy : Eg y = true) (fx : Eg x = true) : SeqAt.EqAt A s u v (eqV y x) := by
 cases y with
 | non =>
  cases ry
  cases x with
  | non => cases rx; exact SeqAt.EqAt.same _
  | bl b => cases rx; exact SeqAt.EqAt.none_bool b
  | int b => obtain ⟨t, rfl⟩ := rx; exact SeqAt.EqAt.none_int b t
  | str b => obtain ⟨t, rfl⟩ := rx; exact SeqAt.EqAt.none_str b t
  | _ => exact absurd (show false = true from fx) Bool.false_ne_true
 | bl a =>
  cases ry
  cases x with
  | non => cases rx; exact SeqAt.EqAt.bool_none a
  | bl b => cases rx; exact SeqAt.EqAt.bool_bool a b
  | int b => obtain ⟨t, rfl⟩ := rx; exact SeqAt.EqAt.bool_int a b t
  | str b => obtain ⟨t, rfl⟩ := rx; exact SeqAt.EqAt.bool_str a b t
  | _ => exact absurd (show false = true from fx) Bool.false_ne_true
 | int a =>
  obtain ⟨t', rfl⟩ := ry
  cases x with
  | non => cases rx; exact SeqAt.EqAt.int_none a t'
  | bl b => cases rx; exact SeqAt.EqAt.int_bool a t' b
  | int b => obtain ⟨t, rfl⟩ := rx; exact SeqAt.EqAt.int_int a t' b t
  | str b => obtain ⟨t, rfl⟩ := rx; exact SeqAt.EqAt.int_str a t' b t
  | _ => exact absurd (show false = true from fx) Bool.false_ne_true
 | str a =>
  obtain ⟨t', rfl⟩ := ry
  cases x with
  | non => cases rx; exact SeqAt.EqAt.str_none a t'
  | bl b => cases rx; exact SeqAt.EqAt.str_bool a t' b
  | int b => obtain ⟨t, rfl⟩ := rx; exact SeqAt.EqAt.str_int a t' b t
  | str b => obtain ⟨t, rfl⟩ := rx; exact SeqAt.EqAt.str_str a t' b t
  | _ => exact absurd (show false = true from fx) Bool.false_ne_true
 | _ => exact absurd (show false = true from fy) Bool.false_ne_true
def eqU (x : V) (u : Value) : Bool := match u with
 | .none => eqV .non x
 | .bool b => eqV (.bl b) x
 | .int i _ => eqV (.int i) x
 | .str z _ => eqV (.str z) x
 | _ => false
theorem Nz {x y : V} {u : Value} (r : RelV y u) (f : Eg y = true) : eqU x u = eqV y x := by
 cases y with
 | non => cases r; rfl
 | bl b => cases r; rfl
 | int i => obtain ⟨t, rfl⟩ := r; rfl
 | str z => obtain ⟨t, rfl⟩ := r; rfl
 | _ => exact absurd (show false = true from f) Bool.false_ne_true
theorem JF {x : V} : ∀ {xs : List V} {us : List Value}, Vals xs us → xs.all Eg = true → us.any (eqU x) = xs.any fun y => eqV y x
 | _, _, .nil, _ => rfl
 | y :: xs, u :: us, .cons r t, f => by
  rw [List.all_cons, Bool.and_eq_true] at f
  rw [List.any_cons, List.any_cons, Nz r f.1, JF t f.2]
theorem HF {A : Around} {s : Shared} {x : V} {v : Value} (rx : RelV x v) (fx : Eg x = true) : ∀ {xs : List V} {us : List Value}, Vals xs us → xs.all Eg = true → ∀ u ∈ us, SeqAt.EqAt A s u v (eqU x u)
 | _, _, .nil, _ => fun u hu => by cases hu
 | y :: xs, u :: us, .cons r t, f => fun u' hu => by
  rw [List.all_cons, Bool.and_eq_true] at f
  rcases List.mem_cons.mp hu with rfl | hu
  ·rw [Nz r f.1]; exact Ny r rx f.1 fx
  ·exact HF rx fx t f.2 u' hu
def inV (x : V) (xs : List V) : Bool := xs.any fun y => eqV y x
def rIn (K : PySem.W.Frag) (neg : Bool) : R2 := fun x y H Q => ∃ p xs, y = .ref p ∧ (SqL K H p xs ∨ SqT K H p xs) ∧ Eg x = true ∧ xs.all Eg = true ∧ Q (.bl (if neg then !inV x xs else inV x xs)) H
theorem Mv : OpR X (compareOp .In) (rIn X.K false) := by
 intro pins s σ H x y v u Q I rx ry h
 obtain ⟨p, xs, rfl, hq, fx, fs, q⟩ := h
 cases ry
 rcases hq with hq | hq
 ·obtain ⟨its, r, pl, hz⟩ := I.list hq
  refine SeqAt.in_listAt (eqU x) pl.isList (fun w hw => HF rx fx r fs w (by simpa using hw)) ⟨.bl _, H, I, rfl, ?_⟩
  rw [show its.toArray.any (eqU x) = its.any (eqU x) by simp, JF r fs]
  exact q
 ·obtain ⟨its, r, pl, hz⟩ := I.tuple hq
  refine SeqAt.in_tupleAt (eqU x) pl (fun w hw => HF rx fx r fs w (by simpa using hw)) ⟨.bl _, H, I, rfl, ?_⟩
  rw [show its.toArray.any (eqU x) = its.any (eqU x) by simp, JF r fs]
  exact q
theorem Ej.or {f : Value} {r r' : List V → Hp → VK → Prop} (h : Ej X f r) (h' : Ej X f r') : Ej X f (fun xs H Q => r xs H Q ∨ r' xs H Q) := by
 intro pins s σ H xs us Q I rs q
 rcases q with q | q
 ·exact h pins s σ H xs us Q I rs q
 ·exact h' pins s σ H xs us Q I rs q
variable {o e : Expr} {es : List Expr} {to : TE} {t : TA} {name : Str} {apos cpos : Pos} {T id : String} {r : V → List V → Hp → VK → Prop}
end
end L2
namespace L2
open PySem PySem.Spec PyProof.Rows
def MtM (X : Cx) (id : String) (r : V → List V → Hp → VK → Prop) : Prop :=
 ∀ (pins : List (Addr × Obj)) (s : Shared) (σ : St) (H : Hp) (x : V) (xs : List V) (v : Value) (us : List Value) (Q : VK), Inv X pins σ H s → RelV x v → Vals xs us → r x xs H Q →
  wpAny (model X.prog X.w) X.A (call (.builtin id) (v :: us)) (EP X pins σ Q) X.xe s
theorem Vals.one : ∀ {x : V} {us : List Value}, Vals [x] us → ∃ u, us = [u] ∧ RelV x u
 | _, _, .cons r .nil => ⟨_, rfl, r⟩
theorem Vals.zero : ∀ {us : List Value}, Vals [] us → us = []
 | _, .nil => rfl
section
variable {X : Cx} {pins : List (Addr × Obj)} {σ : St} {H : Hp} {s : Shared} {l b : Addr} {xs ys zs : List V}
theorem Inv.lset {its its' : List Value} {n : Nat} {f : Array Value → Array Value} {t' : Nat} (I : Inv X pins σ H s) (hH : H l = some (.lst xs))
  (e : s.heap.get? l = some { cls := .type "list", data := .seq its.toArray n }) (hf : f its.toArray = its'.toArray) (hv : Vals ys its') (hz : ys.length ≤ sizeLine) :
  Inv X pins σ (upd H l (.lst ys)) { s with heap := s.heap.update l (Obj.mapSeq f), toks := t' } := by
 have q := PySem.IsL.update e f
 rw [hf] at q
 refine I.write (x := l) (e := l) (by rw [hH]; exact trivial) (.inl rfl) (fun b' u hb hu => (Heap.get?_update_other s.heap (Obj.mapSeq f) (Ne.symm hb)).trans hu) ⟨_, q⟩ ?_
 exact ⟨hz, its', _, hv, q⟩
theorem Inv.lnew {its : List Value} {t' : Nat} (I : Inv X pins σ H s) (hv : Vals ys its) (hz : ys.length ≤ sizeLine) :
  Inv X pins σ (upd H s.heap.objs.size (.lst ys)) { s with heap := s.heap.push { cls := .type "list", data := .seq its.toArray }, toks := t' } :=
 I.laid (fun _ _ q => Heap.get?_push_of_some _ q) (Nat.le_refl _) ⟨hz, its, 0, hv, Heap.get?_push_size _ rfl⟩
theorem Inv.fresh (I : Inv X pins σ H s) : H s.heap.objs.size = none := I.hok.fresh (Nat.le_refl _)
theorem Inv.lstM (I : Inv X pins σ H s) (hH : H l = some (.lst xs)) : xs.length ≤ sizeLine ∧ ∃ (its : List Value) (n : Nat), Vals xs its ∧ xs.length = its.length ∧ s.heap.get? l = some { cls := .type "list", data := .seq its.toArray n } := by
 obtain ⟨z, its, n, r, e⟩ := I.hok l _ hH
 exact ⟨z, its, n, r, r.length, e⟩
end
section
variable {X : Cx}
def RN : V → List V → Hp → VK → Prop := fun x vs H Q => ∃ l xs y, x = .ref l ∧ vs = [y] ∧ H l = some (.lst xs) ∧ xs.length < sizeLine ∧ Q .non (upd H l (.lst (xs ++ [y])))
theorem Mw : MtM X "list.append" RN := by
 intro pins s σ H x vs v us Q I rx rv h
 obtain ⟨l, xs, y, rfl, rfl, hH, hz, q⟩ := h
 cases rx
 obtain ⟨u, rfl, ru⟩ := rv.one
 obtain ⟨z, its, n, r, hl, e⟩ := I.lstM hH
 refine call_meets F.slot_list_append ⟨_, e, rfl⟩ F.entry_list_append (F.args_list_append_2 _ _) (PySem.list_append l its.toArray n u (by rw [List.size_toArray]; omega)) ⟨e, ?_⟩
 refine ⟨.non, _, I.lset (its' := its ++ [u]) hH e (by simp) (r.append (.cons ru .nil)) ?_, rfl, q⟩
 rw [List.length_append, List.length_singleton]
 omega
end
section
variable {prog : Program} {w : World} {A : Around} {E : Value → Shared → Prop} {s : Shared}
end
section
variable {X : Cx}
end
end L2
namespace L2
open PySem PySem.Spec PyProof.Rows
section
variable {κ : Type} [DecidableEq κ]
def valV (kvs : List (κ × V)) (k : κ) : Option V := (kvs.find? fun kv => decide (kv.1 = k)).map (·.2)
def putK (kvs : List (κ × V)) (k : κ) (v : V) : List (κ × V) :=
 if (kvs.any fun kv => decide (kv.1 = k)) = true then kvs.map (fun kv => if kv.1 = k then (kv.1, v) else kv) else kvs ++ [(k, v)]
def S6 (kvs : List (κ × V)) (k : κ) : List (κ × V) := kvs.filter fun kv => decide (kv.1 ≠ k)
theorem HJ {p : κ × V} {r : List (κ × V)} {k : κ} (e : p.1 = k) : valV (p :: r) k = some p.2 := by simp [valV, List.find?_cons, e]
theorem HN {p : κ × V} {r : List (κ × V)} {k : κ} (e : ¬ p.1 = k) : valV (p :: r) k = valV r k := by simp [valV, List.find?_cons, e]
theorem RelO.isSome_eq {o : Option V} {u : Option Value} (r : RelO o u) : o.isSome = u.isSome := by
 cases o with
 | none => cases u with
  | none => rfl
  | some _ => exact (show False from r).elim
 | some _ => cases u with
  | none => exact (show False from r).elim
  | some _ => rfl
theorem RelO.getD {o : Option V} {u : Option Value} {d : V} {d' : Value} (r : RelO o u) (rd : RelV d d') : RelV (o.getD d) (u.getD d') := by
 cases o with
 | none => cases u with
  | none => exact rd
  | some _ => exact (show False from r).elim
 | some _ => cases u with
  | none => exact (show False from r).elim
  | some _ => exact r
theorem KV.val {kvs : List (κ × V)} {vs : List (κ × Value)} (r : KV kvs vs) (k : κ) : RelO (valV kvs k) (valueAt vs k) := by
 unfold KV at r
 induction r with
 | nil => exact True.intro
 | @cons p q ps qs h t ih =>
  obtain ⟨h1, h2⟩ := h
  by_cases e : p.1 = k
  ·have e' : q.1 = k := h1.symm.trans e
   have b : valueAt (q :: qs) k = some q.2 := by simp [valueAt, List.find?_cons, e']
   rw [HJ e, b]; exact h2
  ·have e' : ¬ q.1 = k := fun z => e (h1.trans z)
   have b : valueAt (q :: qs) k = valueAt qs k := by simp [valueAt, List.find?_cons, e']
   rw [HN e, b]; exact ih
theorem KV.any {kvs : List (κ × V)} {vs : List (κ × Value)} (r : KV kvs vs) (k : κ) : (kvs.any fun kv => decide (kv.1 = k)) = vs.any fun kv => decide (kv.1 = k) := by
 unfold KV at r
 induction r with
 | nil => rfl
 | cons h t ih => rw [List.any_cons, List.any_cons, ih, h.1]
theorem KV.drop {kvs : List (κ × V)} {vs : List (κ × Value)} (r : KV kvs vs) (k : κ) : KV (S6 kvs k) (without vs k) := by
 unfold KV at r ⊢
 unfold S6 without
 induction r with
 | nil => exact .nil
 | @cons p q ps qs h t ih =>
  obtain ⟨h1, h2⟩ := h
  rw [List.filter_cons, List.filter_cons]
  by_cases e : p.1 = k
  ·have a : ¬ decide (p.1 ≠ k) = true := by simp [e]
   have b : ¬ decide (q.1 ≠ k) = true := by simp [h1.symm.trans e]
   rw [if_neg a, if_neg b]; exact ih
  ·have e' : ¬ q.1 = k := fun z => e (h1.trans z)
   have a : decide (p.1 ≠ k) = true := by simp [e]
   have b : decide (q.1 ≠ k) = true := by simp [e']
   rw [if_pos a, if_pos b]; exact .cons ⟨h1, h2⟩ ih
theorem KV.length {kvs : List (κ × V)} {vs : List (κ × Value)} (r : KV kvs vs) : kvs.length = vs.length := Paired.length r
end
theorem S7 {P : Program} {w : World} {k : Key} {u : Value} (r : RelV (kV k) u) : (Bd P w).is k u = true := by
 cases k with
 | inl i => obtain ⟨t, e⟩ := (show ∃ t, u = Value.int i t from r); subst e; exact Jh P w i t
 | inr x => obtain ⟨t, e⟩ := (show ∃ t, u = Value.str x t from r); subst e; exact Ji P w x t
theorem Ib {P : Program} {w : World} : ∀ {ks : List Key} {us : List Value}, Vals (ks.map kV) us → ItemsAre (Bd P w) ks us
 | [], _, r => by rw [List.map_nil] at r; cases r; exact .nil
 | k :: ks, _, r => by
  rw [List.map_cons] at r
  cases r with
  | cons h t => exact .cons (S7 h) (Ib t)
abbrev KT (H : Hp) : List (List Key × V) → List (List Key × Addr × Value) → Prop := Paired fun p q => p.1 = q.1 ∧ H q.2.1 = some (.tup (p.1.map kV)) ∧ RelV p.2 q.2.2
theorem KT.val {H : Hp} {kvs : List (List Key × V)} {xs : List (List Key × Addr × Value)} (r : KT H kvs xs) (k : List Key) : RelO (valV kvs k) ((atKey xs k).map (·.2)) := by
 induction r with
 | nil => exact True.intro
 | @cons p q ps qs h t ih =>
  obtain ⟨h1, _, h2⟩ := h
  by_cases e : p.1 = k
  ·have e' : q.1 = k := h1.symm.trans e
   have b : atKey (q :: qs) k = some q.2 := by simp [atKey, List.find?_cons, e']
   rw [HJ e, b]; exact h2
  ·have e' : ¬ q.1 = k := fun z => e (h1.trans z)
   have b : atKey (q :: qs) k = atKey qs k := by simp [atKey, List.find?_cons, e']
   rw [HN e, b]; exact ih
theorem KT.keeps {H H' : Hp} {kvs : List (List Key × V)} {xs : List (List Key × Addr × Value)} (r : KT H kvs xs) (ht : ∀ b ys, H b = some (.tup ys) → H' b = some (.tup ys)) : KT H' kvs xs :=
 Paired.mapP r fun _ _ z => ⟨z.1, ht _ _ z.2.1, z.2.2⟩
section
variable {P : Program} {w : World} {H : Hp} {h : Heap} {a : Addr}
theorem S8 {u : HO} (ok : HOk P w H h) (e : Rd H a u) : Be P w H h a u := e.ok ok
theorem N5 {kvs : List (Key × V)} (ok : HOk P w H h) (e : Rd H a (.dK kvs)) : kvs.length ≤ sizeLine ∧ (a == sysModules) = false ∧ ∃ vs, KV kvs vs ∧ h.DictOf (Bd P w) a vs :=
 show Be P w H h a (.dK kvs) from S8 ok e
theorem V0 {kvs : List (Key × V)} (ok : HOk P w H h) (e : H a = some (.dK kvs)) : kvs.length ≤ sizeLine ∧ (a == sysModules) = false ∧ ∃ vs, KV kvs vs ∧ h.DictOf (Bd P w) a vs := N5 ok (.inl e)
theorem N6 {ks : List Key} (ok : HOk P w H h) (e : H a = some (.tup (ks.map kV))) : (tupleKind (Bd P w)).is h ks a := by
 obtain ⟨_, its, r, o, h1, h2, n, h3⟩ := (show Be P w H h a (.tup (ks.map kV)) from ok a _ e)
 exact ⟨o, its.toArray, n, h1, h2, h3, by simpa using Ib r⟩
theorem V1 {kvs : List (List Key × V)} (ok : HOk P w H h) (e : Rd H a (.dT kvs)) : kvs.length ≤ sizeLine ∧ (a == sysModules) = false ∧
  ∃ xs, KT H kvs xs ∧ h.DictOfH (tupleKind (Bd P w)) a xs := by
 obtain ⟨z, y, xs, r, o, es, ep, h1, h2, h3, h4, h5⟩ := (show Be P w H h a (.dT kvs) from S8 ok e)
 refine ⟨z, y, xs, r, o, es, ep, h1, h2, h3, h4, fun x hx => ?_, h5⟩
 have all : ∀ {l : List (List Key × V)} {m : List (List Key × Addr × Value)}, KT H l m → ∀ x ∈ m, (tupleKind (Bd P w)).is h x.1 x.2.1 := by
  intro l m q
  induction q with
  | nil => intro x hx; exact nomatch hx
  | @cons p q ps qs hq t ih =>
   intro x hx
   rcases List.mem_cons.mp hx with e | hx
   ·subst e
    exact N6 ok (by rw [← hq.1]; exact hq.2.1)
   ·exact ih x hx
 exact all r x hx
end
def DGet (H : Hp) (a : Addr) (y : V) (r : Option V) : Prop :=
 (∃ kvs k, Rd H a (.dK kvs) ∧ y = kV k ∧ r = valV kvs k) ∨ ∃ kvs k b, Rd H a (.dT kvs) ∧ y = .ref b ∧ H b = some (.tup (k.map kV)) ∧ r = valV kvs k
def DPut (H : Hp) (a : Addr) (y v : V) (H' : Hp) : Prop :=
 (∃ kvs k, H a = some (.dK kvs) ∧ y = kV k ∧ kvs.length < sizeLine ∧ H' = upd H a (.dK (putK kvs k v))) ∨
 ∃ kvs k b, H a = some (.dT kvs) ∧ y = .ref b ∧ H b = some (.tup (k.map kV)) ∧ kvs.length < sizeLine ∧ H' = upd H a (.dT (putK kvs k v))
theorem DGet.k {H : Hp} {a : Addr} {kvs : List (Key × V)} {k : Key} (e : H a = some (.dK kvs)) : DGet H a (kV k) (valV kvs k) := .inl ⟨kvs, k, .inl e, rfl, rfl⟩
theorem DGet.t {H : Hp} {a b : Addr} {kvs : List (List Key × V)} {k : List Key} (e : H a = some (.dT kvs)) (eb : H b = some (.tup (k.map kV))) : DGet H a (.ref b) (valV kvs k) := .inr ⟨kvs, k, b, .inl e, rfl, eb, rfl⟩
theorem DPut.k {H : Hp} {a : Addr} {kvs : List (Key × V)} {k : Key} {v : V} (e : H a = some (.dK kvs)) (hl : kvs.length < sizeLine) : DPut H a (kV k) v (upd H a (.dK (putK kvs k v))) := .inl ⟨kvs, k, e, rfl, hl, rfl⟩
theorem DPut.t {H : Hp} {a b : Addr} {kvs : List (List Key × V)} {k : List Key} {v : V} (e : H a = some (.dT kvs)) (eb : H b = some (.tup (k.map kV))) (hl : kvs.length < sizeLine) :
  DPut H a (.ref b) v (upd H a (.dT (putK kvs k v))) := .inr ⟨kvs, k, b, e, rfl, eb, hl, rfl⟩
section
variable {X : Cx} {pins : List (Addr × Obj)} {σ : St} {H : Hp} {s : Shared} {a : Addr} {y v : V} {u r : Value} {o : Option V} {A : Around} {E : Value → Shared → Prop}
theorem d_in {Q : Value → Shared → Prop} (hu : A.units + 1 < cLine) (I : Inv X pins σ H s) (g : DGet H a y o) (ry : RelV y u) (h : ∀ s', Inv X pins σ H s' → Q (.bool o.isSome) s') :
  wpAny (model X.prog X.w) A (compareOp .In u (.ref a)) Q E s := by
 rcases g with ⟨kvs, k, e, ey, l⟩ | ⟨kvs, k, b, e, ey, eb, l⟩
 ·subst ey
  obtain ⟨z, hd, vs, rel, dd⟩ := N5 I.hok e
  refine wpAny_in_of (S7 ry) hd dd.mapOf ?_
  rw [← (rel.val k).isSome_eq, ← l]
  exact h _ (I.tok _)
 ·subst ey
  cases (show u = Value.ref b from ry)
  obtain ⟨z, hd, xs, rel, dd⟩ := V1 I.hok e
  refine wpAny_in_heap (tupleKind_room_in1 hu) (N6 I.hok eb) hd dd ?_
  have q := (rel.val k).isSome_eq
  rw [Option.isSome_map] at q
  rw [← q, ← l]
  exact h _ (I.tok _)
theorem K8 {h' : Heap} {t' : Nat} {ob : HO} (I : Inv X pins σ H s) (mu : Mut (H a)) (hs : Heap.SameBut a s.heap h') (he : ∃ q, h'.get? a = some q) (new : Be X.prog X.w (upd H a ob) h' a ob) :
  Inv X pins σ (upd H a ob) { s with heap := h', toks := t' } :=
 I.write (x := a) (e := a) mu (.inl rfl) (fun b q hb z => (hs.2 b hb).trans z) he new
end
section
variable {X : Cx} {pins : List (Addr × Obj)} {σ : St} {H : Hp} {s : Shared} {a : Addr} {kvs : List (Key × V)} {k : Key} {u : Value} {A : Around} {E : Value → Shared → Prop}
theorem V2 {Q : Value → Shared → Prop} (I : Inv X pins σ H s) (e : Rd H a (.dK kvs)) (h : ∀ t s', Inv X pins σ H s' → Q (.int kvs.length t) s') : wpAny (model X.prog X.w) A (call (.builtin "len") [.ref a]) Q E s := by
 obtain ⟨z, hd, vs, rel, dd⟩ := N5 I.hok e
 refine call_len_dict hd dd (by rw [← rel.length]; rw [sizeLine_eq] at z; omega) ?_
 rw [← rel.length]
 exact h _ _ (I.tok _)
end
section
variable {X : Cx} {o i e value : Expr} {pos pos' tpos : Pos} {td ty tv : TE}
end
section
variable {X : Cx} {pos : Pos}
end
section
variable {X : Cx} {pins : List (Addr × Obj)} {σ : St} {H : Hp} {s : Shared} {a : Addr} {y d : V} {u r : Value} {o : Option V} {A : Around} {E : Value → Shared → Prop}
end
section
variable {X : Cx} {o e f : Expr} {apos cpos : Pos} {td ty tx : TE}
end
section
variable {X : Cx} {pins : List (Addr × Obj)} {σ : St} {H : Hp} {s : Shared} {a : Addr} {kvs : List (Key × V)} {A : Around} {E : Value → Shared → Prop}
end
section
variable {X : Cx} {pins : List (Addr × Obj)} {σ : St} {H : Hp} {s : Shared} {a : Addr} {y : V} {u : Value} {A : Around} {E : Value → Shared → Prop}
end
end L2
namespace Att
open PySem PySem.W PySem.Calls PyProof.Rows
theorem G3 {P : Params} {h : Heap} : ∀ (ns : List Int) (vs : List Value), WellAll P h vs (ns.map WData.int) → IntsAre vs ns := by
 intro ns
 induction ns with
 | nil =>
  intro vs w
  rw [List.map_nil] at w
  cases w
  exact .nil
 | cons n ns ih =>
  intro vs w
  rw [List.map_cons] at w
  cases w with
  | cons a b =>
   cases a
   exact .cons _ _ (ih _ b)
theorem My {l : OpenLaw} {n : Nat} (hn : l.most = some n) {P : Params} {h : Heap} {args : List WData} {vals : List Value}
  (hpre : l.row.toRowW.claim.pre args = true) (hwl : WellAll P h vals args) :
  ∃ a vs ns, vals = [Value.ref a] ∧ args = [WData.list (ns.map WData.int)] ∧ h.get? a = some { cls := .type "list", data := .seq vs.toArray } ∧ IntsAre vs ns ∧ ns.length ≤ n := by
 have hsh : WShape.hasAll [] args [.list .int] = true := (pre_splitW hpre).1
 have hc : l.pre.holds [] { args := args } = true := (pre_splitW hpre).2
 obtain ⟨d, r, rfl, h1, h2⟩ := hasAllW_cons hsh
 obtain rfl := hasAllW_nil h2
 obtain ⟨xs, rfl, h3⟩ := hasW_list h1
 obtain ⟨ns, rfl⟩ := items_int h3
 have hlen : ns.length ≤ n := by
  unfold OpenLaw.pre at hc
  have h4 : (WTm.not (.lt (.lit (.int (n : Int))) (.len (.arg 0)))).holds [] { args := [.list (ns.map .int)] } = true := by
   have h4 := (holds_andW hc).1
   rw [hn] at h4
   exact h4
  have h5 := condW_of h4 (w_not (w_lt w_lit (w_len_list (w_arg rfl))))
  rw [List.length_map] at h5
  refine Nat.le_of_not_lt fun q => ?_
  have q' : (n : Int) < ((ns.length : Nat) : Int) := by omega
  first
   | (rw [decide_eq_true q'] at h5; exact absurd h5 (by decide))
   | (simp at h5; omega)
 cases hwl with
 | cons w1 w2 =>
  cases w2
  cases w1 with
  | list ho hall => exact ⟨_, _, ns, rfl, rfl, ho, G3 ns _ hall, hlen⟩
theorem Mz (l : OpenLaw) (args : List WData) : l.row.toRowW.claim.post args (.bool true) args = true :=
 postW_of (r := l.row.toRowW) (X := (true == true))
  (show WShape.has [] (.bool true) .bool = true by first | rfl | decide | simp [WShape.has, WShape.arms, WShape.armsAll])
  (show (WTm.eq .res (.lit (.bool true))).value [] { args := args, res := some (.bool true), after := args } = some (.bool (true == true)) from w_eq_bool (w_res rfl) w_lit) rfl
theorem Jm {l : OpenLaw} {n : Nat} {q : Program} {loose : List Str} {XP : (Str → Option Value) → Heap → Prop} {YP : World → Heap → Prop} {d : DefRec}
  (hn : l.most = some n) (hdf : d.params.defaults = [])
  (call : ∀ (w : World) (s₀ s₁ : Shared) (mg mb : Str → Option Value) (fa : Addr) (o : Obj) (pm cd doc : Value) (a : Addr) (vs : List Value) (ns : List Int),
   Ground q loose [] XP w s₀ mg mb s₁.heap → YP w s₁.heap →
   s₁.heap.get? fa = some o → o.data = .func (docDef d.name d.params d.body d.scope pm cd doc) → s₁.heap.CodeRec cd d.name → mg d.name = some (.ref fa) →
   s₁.heap.get? a = some { cls := .type "list", data := .seq vs.toArray } → IntsAre vs ns → ns.length ≤ n → s₁.gens = #[] →
   codeAny (model l.prog w) callerA (.call (.ref fa) ⟨[.ref a], []⟩) (fun r s' => r = .ok (.ret (.bool true)) ∧ OldK s₁.heap s'.heap ∧ s'.os = s₁.os ∧ AllBare s'.gens) s₁) :
  WalkO q loose XP YP l.row.toRowW d [] (fun f vs => PySem.call f vs) := by
 intro w s₀ s₁ mg mb G Y fa o pm cd doc dV kV ho hd hcd hD hmg hg args vals as hpre hlay hrd hwl hlo
 obtain rfl : dV = .none := Dflts.none hD hdf
 obtain rfl : kV = .none := Dflts.noKw hD
 obtain ⟨a, vs, ns, rfl, rfl, hobj, hints, hlen⟩ := My hn hpre hwl
 refine enter_call (codeAny_mono (call w s₀ s₁ mg mb fa o pm cd doc a vs ns G Y ho (fd_plain hd) hcd hmg hobj hints hlen hg) fun r s' hq => ?_)
 obtain ⟨rfl, h2, h3, h4⟩ := hq
 exact ⟨.inl ⟨.bool true, .bool true, [], rfl, fun _ => rfl, .bool true, Mz l _, fun _ => ⟨List.Pairwise.nil, fun _ hm => (nomatch hm)⟩⟩, h2, h3, h4⟩
section
variable {prog : Program} {w : World} {A : Around} {E : Value → Shared → Prop} {s : Shared} {K : Frag}
end
end Att
namespace L2
open PySem PySem.Spec PyProof.Rows
theorem Ie : ∀ {vs : List Value} {ns : List Int}, IntsAre vs ns → Vals (ns.map V.int) vs
 | _, _, .nil => .nil
 | _, _, .cons n t h => .cons ⟨t, rfl⟩ (Ie h)
def Only (H : Hp) : Prop := ∀ b, H b = none ∨ ∃ o xs, H b = some (.frz o (.lst xs))
theorem N7 {P : Program} {w : World} {K : PySem.W.Frag} {mg mb : Str → Option Value} {CX : CXT} {k : Nat} {fa a : Addr} {fd : FuncData} {x : Str} {sp : Sp} {s₁ : Shared} {vs : List Value} {ns : List Int}
    (KX : K.In s₁.heap) (hns : s₁.heap.Ns mainGlobals mg) (hb : s₁.heap.Ns builtinsNs mb) (hbb : ∀ x : Str, x ≠ "__name__" → mb x = bootBuiltins x) (hlim : s₁.heap.NoLimit) (hg : s₁.gens = #[])
    (ha : s₁.heap.get? a = some { cls := .type "list", data := .seq vs.toArray }) (hi : IntsAre vs ns) (hl : ns.length ≤ sizeLine) (hr : Room k callerA)
    (F : ∀ base : Heap, K.In base → base.Ns mainGlobals mg → FnOk P w K mg base CX k fa fd [x] sp) (hbind : ∀ (s : Shared) (u : Value), BindsTo s fd ⟨[u], []⟩ [(x, u)])
    (hsp : ∀ H : Hp, Only H → SqL K H a (ns.map V.int) → sp [.ref a] H (fun v _ => v = .bl true) fun _ _ _ => False)
    (hCX : ∀ H e s', CX [] H s₁ (fun _ _ _ => False) e s' → False) :
    codeAny (model P w) callerA (.call (.ref fa) ⟨[.ref a], []⟩) (fun r s' => r = .ok (.ret (.bool true)) ∧ OldK s₁.heap s'.heap ∧ s'.os = s₁.os ∧ AllBare s'.gens) s₁ := by
  have rv := Ie hi
  have lenV := hi.length
  have core : ∀ H : Hp, Only H → SqL K H a (ns.map V.int) → HOk P w H s₁.heap → (∀ b, H b ≠ none → b = a) → (H a ≠ none → K.lookup a = none) →
      codeAny (model P w) callerA (.call (.ref fa) ⟨[.ref a], []⟩) (fun r s' => r = .ok (.ret (.bool true)) ∧ OldK s₁.heap s'.heap ∧ s'.os = s₁.os ∧ AllBare s'.gens) s₁ := by
    intro H hO hS hok hA hK
    have base_of : ∀ {b : Addr} {o : Obj}, s₁.heap.get? b = some o → H b = none → (hidT s₁.heap H).get? b = some o := fun e n => Nf e n
    have noA : ∀ {b : Addr} {o : Obj} {es : Array DictEntry} {ep : Nat}, s₁.heap.get? b = some o → o.data = .dict es ep → H b = none := fun {b o es ep} e d => by
      cases q : H b with
      | none => rfl
      | some u =>
        have e' : b = a := hA b (by rw [q]; simp)
        subst e'
        rw [ha] at e; cases e
        have d' : Data.seq vs.toArray _ = Data.dict es ep := d
        cases d'
    have nsK : ∀ {b : Addr} {m : Str → Option Value}, s₁.heap.Ns b m → (hidT s₁.heap H).Ns b m := fun {b m} ⟨o, es, ep, e, d, r⟩ => ⟨o, es, ep, base_of e (noA e d), d, r⟩
    have hKb : K.In (hidT s₁.heap H) := fun b o e => base_of (KX b o e) (by
      cases q : H b with
      | none => rfl
      | some u =>
        have e' : b = a := hA b (by rw [q]; simp)
        subst e'
        rw [hK (by rw [q]; simp)] at e; cases e)
    have hM : Mod K mg (hidT s₁.heap H) := ⟨hKb, nsK hns, ⟨mb, nsK hb, hbb⟩, let ⟨mc, h1, h2⟩ := hlim; ⟨mc, nsK h1, h2⟩⟩
    have e0 : Env0 P w K mg (hidT s₁.heap H) callerA [] s₁ H := ⟨rfl, hM, fun b o e => Qx e, Nat.le_of_eq (Mp _ _), trivial, fun b hb => absurd (show b ∈ ([] : List Addr) from hb) (by simp), hok, .of_eq hg⟩
    refine codeAny_mono ((F _ hKb (nsK hns)).run callerA [] s₁ H ⟨[.ref a], []⟩ [.ref a] [.ref a] _ _ hr e0 (hbind s₁ (.ref a)) (.cons rfl .nil) (hsp H hO hS)) fun r s' h => ?_
    cases r with
    | error e => exact (hCX H e s' h).elim
    | ok fl =>
      cases fl with
      | next => exact False.elim h
      | brk => exact False.elim h
      | cont => exact False.elim h
      | ret u =>
        obtain ⟨v, H', os, bare, un, hok', r', q⟩ := h
        have q' : v = .bl true := q
        subst q'
        obtain rfl : u = Value.bool true := r'
        refine ⟨rfl, OldK.of_keep fun b o e => ?_, os, bare⟩
        cases q : H b with
        | none => exact un.keep b o e q (by intro z; exact absurd (show b ∈ ([] : List Addr) from z) (by simp)) (by simp)
        | some u =>
          rcases hO b with z | ⟨ob, xs, z⟩
          · rw [q] at z; cases z
          · have z2 := un.frzs b ob _ z
            obtain ⟨e1, _⟩ := hok b _ z
            obtain ⟨e2, _⟩ := hok' b _ z2
            rw [e] at e1; cases e1
            exact e2
  cases hk : K.lookup a with
  | some o =>
    have e := KX a o hk
    rw [ha] at e
    cases e
    refine core (fun _ => none) (fun _ => .inl rfl) (.inr ⟨_, vs.toArray, _, hk, rfl, rfl, rfl, by rw [List.size_toArray, lenV]; exact hl, by simpa using rv⟩) (fun b u z => by have z' : (none : Option HO) = some u := z; cases z') (fun b z => absurd rfl z) fun z => absurd rfl z
  | none =>
    refine core (fun b => if b = a then some (.frz { cls := .type "list", data := .seq vs.toArray } (.lst (ns.map V.int))) else none) (fun b => ?_) (.inl (.inr ⟨{ cls := .type "list", data := .seq vs.toArray }, if_pos rfl⟩)) (fun b u z => ?_) (fun b z => ?_) fun _ => hk
    · by_cases hb : b = a
      · exact .inr ⟨_, _, if_pos hb⟩
      · exact .inl (if_neg hb)
    · by_cases hb : b = a
      · have z' := (if_pos hb).symm.trans z
        cases z'
        subst hb
        exact ⟨ha, by rw [List.length_map]; exact hl, vs, _, rv, ha⟩
      · have z' := (if_neg hb).symm.trans z
        cases z'
    · by_cases hb : b = a
      · exact hb
      · exact absurd (if_neg hb) z
end L2
namespace L2
open PySem PySem.Spec PyProof.Rows
abbrev KOf {K : PySem.W.Frag} {h : Heap} (_ : K.In h) : PySem.W.Frag := K
theorem RP {l : PySem.W.OpenLaw} {n k : Nat} {q : Program} {loose : List Str} {XP : (Str → Option Value) → Heap → Prop} {YP : World → Heap → Prop} {d : DefRec} {K : Params → PySem.W.Frag} {CX : World → CXT} {sp : World → Sp} {x : Str}
  (hn : l.most = some n) (hn2 : n ≤ sizeLine) (hdf : d.params.defaults = []) (hr : Room k callerA)
  (hY : ∀ (w : World) (h : Heap), YP w h → (K w.params).In h)
  (F : ∀ (w : World) (mg : Str → Option Value) (fa : Addr) (h : Heap), (K w.params).In h → h.Ns mainGlobals mg → mg d.name = some (.ref fa) →
   ∃ fd : FuncData, (∀ (s : Shared) (u : Value), BindsTo s fd ⟨[u], []⟩ [(x, u)]) ∧
    ∀ base : Heap, (K w.params).In base → base.Ns mainGlobals mg → FnOk l.prog w (K w.params) mg base (CX w) k fa fd [x] (sp w))
  (hsp : ∀ (w : World) (H : Hp) (a : Addr) (ns : List Int), ns.length ≤ n → Only H → SqL (K w.params) H a (ns.map V.int) → sp w [.ref a] H (fun v _ => v = .bl true) fun _ _ _ => False)
  (hCX : ∀ (w : World) (H : Hp) (s : Shared) (e : Value) (s' : Shared), CX w [] H s (fun _ _ _ => False) e s' → False) :
  PySem.W.WalkO q loose XP YP l.row.toRowW d [] (fun f vs => PySem.call f vs) := by
 refine Att.Jm hn hdf fun w s₀ s₁ mg mb fa o pm cd doc a vs ns G Y ho hd hcd hmg hobj hints hlen hg => ?_
 have KX := hY w _ Y
 obtain ⟨fd, hb, hF⟩ := F w mg fa _ KX G.T.g hmg
 exact N7 KX G.T.g G.T.b G.T.builtins G.T.nolimit hg hobj hints (Nat.le_trans hlen hn2) hr hF hb (fun H hO hS => hsp w H a ns hlen hO hS) fun H e s' => hCX w H s₁ e s'
end L2
namespace L2
open PySem PySem.Spec PyProof.Rows
def inClass (s : Stmt) (j : Nat) : Stmt := match s with
 | .ClassDef _ _ _ body _ _ _ _ _ _ _ => body.getD j (.Pass ⟨0, 0, 0, 0⟩)
 | _ => .Pass ⟨0, 0, 0, 0⟩
def Ba (s : Stmt) : Arguments := match s with
 | .FunctionDef _ a _ _ _ _ _ _ _ _ => a
 | _ => { posonlyargs := [], args := [], vararg := none, kwonlyargs := [], kw_defaults := [], kwarg := none, defaults := [] }
def Al (s : Stmt) : List Stmt := match s with
 | .FunctionDef _ _ b _ _ _ _ _ _ _ => b
 | _ => []
def Aa (s : Stmt) : Scope := match s with
 | .FunctionDef _ _ _ _ _ _ sc _ _ _ => sc
 | _ => { kind := .function, names := [], isGenerator := false, isCoroutine := false }
abbrev CX0 : CXT := fun _ _ _ _ _ _ => False
abbrev E0 : XK := fun _ _ _ => False
theorem Jo {X : Cx} : Fp CX0 X E0 := fun _ _ _ _ _ _ _ h => h.elim
structure Fun (K : PySem.W.Frag) (x qual : Str) (st : Stmt) (f : Addr) (fd : FuncData) : Prop where
 ex : ∃ (oc : Value) (od : Option Addr) (kV doc pm : Value) (an : Option Addr) (cdv ct : Value) (osl : Array (Option Value)),
  fd = PySem.W.fnOf x qual (Ba st) (Al st) (Aa st) .none kV doc pm an cdv ct ∧ K.lookup f = some ⟨oc, od, .func fd, osl⟩ ∧ PySem.W.codeIn K cdv qual = true
 kp : PySem.W.keepIn K (.ref f) = true
section
variable {P : Program} {w : World} {K : PySem.W.Frag} {mg : Str → Option Value} {base : Heap}
theorem Fun.ok {x qual : Str} {st : Stmt} {f : Addr} {fd : FuncData} {N ps : List Str} {k : Nat} {sp : Sp} (F : Fun K x qual st f fd) (S : FnScope N ps (Aa st)) (len : ∀ vs H Q E, sp vs H Q E → vs.length = ps.length)
  (hbody : ∀ (cdv : Value) (A : Around) (outer : List Env) (s : Shared) (H : Hp) (vs : List V) (Q : VK) (E : XK), Room k (A.deeper (envOfC qual (Aa st) s.heap.objs.size f cdv)) → sp vs H Q E →
   ∃ t, PSs (cxOf CX0 P w K mg base N qual (Aa st) f cdv A outer s H E).nox (Al st) t ∧ t { nx := fun _ H' => Q .non H', rt := Q } (start N vs) H) : FnOk P w K mg base CX0 (k + 1) f fd ps sp := by
 obtain ⟨oc, od, kV, doc, pm, an, cdv, ct, osl, rfl, lk, hcd⟩ := F.ex
 refine K6 lk hcd S len fun A outer s H vs Q E hr hsp => ?_
 obtain ⟨t, h, q⟩ := hbody cdv A outer s H vs Q E hr hsp
 exact ⟨t, h.nox, q⟩
theorem Fun.binds {x qual : Str} {st : Stmt} {f : Addr} {fd : FuncData} {ps : List Str} (F : Fun K x qual st f fd)
  (h : ∀ (kV doc pm : Value) (an : Option Addr) (cdv ct : Value) (us : List Value), us.length = ps.length → bindArgs (PySem.W.fnOf x qual (Ba st) (Al st) (Aa st) .none kV doc pm an cdv ct) ⟨us, []⟩ = pure (ps.zip us)) : Binds K fd ps [] := by
 obtain ⟨oc, od, kV, doc, pm, an, cdv, ct, osl, rfl, lk, hcd⟩ := F.ex
 exact .all (h kV doc pm an cdv ct)
theorem Fq {x qual : Str} {st : Stmt} {f : Addr} {oc : Value} {od an : Option Addr} {osl : Array (Option Value)} {kV doc pm cdv ct : Value} (l : K.lookup f = some ⟨oc, od, .func (PySem.W.fnOf x qual (Ba st) (Al st) (Aa st) .none kV doc pm an cdv ct), osl⟩)
  (c : PySem.W.codeIn K cdv qual = true) (k : PySem.W.keepIn K (.ref f) = true) : Fun K x qual st f (PySem.W.fnOf x qual (Ba st) (Al st) (Aa st) .none kV doc pm an cdv ct) := ⟨⟨oc, od, kV, doc, pm, an, cdv, ct, osl, rfl, l, c⟩, k⟩
end
theorem S9 {A : Around} {k : Nat} (hr : Room k A) : A.units + 1 < cLine := Nat.lt_of_le_of_lt (Nat.add_le_add_left (by decide : 1 ≤ 64) _) hr.units
section
variable {X : Cx}
theorem pv (i : Nat) {x : Str} {pos : Pos} (hN : X.N[i]? = some x := by rfl) (hv : Vis X.env.scope x := by first | exact Or.inl rfl | exact Or.inr (Or.inl rfl) | exact Or.inr (Or.inr rfl)) (hd : (x == ("__debug__" : Str)) = false := by decide)
  (hcd : (x == ("__classdict__" : Str)) = false := by decide) : PE X (.Name x pos) (tVar i) := Ua hN hv hd hcd
end
theorem iteF {A B : Prop} (h : B) : if false = true then A else B := by
 rw [if_neg Bool.false_ne_true]
 exact h
theorem iteT {A B : Prop} (h : A) : if true = true then A else B := by
 rw [if_pos rfl]
 exact h
def Same (H H' : Hp) : Prop := ∀ b o, H b = some o → H' b = some o
theorem Same.refl (H : Hp) : Same H H := fun _ _ h => h
theorem Same.trans {H H1 H2 : Hp} (a : Same H H1) (b : Same H1 H2) : Same H H2 := fun c o h => b c o (a c o h)
theorem Same.free {H H' : Hp} (e : Same H H') {l : Addr} (h : H' l = Option.none) : H l = Option.none := by
 cases q : H l with
 | none => rfl
 | some o =>
  rw [e l o q] at h
  cases h
theorem Same.seq {K : PySem.W.Frag} {H H' : Hp} {a : Addr} {xs : List V} (e : Same H H') (h : SqL K H a xs) : SqL K H' a xs := by
 rcases h with (h | ⟨o, h⟩) | h
 ·exact .inl (.inl (e _ _ h))
 ·exact .inl (.inr ⟨o, e _ _ h⟩)
 ·exact .inr h
section
variable {κ : Type} [DecidableEq κ]
end
end L2
namespace EX
open PySem PySem.Spec L2
open PyProof.Rows hiding St
def tbV : Option Addr → Value
 | none => .none
 | some T => .ref T
def ExcP (a C : Addr) (od tb : Option Addr) : Heap → Prop := fun h => ∃ o vs, h.get? a = some o ∧ o.cls = .ref C ∧ o.dict = od ∧ o.data = .fields vs ∧ vs.size = 6 ∧ vs[1]? = some (tbV tb)
def TbP (T : Addr) (v : Value) : Heap → Prop := fun h => ∃ o ts, h.get? T = some o ∧ o.data = .fields ts ∧ ts[3]? = some v ∧ o.cls = .type "traceback"
abbrev excO (a C : Addr) (od tb : Option Addr) : HO := .ext (ExcP a C od tb)
abbrev tbO (T : Addr) (v : Value) : HO := .ext (TbP T v)
theorem ExcP.ok {P : Program} {w : World} {H : Hp} {h : Heap} {a C : Addr} {od tb : Option Addr} (x : ExcP a C od tb h) : Be P w H h a (excO a C od tb) :=
 ⟨x, let ⟨o, _, e, _⟩ := x; ⟨o, e⟩, fun h1 h2 ⟨o, vs, e, r⟩ k => ⟨o, vs, k o e, r⟩⟩
theorem TbP.ok {P : Program} {w : World} {H : Hp} {h : Heap} {a : Addr} {v : Value} (x : TbP a v h) : Be P w H h a (tbO a v) :=
 ⟨x, let ⟨o, _, e, _⟩ := x; ⟨o, e⟩, fun h1 h2 ⟨o, vs, e, r⟩ k => ⟨o, vs, k o e, r⟩⟩
theorem RQ (f : Array Value → Array Value) (o : Obj) : (Obj.mapFields f o).dict = o.dict := by
 unfold Obj.mapFields
 split <;> rfl
section
variable {X : Cx} {pins : List (Addr × Obj)} {σ : St} {H : Hp} {s : Shared} {e C : Addr} {od tb : Option Addr}
theorem M3 {h' : Heap} (I : Inv X pins σ H s) (x : Heap.SlotsOnly (frs X.stack) s.heap h') : Inv X pins σ H { s with heap := h' } := by
 have k : ∀ b o, s.heap.get? b = some o → H b = none → b ∉ frs X.stack → h'.get? b = some o := fun b o q _ hb => (x.2.1 b hb).trans q
 refine I.call (g' := s.gens) (d' := s.drawn) (t' := s.toks) (ch := []) ⟨fun b o q n hb _ => k b o q n hb, fun b o q _ _ _ => x.2.2 b o q, fun _ _ _ n _ => n, fun b o q _ => let ⟨_, z⟩ := x.2.2 b o q; ⟨_, z⟩, fun _ _ q => q, fun _ _ _ q => q, fun _ ps q => ⟨#[], by rw [q]; simp⟩⟩ (fun b u q => ?_) I.bare fun _ z => nomatch z
 have no : ∀ c v, H c = some v → c ∉ frs X.stack := fun c v q z => by rw [I.stkFree c z] at q; cases q
 refine (I.hok b u q).stay (fun c v hc r => (x.2.1 c ?_).trans r) (fun _ r => r) fun _ _ r => r
 rcases hc with z | z
 ·rw [z]; exact no b u q
 ·exact no c _ z
theorem GK {a : Addr} {o : Obj} {vs : Array Value} {u u' : HO} {i : Nat} {v : Value} (I : Inv X pins σ H s) (hH : H a = some u) (mu : Mut (some u)) (ho : s.heap.get? a = some o) (hd : o.data = .fields vs)
  (new : ∀ h' o', h'.get? a = some o' → o'.cls = o.cls → o'.dict = o.dict → o'.data = .fields (vs.setIfInBounds i v) → Be X.prog X.w (upd H a u') h' a u') :
  Inv X pins σ (upd H a u') { s with heap := s.heap.update a (Obj.mapFields (·.setIfInBounds i v)) } := by
 have hd' := Obj.data_mapFields hd (·.setIfInBounds i v)
 have g := Heap.get?_update_self (Obj.mapFields (·.setIfInBounds i v)) ho (Obj.isFreed_of_fields hd')
 exact I.write (x := a) (e := a) (t' := s.toks) (by rw [hH]; exact mu) (.inl rfl) (fun b q nb z => (Heap.get?_update_other _ _ (Ne.symm nb)).trans z) ⟨_, g⟩ (new _ _ g (Obj.cls_mapFields _ _) (RQ _ _) hd')
structure Noted (X : Cx) (pins : List (Addr × Obj)) (σ : St) (H : Hp) (e C : Addr) (od tb : Option Addr) (T : Addr) (H' : Hp) (s' : Shared) : Prop where
 inv : Inv X pins σ H' s'
 exc : H' e = some (excO e C od (some T))
 tbk : H' T = some (tbO T .none)
 new : H T = none
 rest : ∀ b u, b ≠ e → tb ≠ some b → H b = some u → H' b = some u
theorem Jp {E : Value → Shared → Prop} {Q : Unit → Shared → Prop} {M : Model} {L : Addr} {head : Value} {hadNext : Bool} (hst : X.stack = X.env :: X.outer) (hf : X.env.frame = some L) (I : Inv X pins σ H s) (he : H e = some (excO e C od tb))
  (k : ∀ T H' s', Noted X pins σ H e C od none T H' s' → Q () s') :
  wpAny M X.A (do let a ← frameOf X.env; let pl ← entryPlaceOf L hadNext; let b ← EntryCells.newEntry head a .none (rawInt L) .none pl; setField (.ref e) 1 b) (fun _ s₂ => wpAny M X.A (setFlight (.ref e) none) Q E s₂) E s := by
 refine wpAny_bind (wpAny_frameOf_fun (base := X.base) (outer := X.outer) (hst ▸ I.ok.frames) (hst ▸ I.stack) hf fun h1 x1 => ?_)
 have I1 := M3 I (h' := h1) (hst ▸ x1)
 refine wpAny_bind (wpAny_entryPlaceOf fun pl hpl => ?_)
 unfold EntryCells.newEntry newFields
 refine wpAny_bind (wpAny_newObj_type ?_ (hpl.sizeOk5 _ _ _ _ _))
 have h3 : ([head, .ref L, .none, rawInt L, .none] ++ (if pl.isEmpty then List.replicate 6 Value.none else pl)).toArray[3]? = some (rawInt L) := by simp
 generalize ([head, .ref L, .none, rawInt L, .none] ++ (if pl.isEmpty then List.replicate 6 Value.none else pl)).toArray = ts at h3
 have g2 : (h1.push { cls := .type "traceback", dict := none, data := .fields ts }).get? h1.objs.size = some { cls := .type "traceback", dict := none, data := .fields ts } := Heap.get?_push_size h1 rfl
 have I2 := I1.laid (a := h1.objs.size) (o := tbO h1.objs.size (rawInt L)) (h' := h1.push { cls := .type "traceback", dict := none, data := .fields ts }) (t' := s.toks) (fun b u q => Heap.get?_push_of_some _ q) (Nat.le_refl _) (TbP.ok ⟨_, ts, g2, rfl, h3, rfl⟩)
 have hT : H h1.objs.size = none := I1.hok.fresh (Nat.le_refl _)
 have neT : e ≠ h1.objs.size := Af he hT
 have he2 : (upd H h1.objs.size (tbO h1.objs.size (rawInt L))) e = some (excO e C od tb) := by rw [Ad neT]; exact he
 obtain ⟨⟨o, vs, q1, q2, q3, q4, q5, q6⟩, _⟩ := I2.hok e _ he2
 refine wpAny_setField q1 q4 (by omega) ?_
 have I3 := GK (u' := excO e C od (some h1.objs.size)) (i := 1) (v := .ref h1.objs.size) I2 he2 trivial q1 q4 fun h' o' r1 r2 r3 r4 => ExcP.ok ⟨o', _, r1, r2.trans q2, r3.trans q3, r4, by simpa using q5, by simp [tbV, q5]⟩
 have e3 := Ag (H := upd H h1.objs.size (tbO h1.objs.size (rawInt L))) (a := e) (o := excO e C od (some h1.objs.size))
 have t3 : upd (upd H h1.objs.size (tbO h1.objs.size (rawInt L))) e (excO e C od (some h1.objs.size)) h1.objs.size = some (tbO h1.objs.size (rawInt L)) := by rw [Ad (Ne.symm neT)]; exact Ag
 obtain ⟨⟨o5, vs5, p1, p2, p3, p4, p5, p6⟩, _⟩ := I3.hok e _ e3
 unfold setFlight
 refine wpAny_bind (wpAny_field p1 p4 p6 ?_)
 rw [if_pos (show (tbV (some h1.objs.size) != Value.none) = true from by simp [tbV])]
 obtain ⟨⟨o6, ts6, r1, r2, r3, r4⟩, _⟩ := I3.hok h1.objs.size _ t3
 have z3 : 3 < ts6.size := (Array.getElem?_eq_some_iff.mp r3).1
 refine wpAny_setField r1 r2 z3 ?_
 have I4 := GK (u' := tbO h1.objs.size .none) (i := 3) (v := (none : Option Addr).elim Value.none fun f => rawInt f) I3 t3 trivial r1 r2 fun h' o' y1 y2 y3 y4 => TbP.ok ⟨o', _, y1, y4, by simp [z3], y2.trans r4⟩
 refine k h1.objs.size _ _ ⟨I4, ?_, Ag, hT, fun b u hb _ q => ?_⟩
 ·rw [Ad neT]; exact e3
 ·have := Af q hT
  rw [Ad this, Ad hb, Ad this]
  exact q
theorem RT {E : Value → Shared → Prop} {Q : Unit → Shared → Prop} {M : Model} {L : Addr} (hst : X.stack = X.env :: X.outer) (hf : X.env.frame = some L) (I : Inv X pins σ H s) (he : H e = some (excO e C od tb)) (ht : ∀ T, tb = some T → H T = some (tbO T .none))
  (k : ∀ T H' s', Noted X pins σ H e C od tb T H' s' → Q () s') :
  wpAny M X.A (noteFrame (.ref e) X.env) (fun _ s₂ => wpAny M X.A (setFlight (.ref e) none) Q E s₂) E s := by
 obtain ⟨⟨o, vs, q1, q2, q3, q4, q5, q6⟩, _⟩ := I.hok e _ he
 unfold noteFrame
 simp only [hf]
 refine wpAny_bind (wpAny_field q1 q4 q6 ?_)
 cases tb with
 | none =>
  rw [if_neg (by decide)]
  exact Jp hst hf I he fun T H' s' n => k T H' s' n
 | some T0 =>
  have hT0 := ht T0 rfl
  obtain ⟨⟨oT, ts, r1, r2, r3, r4⟩, _⟩ := I.hok T0 _ hT0
  rw [if_pos (show (tbV (some T0) != Value.none) = true from by simp [tbV])]
  refine wpAny_bind (wpAny_field r1 r2 r3 ?_)
  rw [if_neg (show ¬ ((Value.none == rawInt L) = true) from by simp [rawInt])]
  have z3 : 3 < ts.size := (Array.getElem?_eq_some_iff.mp r3).1
  refine wpAny_bind (wpAny_setField r1 r2 z3 ?_)
  have I1 := GK (u' := tbO T0 .none) (i := 3) (v := .none) I hT0 trivial r1 r2 fun h' o' y1 y2 y3 y4 => TbP.ok ⟨o', _, y1, y4, by simp [z3], y2.trans r4⟩
  have ne : e ≠ T0 := fun z => by
   subst z
   rw [r1] at q1
   cases q1
   rw [r4] at q2
   cases q2
  refine Jp hst hf I1 (tb := some T0) (by rw [Ad ne]; exact he) fun T H' s' n => k T H' s' ⟨n.inv, n.exc, n.tbk, ?_, fun b u hb hb' q => n.rest b u hb (by simp) (by rw [Ad (fun z => hb' (by rw [z]))]; exact q)⟩
  have := n.new
  by_cases z : T = T0
  ·subst z; rw [Ag] at this; cases this
  ·rwa [Ad z] at this
end
end EX
namespace PV
open PySem L2
inductive D where
 | non | bl (b : Bool) | int (i : Int) | str (x : Str) | tup (ds : List D) | lst (ds : List D)
 | dk (kvs : List (Key × D)) | dt (kvs : List (List Key × D)) | ob (c : Str) (fs : List (Str × D)) | adr (a : Addr) | exc (c : Str) (fs : List (Str × D)) | err (c : Str) (fs : List (Str × D))
inductive Slot where
 | un | fz (d : D) | ow (d : D)
abbrev Rho := List Slot
abbrev FE := Rho → Option D
abbrev FA := Rho → Option (List D)
abbrev FT := Rho → Option Bool
abbrev FO := Rho → Option (Option Int)
abbrev FI := Rho → Option (List D)
def vF (i : Nat) : FE := fun ρ => match ρ[i]? with | some (.fz d) => some d | _ => none
def vU (i : Nat) : FE := fun ρ => match ρ[i]? with | some (.fz d) => some d | some (.ow d) => some d | _ => none
def kF (d : D) : FE := fun _ => some d
def bF (g : D → D → Option D) (fa fb : FE) : FE := fun ρ => (fa ρ).bind fun x => (fb ρ).bind fun y => g x y
def uF (g : D → Option D) (fa : FE) : FE := fun ρ => (fa ρ).bind g
def blF (f : FE) : FT := fun ρ => match f ρ with | some (.bl b) => some b | _ => none
def iiD (g : Int → Int → Option D) : D → D → Option D := fun x y => match x, y with | .int i, .int j => g i j | _, _ => none
instance (i j : Int) : Decidable (CMul i j) := by unfold CMul; infer_instance
instance (i j : Int) : Decidable (CDiv i j) := by unfold CDiv; infer_instance
instance (i j : Int) : Decidable (CPow i j) := by unfold CPow; infer_instance
def subD := iiD fun i j => some (.int (i - j))
def K9 (i j : Int) : Prop := CMul i j ∨ (Builtin.Int.intBits i ≤ 4194304 ∧ Builtin.Int.intBits j ≤ 4194304)
instance (i j : Int) : Decidable (K9 i j) := by unfold K9; infer_instance
def CShl (i j : Int) : Prop := 0 ≤ j ∧ j ≤ 1000000 ∧ Builtin.Int.intBits i ≤ 4194304
instance (i j : Int) : Decidable (CShl i j) := by unfold CShl; infer_instance
def K_ := iiD fun i j => if CDiv i j then some (.int (i / j)) else none
def modD := iiD fun i j => if 0 < j then some (.int (i % j)) else none
def ltD := iiD fun i j => some (.bl (decide (i < j)))
def gtD := iiD fun i j => some (.bl (decide (j < i)))
def addD : D → D → Option D := fun x y => match x, y with
 | .int i, .int j => some (.int (i + j))
 | .str i, .str j => if i.length + j.length ≤ sizeLine then some (.str (i ++ j)) else none
 | .lst i, .lst j => if i.length + j.length ≤ sizeLine then some (.lst (i ++ j)) else none
 | _, _ => none
def andF (fa fb : FE) : FE := fun ρ => match fa ρ with | some (.bl true) => fb ρ | some (.bl false) => some (.bl false) | _ => none
def orF (fa fb : FE) : FE := fun ρ => match fa ρ with | some (.bl true) => some (.bl true) | some (.bl false) => fb ρ | _ => none
def notF (fa : FE) : FE := fun ρ => match fa ρ with | some (.bl b) => some (.bl (!b)) | _ => none
def andT (fa fb : FT) : FT := fun ρ => match fa ρ with | some true => fb ρ | some false => some false | none => none
def orT (fa fb : FT) : FT := fun ρ => match fa ρ with | some true => some true | some false => fb ρ | none => none
def notT (fa : FT) : FT := fun ρ => (fa ρ).map (!·)
def truD : D → Option Bool
 | .non => some false
 | .bl b => some b
 | .int i => some (i != 0)
 | .str y => if y.length ≤ sizeLine then some ((y.length : Int) != 0) else none
 | .lst ds => some (!ds.isEmpty)
 | .tup ds => some (!ds.isEmpty)
 | _ => none
def trF (f : FE) : FT := fun ρ => (f ρ).bind truD
def ifF (t : FT) (fa fb : FE) : FE := fun ρ => match t ρ with | some true => fa ρ | some false => fb ρ | none => none
def nilA : FA := fun _ => some []
def Ab (fa : FE) (fs : FA) : FA := fun ρ => (fa ρ).bind fun d => (fs ρ).map (d :: ·)
def tupF (fs : FA) : FE := fun ρ => (fs ρ).bind fun ds => if ds.length ≤ sizeLine then some (.tup ds) else none
def lstF (fs : FA) : FE := fun ρ => (fs ρ).bind fun ds => if ds.length ≤ sizeLine then some (.lst ds) else none
def ixD : D → D → Option D := fun x y => match x, y with
 | .lst ds, .int i => atI ds i
 | .tup ds, .int i => atI ds i
 | .str z, .int i => if z.length ≤ sizeLine then (atI z.cps.toList i).map fun c => .str ⟨#[c]⟩ else none
 | _, _ => none
def noO : FO := fun _ => some none
def someO (f : FE) : FO := fun ρ => match f ρ with | some (.int i) => some (some i) | _ => none
def cutD {α : Type} (ds : List α) (lo hi : Option Int) : List α := (ds.drop (HT.sIx ds.length 0 lo)).take (HT.sIx ds.length ds.length hi - HT.sIx ds.length 0 lo)
def cutS (z : Str) (lo hi : Option Int) : Str := ⟨(cutD z.cps.toList lo hi).toArray⟩
def slD (x : D) (lo hi : Option Int) : Option D := match x with
 | .lst ds => some (.lst (cutD ds lo hi))
 | .tup ds => if HT.sIx ds.length 0 lo = 0 ∧ HT.sIx ds.length ds.length hi = ds.length then none else some (.tup (cutD ds lo hi))
 | .str z => if z.length ≤ sizeLine then some (.str (cutS z lo hi)) else none
 | _ => none
def slF (f : FE) (l h : FO) : FE := fun ρ => (f ρ).bind fun x => (l ρ).bind fun lo => (h ρ).bind fun hi => slD x lo hi
def flV : D → Option V
 | .non => some .non
 | .bl b => some (.bl b)
 | .int i => some (.int i)
 | .str x => some (.str x)
 | _ => none
def flVs : List D → Option (List V)
 | [] => some []
 | d :: r => (flV d).bind fun v => (flVs r).map (v :: ·)
def inD (neg : Bool) : D → D → Option D := fun x y => match x, y with
 | .str i, .str j => some (.bl (if neg then !(!(Builtin.Str.occurrences j i 0 j.length 1).isEmpty) else !(Builtin.Str.occurrences j i 0 j.length 1).isEmpty))
 | x, .lst ds => (flV x).bind fun v => (flVs ds).map fun vs => .bl (if neg then !inV v vs else inV v vs)
 | x, .tup ds => (flV x).bind fun v => (flVs ds).map fun vs => .bl (if neg then !inV v vs else inV v vs)
 | _, _ => none
def allO (f : D → D → Option Bool) : List D → List D → Option Bool
 | [], [] => some true
 | x :: xs, y :: ys => match f x y, allO f xs ys with | some a, some b => some (a && b) | _, _ => none
 | _, _ => none
def flD (x y : D) : Option Bool := (flV x).bind fun u => (flV y).map fun v => eqV u v
def eqS (f : D → D → Option Bool) : D → D → Option Bool
 | .lst xs, .lst ys => if xs.length = ys.length then allO f xs ys else some false
 | .tup xs, .tup ys => if xs.length = ys.length then allO f xs ys else none
 | x, y => flD x y
def eqK : Nat → D → D → Option Bool
 | 0 => flD
 | n + 1 => eqS (eqK n)
def eqvD (x y : D) : Option Bool := match x, y with
 | .int i, .int j => some (decide (i = j))
 | .str i, .str j => some (decide (i = j))
 | .bl i, .bl j => some (decide (i = j))
 | .lst xs, .lst ys => if xs.length = ys.length then allO (eqK 62) xs ys else some false
 | .tup xs, .tup ys => if xs.length = ys.length then allO (eqK 62) xs ys else none
 | _, _ => none
def eqD (neg : Bool) (x y : D) : Option D := (eqvD x y).map fun b => .bl (if neg then !b else b)
def lenD : D → Option D
 | .str y => if y.length ≤ sizeLine then some (.int y.length) else none
 | .lst ds => some (.int ds.length)
 | .tup ds => some (.int ds.length)
 | _ => none
def seqI (f : FE) : FI := fun ρ => match f ρ with | some (.lst ds) => some ds | some (.tup ds) => some ds | _ => none
def rngD (n : Nat) : List D := (List.range n).map fun (i : Nat) => .int i
def rngI (f : FE) : FI := fun ρ => match f ρ with | some (.int j) => if -(2 ^ 62) ≤ j ∧ j < 2 ^ 62 then some (rngD j.toNat) else none | _ => none
inductive Out where
 | nx (ρ : Rho) | rt (d : D) (ρ : Rho) | bk (ρ : Rho) | ct (ρ : Rho)
abbrev FS := Rho → Option Out
def nxF : FS := fun ρ => some (.nx ρ)
def seqF (g gs : FS) : FS := fun ρ => match g ρ with | some (.nx ρ') => gs ρ' | o => o
def ifS (t : FT) (g gs : FS) : FS := fun ρ => match t ρ with | some true => g ρ | some false => gs ρ | none => none
def setF (i : Nat) (f : FE) : FS := fun ρ => (f ρ).map fun d => .nx (ρ.set i (.fz d))
def retF (f : FE) : FS := fun ρ => (f ρ).map fun d => .rt d ρ
def retN : FS := fun ρ => some (.rt .non ρ)
def V3 (f : FE) : FS := fun ρ => (f ρ).map fun _ => .nx ρ
def forF (b : D → FS) : List D → FS
 | [], ρ => some (.nx ρ)
 | d :: r, ρ => match b d ρ with
  | some (.nx ρ') => forF b r ρ'
  | some (.ct ρ') => forF b r ρ'
  | some (.bk ρ') => some (.nx ρ')
  | some (.rt e ρ') => some (.rt e ρ')
  | none => none
abbrev FG := D → Rho → Option Rho
def LC (i : Nat) : FG := fun d ρ => some (ρ.set i (.fz d))
def tgB (tg : FG) (b : FS) : D → FS := fun d ρ => (tg d ρ).bind b
def forS (src : FI) (tg : FG) (b : FS) : FS := fun ρ => (src ρ).bind fun ds => forF (tgB tg b) ds ρ
def Ft (c : FT) (b : FS) : Nat → FS
 | 0, _ => none
 | n + 1, ρ => match c ρ with
  | some false => some (.nx ρ)
  | some true => (match b ρ with
   | some (.nx ρ') => Ft c b n ρ'
   | some (.ct ρ') => Ft c b n ρ'
   | some (.bk ρ') => some (.nx ρ')
   | some (.rt e ρ') => some (.rt e ρ')
   | none => none)
  | none => none
def Dk (g : List D → Option D) (fs : FA) : FE := fun ρ => (fs ρ).bind g
def Ca (n : Nat) (ds : List D) : Rho := ds.map .fz ++ List.replicate (n - ds.length) .un
def runF (n np : Nat) (b : FS) (ds : List D) : Option D := if ds.length = np then (match b (Ca n ds) with | some (.rt d _) => some d | some (.nx _) => some .non | _ => none) else none
def GP (ρ : Rho) (ga : FT) (fe : FE) : List D → Option (List D)
 | [] => some []
 | d :: r => match ga (ρ ++ [.fz d]) with
  | some true => (fe (ρ ++ [.fz d])).bind fun y => (GP ρ ga fe r).map (y :: ·)
  | some false => GP ρ ga fe r
  | none => none
def LK (src : FI) (ga : FT) (fe : FE) : FE := fun ρ => (src ρ).bind fun ds => if ds.length ≤ sizeLine then (GP ρ ga fe ds).map .lst else none
def allT : FT := fun _ => some true
def setW (i : Nat) (f : FE) : FS := fun ρ => (f ρ).map fun d => .nx (ρ.set i (.ow d))
def ownO (ρ : Rho) (i : Nat) : Option D := match ρ[i]? with | some (.ow d) => some d | _ => none
def mutF (g : D → D → Option D) (i : Nat) (f : FE) : FS := fun ρ => (f ρ).bind fun v => (ownO ρ i).bind fun x => (g x v).map fun y => .nx (ρ.set i (.ow y))
def frz1 (ρ : Rho) (i : Nat) : Rho := match ρ[i]? with | some (.ow d) => ρ.set i (.fz d) | _ => ρ
end PV
namespace PV
open PySem L2
theorem JG (i j : Int) (h : 0 < j) : modD (.int i) (.int j) = some (.int (i % j)) := by
 show (if 0 < j then some (D.int (i % j)) else none) = _
 rw [if_pos h]
theorem JH (i j : Int) (h : 0 < j) (h2 : j < 1073741824) : K_ (.int i) (.int j) = some (.int (i / j)) := by
 show (if CDiv i j then some (D.int (i / j)) else none) = _
 rw [if_pos ⟨h, h2⟩]
theorem N8 (i j : Int) : eqD false (.int i) (.int j) = some (.bl (decide (i = j))) := of_eq_true (eq_self _)
theorem Dz {n : Nat} (h : n ≤ 10000000) : n ≤ sizeLine := Nat.le_trans h (by decide)
theorem Uz {i j : List D} (h : i.length + j.length ≤ 10000000) : addD (.lst i) (.lst j) = some (.lst (i ++ j)) := by
 show (if _ then _ else _) = _
 rw [if_pos (Dz h)]
theorem Jq {b : D → FS} {P : Nat → Rho → Prop} : ∀ {ds : List D} {ρ : Rho} (k : Nat), P k ρ → (∀ (i : Nat) d ρ, ds[i]? = some d → P (k + i) ρ → ∃ ρ', b d ρ = some (.nx ρ') ∧ P (k + i + 1) ρ') → ∃ ρ', forF b ds ρ = some (.nx ρ') ∧ P (k + ds.length) ρ'
 | [], ρ, k, h0, _ => ⟨ρ, rfl, by simpa using h0⟩
 | d :: r, ρ, k, h0, hs => by
  obtain ⟨ρ1, e1, p1⟩ := hs 0 d ρ rfl (by simpa using h0)
  obtain ⟨ρ2, e2, p2⟩ := Jq (ds := r) (ρ := ρ1) (k + 1) (by simpa using p1) fun i d' ρ' hd hp => by
   have := hs (i + 1) d' ρ' (by simpa using hd) (by rw [show k + (i + 1) = k + 1 + i by omega]; exact hp)
   rw [show k + (i + 1) + 1 = k + 1 + i + 1 by omega] at this
   exact this
  refine ⟨ρ2, ?_, by rw [List.length_cons, show k + (r.length + 1) = k + 1 + r.length by omega]; exact p2⟩
  unfold forF
  rw [e1]
  exact e2
def HQ (o : Option Out) (gs : FS) : Option Out := match o with | some (.nx ρ') => gs ρ' | o => o
theorem S_ (g gs : FS) (ρ : Rho) : seqF g gs ρ = HQ (g ρ) gs := of_eq_true (eq_self _)
theorem e_nx (gs : FS) (ρ : Rho) : HQ (some (.nx ρ)) gs = gs ρ := of_eq_true (eq_self _)
theorem e_rt (gs : FS) (d : D) (ρ : Rho) : HQ (some (.rt d ρ)) gs = some (.rt d ρ) := of_eq_true (eq_self _)
theorem e_bk (gs : FS) (d : Rho) : HQ (some (.bk d)) gs = some (.bk d) := of_eq_true (eq_self _)
theorem e_ct (gs : FS) (d : Rho) : HQ (some (.ct d)) gs = some (.ct d) := of_eq_true (eq_self _)
theorem TF (ρ : Rho) : nxF ρ = some (.nx ρ) := of_eq_true (eq_self _)
def iteO (o : Option Bool) (g gs : FS) (ρ : Rho) : Option Out := match o with | some true => g ρ | some false => gs ρ | none => none
theorem e_if (t : FT) (g gs : FS) (ρ : Rho) : ifS t g gs ρ = iteO (t ρ) g gs ρ := of_eq_true (eq_self _)
theorem TJ (g gs : FS) (ρ : Rho) : iteO (some true) g gs ρ = g ρ := of_eq_true (eq_self _)
theorem TQ (g gs : FS) (ρ : Rho) : iteO (some false) g gs ρ = gs ρ := of_eq_true (eq_self _)
def setO (i : Nat) (ρ : Rho) (o : Option D) : Option Out := o.map fun d => .nx (ρ.set i (.fz d))
theorem TV (i : Nat) (f : FE) (ρ : Rho) : setF i f ρ = setO i ρ (f ρ) := of_eq_true (eq_self _)
theorem N_ (i : Nat) (ρ : Rho) (d : D) : setO i ρ (some d) = some (.nx (ρ.set i (.fz d))) := of_eq_true (eq_self _)
def retO (ρ : Rho) (o : Option D) : Option Out := o.map fun d => .rt d ρ
theorem TX (f : FE) (ρ : Rho) : retF f ρ = retO ρ (f ρ) := of_eq_true (eq_self _)
theorem OD (d : D) (ρ : Rho) : retO ρ (some d) = some (.rt d ρ) := of_eq_true (eq_self _)
theorem OJ (ρ : Rho) : retN ρ = some (.rt .non ρ) := of_eq_true (eq_self _)
def TY (ρ : Rho) (o : Option D) : Option Out := o.map fun _ => .nx ρ
theorem Oa (f : FE) (ρ : Rho) : V3 f ρ = TY ρ (f ρ) := of_eq_true (eq_self _)
theorem LQ (ρ : Rho) (d : D) : TY ρ (some d) = some (.nx ρ) := of_eq_true (eq_self _)
def b2 (g : D → D → Option D) (x y : Option D) : Option D := x.bind fun x => y.bind fun y => g x y
theorem e_b (g : D → D → Option D) (fa fb : FE) (ρ : Rho) : bF g fa fb ρ = b2 g (fa ρ) (fb ρ) := of_eq_true (eq_self _)
theorem e_bs (g : D → D → Option D) (x y : D) : b2 g (some x) (some y) = g x y := of_eq_true (eq_self _)
def b1 (g : D → Option D) (x : Option D) : Option D := x.bind g
theorem e_u (g : D → Option D) (fa : FE) (ρ : Rho) : uF g fa ρ = b1 g (fa ρ) := of_eq_true (eq_self _)
theorem e_us (g : D → Option D) (x : D) : b1 g (some x) = g x := of_eq_true (eq_self _)
def cl1 (g : List D → Option D) (x : Option (List D)) : Option D := x.bind g
theorem Ob (g : List D → Option D) (fs : FA) (ρ : Rho) : Dk g fs ρ = cl1 g (fs ρ) := of_eq_true (eq_self _)
theorem LR (g : List D → Option D) (ds : List D) : cl1 g (some ds) = g ds := of_eq_true (eq_self _)
def Tc (x : Option D) (y : Option (List D)) : Option (List D) := x.bind fun d => y.map (d :: ·)
theorem Oc (fa : FE) (fs : FA) (ρ : Rho) : Ab fa fs ρ = Tc (fa ρ) (fs ρ) := of_eq_true (eq_self _)
theorem La (d : D) (ds : List D) : Tc (some d) (some ds) = some (d :: ds) := of_eq_true (eq_self _)
theorem Td (ρ : Rho) : nilA ρ = some [] := of_eq_true (eq_self _)
def tupO (o : Option (List D)) : Option D := o.bind fun ds => if ds.length ≤ sizeLine then some (.tup ds) else none
def lstO (o : Option (List D)) : Option D := o.bind fun ds => if ds.length ≤ sizeLine then some (.lst ds) else none
theorem Te (fs : FA) (ρ : Rho) : tupF fs ρ = tupO (fs ρ) := of_eq_true (eq_self _)
theorem Tf (fs : FA) (ρ : Rho) : lstF fs ρ = lstO (fs ρ) := of_eq_true (eq_self _)
theorem Od : tupO (some []) = some (.tup []) := of_eq_true (eq_self _)
theorem Oe (a : D) : tupO (some [a]) = some (.tup [a]) := of_eq_true (eq_self _)
theorem Og (a b : D) : tupO (some [a, b]) = some (.tup [a, b]) := of_eq_true (eq_self _)
theorem Oh (a b c : D) : tupO (some [a, b, c]) = some (.tup [a, b, c]) := of_eq_true (eq_self _)
theorem Oi (a b c d : D) : tupO (some [a, b, c, d]) = some (.tup [a, b, c, d]) := of_eq_true (eq_self _)
theorem Oj (a b c d e : D) : tupO (some [a, b, c, d, e]) = some (.tup [a, b, c, d, e]) := of_eq_true (eq_self _)
theorem Ol : lstO (some []) = some (.lst []) := of_eq_true (eq_self _)
theorem Om (a : D) : lstO (some [a]) = some (.lst [a]) := of_eq_true (eq_self _)
theorem Oo (a b : D) : lstO (some [a, b]) = some (.lst [a, b]) := of_eq_true (eq_self _)
theorem Oq (a b c : D) : lstO (some [a, b, c]) = some (.lst [a, b, c]) := of_eq_true (eq_self _)
theorem Ot (a b c d : D) : lstO (some [a, b, c, d]) = some (.lst [a, b, c, d]) := of_eq_true (eq_self _)
theorem Ou (a b c d e : D) : lstO (some [a, b, c, d, e]) = some (.lst [a, b, c, d, e]) := of_eq_true (eq_self _)
theorem Ov (a b c d e f : D) : lstO (some [a, b, c, d, e, f]) = some (.lst [a, b, c, d, e, f]) := of_eq_true (eq_self _)
def blO (o : Option D) : Option Bool := match o with | some (.bl b) => some b | _ => none
theorem e_bl (f : FE) (ρ : Rho) : blF f ρ = blO (f ρ) := of_eq_true (eq_self _)
theorem Tg (b : Bool) : blO (some (.bl b)) = some b := of_eq_true (eq_self _)
def andO (o : Option Bool) (fb : FT) (ρ : Rho) : Option Bool := match o with | some true => fb ρ | some false => some false | none => none
def orO (o : Option Bool) (fb : FT) (ρ : Rho) : Option Bool := match o with | some true => some true | some false => fb ρ | none => none
theorem Ow (a b : FT) (ρ : Rho) : andT a b ρ = andO (a ρ) b ρ := of_eq_true (eq_self _)
theorem Lb (b : FT) (ρ : Rho) : andO (some true) b ρ = b ρ := of_eq_true (eq_self _)
theorem Ld (b : FT) (ρ : Rho) : andO (some false) b ρ = some false := of_eq_true (eq_self _)
theorem Th (a b : FT) (ρ : Rho) : orT a b ρ = orO (a ρ) b ρ := of_eq_true (eq_self _)
theorem Ox (b : FT) (ρ : Rho) : orO (some true) b ρ = some true := of_eq_true (eq_self _)
theorem Oz (b : FT) (ρ : Rho) : orO (some false) b ρ = b ρ := of_eq_true (eq_self _)
theorem O1 (a : FT) (ρ : Rho) : notT a ρ = (a ρ).map (!·) := of_eq_true (eq_self _)
def andP (o : Option D) (fb : FE) (ρ : Rho) : Option D := match o with | some (.bl true) => fb ρ | some (.bl false) => some (.bl false) | _ => none
def orP (o : Option D) (fb : FE) (ρ : Rho) : Option D := match o with | some (.bl true) => some (.bl true) | some (.bl false) => fb ρ | _ => none
def notP (o : Option D) : Option D := match o with | some (.bl b) => some (.bl (!b)) | _ => none
theorem O2 (a b : FE) (ρ : Rho) : andF a b ρ = andP (a ρ) b ρ := of_eq_true (eq_self _)
theorem Le (b : FE) (ρ : Rho) : andP (some (.bl true)) b ρ = b ρ := of_eq_true (eq_self _)
theorem Lf (b : FE) (ρ : Rho) : andP (some (.bl false)) b ρ = some (.bl false) := of_eq_true (eq_self _)
theorem Ti (a b : FE) (ρ : Rho) : orF a b ρ = orP (a ρ) b ρ := of_eq_true (eq_self _)
theorem O3 (b : FE) (ρ : Rho) : orP (some (.bl true)) b ρ = some (.bl true) := of_eq_true (eq_self _)
theorem O4 (b : FE) (ρ : Rho) : orP (some (.bl false)) b ρ = b ρ := of_eq_true (eq_self _)
theorem O5 (a : FE) (ρ : Rho) : notF a ρ = notP (a ρ) := of_eq_true (eq_self _)
theorem Lg (b : Bool) : notP (some (.bl b)) = some (.bl (!b)) := of_eq_true (eq_self _)
def ifP (o : Option Bool) (fa fb : FE) (ρ : Rho) : Option D := match o with | some true => fa ρ | some false => fb ρ | none => none
theorem Tj (t : FT) (a b : FE) (ρ : Rho) : ifF t a b ρ = ifP (t ρ) a b ρ := of_eq_true (eq_self _)
theorem O6 (a b : FE) (ρ : Rho) : ifP (some true) a b ρ = a ρ := of_eq_true (eq_self _)
theorem O7 (a b : FE) (ρ : Rho) : ifP (some false) a b ρ = b ρ := of_eq_true (eq_self _)
def sl3 (f : Option D) (l h : Option (Option Int)) : Option D := f.bind fun x => l.bind fun lo => h.bind fun hi => slD x lo hi
theorem e_sl (f : FE) (l h : FO) (ρ : Rho) : slF f l h ρ = sl3 (f ρ) (l ρ) (h ρ) := of_eq_true (eq_self _)
theorem Tn (x : D) (l h : Option Int) : sl3 (some x) (some l) (some h) = slD x l h := of_eq_true (eq_self _)
theorem Tp (ρ : Rho) : noO ρ = some none := of_eq_true (eq_self _)
def somO (o : Option D) : Option (Option Int) := match o with | some (.int i) => some (some i) | _ => none
theorem Lh (f : FE) (ρ : Rho) : someO f ρ = somO (f ρ) := of_eq_true (eq_self _)
theorem Jr (i : Int) : somO (some (.int i)) = some (some i) := of_eq_true (eq_self _)
def getO (o : Option Slot) : Option D := match o with | some (.fz d) => some d | _ => none
def getU (o : Option Slot) : Option D := match o with | some (.fz d) => some d | some (.ow d) => some d | _ => none
theorem e_v (i : Nat) (ρ : Rho) : vF i ρ = getO (ρ[i]?) := of_eq_true (eq_self _)
theorem e_vs (d : D) : getO (some (.fz d)) = some d := of_eq_true (eq_self _)
theorem e_vU (i : Nat) (ρ : Rho) : vU i ρ = getU (ρ[i]?) := of_eq_true (eq_self _)
theorem Tq (d : D) : getU (some (.fz d)) = some d := of_eq_true (eq_self _)
theorem Tr (d : D) : getU (some (.ow d)) = some d := of_eq_true (eq_self _)
theorem e_k (d : D) (ρ : Rho) : kF d ρ = some d := of_eq_true (eq_self _)
def seqO (o : Option D) : Option (List D) := match o with | some (.lst ds) => some ds | some (.tup ds) => some ds | _ => none
theorem O8 (f : FE) (ρ : Rho) : seqI f ρ = seqO (f ρ) := of_eq_true (eq_self _)
theorem Li (ds : List D) : seqO (some (.lst ds)) = some ds := of_eq_true (eq_self _)
theorem Lj (ds : List D) : seqO (some (.tup ds)) = some ds := of_eq_true (eq_self _)
def rngO (o : Option D) : Option (List D) := match o with | some (.int j) => if -(2 ^ 62) ≤ j ∧ j < 2 ^ 62 then some (rngD j.toNat) else none | _ => none
theorem O9 (f : FE) (ρ : Rho) : rngI f ρ = rngO (f ρ) := of_eq_true (eq_self _)
def forO (o : Option (List D)) (tg : FG) (b : FS) (ρ : Rho) : Option Out := o.bind fun ds => forF (tgB tg b) ds ρ
theorem Tt (src : FI) (tg : FG) (b : FS) (ρ : Rho) : forS src tg b ρ = forO (src ρ) tg b ρ := of_eq_true (eq_self _)
theorem O_ (ds : List D) (tg : FG) (b : FS) (ρ : Rho) : forO (some ds) tg b ρ = forF (tgB tg b) ds ρ := of_eq_true (eq_self _)
theorem Tu (ρ : Rho) : allT ρ = some true := of_eq_true (eq_self _)
def runO (o : Option Out) : Option D := match o with | some (.rt d _) => some d | some (.nx _) => some .non | _ => none
theorem Tv {n np : Nat} {b : FS} {ds : List D} (h : ds.length = np) : runF n np b ds = runO (b (Ca n ds)) := by
 unfold runF; rw [if_pos h]; rfl
theorem PB (d : D) (ρ : Rho) : runO (some (.rt d ρ)) = some d := of_eq_true (eq_self _)
theorem PJ (ρ : Rho) : runO (some (.nx ρ)) = some .non := of_eq_true (eq_self _)
theorem Tw {α β : Type} (f : α → β) (x : α) : Option.map f (some x) = some (f x) := of_eq_true (eq_self _)
theorem PK {α β : Type} (f : α → Option β) (x : α) : Option.bind (some x) f = f x := of_eq_true (eq_self _)
theorem Js (n : Nat) (ds : List D) : Ca n ds = ds.map .fz ++ List.replicate (n - ds.length) .un := of_eq_true (eq_self _)
theorem truB (b : Bool) : truD (.bl b) = some b := of_eq_true (eq_self _)
theorem Fv {α : Type} (l : List α) (k : Nat) : atI l (k : Int) = l[k]? := by
 unfold atI ixN
 rw [if_pos (by omega)]
 by_cases h : k < l.length
 ·rw [if_pos (by omega)]
  simp
 ·rw [if_neg (by omega), List.getElem?_eq_none (by omega)]
  rfl
theorem ix0 (x : D) (r : List D) : ixD (.lst (x :: r)) (.int 0) = some x := Fv _ 0
theorem ix1 (x y : D) (r : List D) : ixD (.lst (x :: y :: r)) (.int 1) = some y := Fv _ 1
theorem ix2 (x y z : D) (r : List D) : ixD (.lst (x :: y :: z :: r)) (.int 2) = some z := Fv _ 2
theorem ixt0 (x : D) (r : List D) : ixD (.tup (x :: r)) (.int 0) = some x := Fv _ 0
theorem ixt1 (x y : D) (r : List D) : ixD (.tup (x :: y :: r)) (.int 1) = some y := Fv _ 1
theorem ixt2 (x y z : D) (r : List D) : ixD (.tup (x :: y :: z :: r)) (.int 2) = some z := Fv _ 2
theorem ixt3 (x y z w : D) (r : List D) : ixD (.tup (x :: y :: z :: w :: r)) (.int 3) = some w := Fv _ 3
theorem e_tr (f : FE) (ρ : Rho) : trF f ρ = (f ρ).bind truD := of_eq_true (eq_self _)
theorem HR (x y : Str) : (x ++ y).length = x.length + y.length := by
 show (x.cps ++ y.cps).size = _
 simp [Str.length]
def Tz (i : Nat) (ρ : Rho) (o : Option D) : Option Out := o.map fun d => .nx (ρ.set i (.ow d))
theorem PL (i : Nat) (f : FE) (ρ : Rho) : setW i f ρ = Tz i ρ (f ρ) := of_eq_true (eq_self _)
theorem Lk (i : Nat) (ρ : Rho) (d : D) : Tz i ρ (some d) = some (.nx (ρ.set i (.ow d))) := of_eq_true (eq_self _)
def mutO (g : D → D → Option D) (i : Nat) (ρ : Rho) (x v : Option D) : Option Out := v.bind fun v => x.bind fun x => (g x v).map fun y => .nx (ρ.set i (.ow y))
def getW (o : Option Slot) : Option D := match o with | some (.ow d) => some d | _ => none
theorem T3 (g : D → D → Option D) (i : Nat) (f : FE) (ρ : Rho) : mutF g i f ρ = mutO g i ρ (getW ρ[i]?) (f ρ) := of_eq_true (eq_self _)
theorem PQ (g : D → D → Option D) (i : Nat) (ρ : Rho) (x v : D) : mutO g i ρ (some x) (some v) = (g x v).map fun y => .nx (ρ.set i (.ow y)) := of_eq_true (eq_self _)
theorem Pa (d : D) : getW (some (.ow d)) = some d := of_eq_true (eq_self _)
def forB (o : Option Out) (b : D → FS) (r : List D) : Option Out := match o with
  | some (.nx ρ') => forF b r ρ'
  | some (.ct ρ') => forF b r ρ'
  | some (.bk ρ') => some (.nx ρ')
  | some (.rt e ρ') => some (.rt e ρ')
  | none => none
theorem Jt (b : D → FS) (ρ : Rho) : forF b [] ρ = some (.nx ρ) := of_eq_true (eq_self _)
theorem Ig (b : D → FS) (d : D) (r : List D) (ρ : Rho) : forF b (d :: r) ρ = forB (b d ρ) b r := of_eq_true (eq_self _)
theorem Ln (b : D → FS) (r : List D) (ρ : Rho) : forB (some (.nx ρ)) b r = forF b r ρ := of_eq_true (eq_self _)
theorem Lp (b : D → FS) (r : List D) (ρ : Rho) : forB (some (.ct ρ)) b r = forF b r ρ := of_eq_true (eq_self _)
theorem Lq (b : D → FS) (r : List D) (ρ : Rho) : forB (some (.bk ρ)) b r = some (.nx ρ) := of_eq_true (eq_self _)
theorem Lr (b : D → FS) (r : List D) (d : D) (ρ : Rho) : forB (some (.rt d ρ)) b r = some (.rt d ρ) := of_eq_true (eq_self _)
def bndO (o : Option Rho) (b : FS) : Option Out := o.bind b
theorem e_tg (tg : FG) (b : FS) (d : D) (ρ : Rho) : tgB tg b d ρ = bndO (tg d ρ) b := of_eq_true (eq_self _)
theorem Pb (ρ : Rho) (b : FS) : bndO (some ρ) b = b ρ := of_eq_true (eq_self _)
theorem Ke (i : Nat) (d : D) (ρ : Rho) : LC i d ρ = some (ρ.set i (.fz d)) := of_eq_true (eq_self _)
end PV
namespace PV
open PySem L2
end PV
namespace PV
open PySem L2
abbrev FZ := Rho → Option (D × Rho)
abbrev FZA := Rho → Option (List D × Rho)
def Eh (g : List D → Option (D × D)) (i : Nat) (fs : FA) : FZ := fun ρ => (fs ρ).bind fun ds => (ownO ρ i).bind fun so => (g (so :: ds)).map fun r => (r.1, ρ.set i (.ow r.2))
def isOb (c m : Str) : D → Bool
 | .ob c' gs => decide (c' = c) && (gs.lookup m).isNone
 | _ => false
def Bg (c m : Str) (g : List D → Option (D × D)) (i : Nat) (fs : FA) : FZ := fun ρ => (ownO ρ i).bind fun so => if isOb c m so then (fs ρ).bind fun ds => (g (so :: ds)).map fun r => (r.1, ρ.set i (.ow r.2)) else none
def Pg (d : D) : Option D := match d with | .non => some d | .bl _ => some d | .int _ => some d | .str _ => some d | _ => none
def Ei (c m : Str) (g : List D → Option D) (i : Nat) (fs : FA) : FE := fun ρ => (ownO ρ i).bind fun so => if isOb c m so then (fs ρ).bind fun ds => (g (so :: ds)).bind Pg else none
def Ju (h : FZ) : FZA := fun ρ => (h ρ).map fun r => ([r.1], r.2)
def HS (f : FE) (h : FZA) : FZA := fun ρ => (f ρ).bind fun d => (h ρ).map fun r => (d :: r.1, r.2)
def setX (i : Nat) (h : FZ) : FS := fun ρ => (h ρ).map fun r => .nx (r.2.set i (.fz r.1))
def retX (h : FZ) : FS := fun ρ => (h ρ).map fun r => .rt r.1 r.2
def putG (f : Str) (v : D) : List (Str × D) → List (Str × D)
 | [] => [(f, v)]
 | (g, x) :: r => if g = f then (g, v) :: r else (g, x) :: putG f v r
def Ph (f : Str) (o v : D) : Option D := match o with | .ob c gs => if gs.length < 1000 then some (.ob c (putG f v gs)) else none | _ => none
def fldS (f : Str) (i : Nat) (fe : FE) : FS := fun ρ => (fe ρ).bind fun v => (ownO ρ i).bind fun o => (Ph f o v).map fun o' => .nx (ρ.set i (.ow o'))
def mkF (c : Str) (g : List D → Option (D × D)) (fs : FA) : FE := fun ρ => (fs ρ).bind fun ds => (g (.ob c [] :: ds)).bind fun r => match r.1 with | .non => some r.2 | _ => none
def Ek (n : Nat) : List D → Rho
 | [] => []
 | so :: ds => .ow so :: (ds.map .fz ++ List.replicate (n - (ds.length + 1)) .un)
def endS (d : D) (ρ : Rho) : Option (D × D) := (getW (ρ[0]? : Option Slot)).map fun so => (d, so)
def runS (n np : Nat) (b : FS) (ds : List D) : Option (D × D) := if ds.length = np then (match b (Ek n ds) with | some (.rt d ρ) => endS d ρ | some (.nx ρ) => endS .non ρ | _ => none) else none
end PV
namespace L2
open PySem PySem.Spec PyProof.Rows
def clOf (cells : List (Str × Addr)) : List (Str × NameKind) → List (Str × Addr) → List (Str × Addr)
 | [], cs => cs
 | y :: r, cs => if y.2 == .free then clOf cells r ((y.1, (cells.lookup y.1).getD 0) :: cs) else clOf cells r cs
theorem HW {cells : List (Str × Addr)} {x : Str} {c : Addr} : ∀ {names : List (Str × NameKind)} {cs : List (Str × Addr)}, (∀ y ∈ names, y.2 = .free → ∃ c, cells.lookup y.1 = some c) →
  (clOf cells names cs).lookup x = some c → cs.lookup x = some c ∨ cells.lookup x = some c
 | [], _, _, h => .inl h
 | y :: r, cs, hf, h => by
  unfold clOf at h
  split at h
  ·rename_i hk
   have hk' : y.2 = .free := by simpa using hk
   obtain ⟨c', hc⟩ := hf y List.mem_cons_self hk'
   rcases HW (fun z hz => hf z (List.mem_cons_of_mem _ hz)) h with q | q
   ·rw [List.lookup_cons] at q
    split at q
    ·rename_i e
     have e' : x = y.1 := by simpa using e
     rw [hc] at q
     subst e'
     right
     rw [hc]; simpa using q
    ·exact .inl q
   ·exact .inr q
  ·exact HW (fun z hz => hf z (List.mem_cons_of_mem _ hz)) h
theorem Gg {cells : List (Str × Addr)} {x : Str} : ∀ {names : List (Str × NameKind)} {cs : List (Str × Addr)}, (∃ c, cs.lookup x = some c) → ∃ c, (clOf cells names cs).lookup x = some c
 | [], _, h => h
 | y :: r, cs, h => by
  unfold clOf
  split
  ·apply Gg
   rw [List.lookup_cons]
   split
   ·exact ⟨_, rfl⟩
   ·exact h
  ·exact Gg h
theorem El {cells : List (Str × Addr)} {x : Str} : ∀ {names : List (Str × NameKind)} {cs : List (Str × Addr)}, (x, NameKind.free) ∈ names → ∃ c, (clOf cells names cs).lookup x = some c
 | [], _, h => by cases h
 | y :: r, cs, h => by
  unfold clOf
  rcases List.mem_cons.mp h with e | h
  ·subst e
   rw [if_pos (by rfl)]
   apply Gg
   rw [List.lookup_cons]
   simp
  ·split
   ·exact El h
   ·exact El h
theorem Ls {env : Env} : ∀ (names : List (Str × NameKind)) (cs : List (Str × Addr)), (∀ y ∈ names, y.2 = .free → ∃ c, env.cells.lookup y.1 = some c) →
  (forIn names cs (fun x r => match x with
   | (name, kind) => if (kind == NameKind.free) = true then do let a ← cellOf env name; pure (ForInStep.yield ((name, a) :: r)) else pure (ForInStep.yield r)) : Sem (List (Str × Addr))) = pure (clOf env.cells names cs)
 | [], _, _ => rfl
 | (n, k) :: r, cs, hf => by
  have ih := fun cs => Ls r cs (fun z hz => hf z (List.mem_cons_of_mem _ hz))
  rw [List.forIn_cons]
  by_cases hk : (k == NameKind.free) = true
  ·obtain ⟨c, hc⟩ := hf (n, k) List.mem_cons_self (by simpa using hk)
   have hc' : env.cells.lookup n = some c := hc
   have e : cellOf env n = pure c := by unfold cellOf; rw [hc']
   simp only [hk, if_true, e]
   show (forIn r ((n, c) :: cs) _ : Sem _) = _
   rw [ih]
   conv => rhs; unfold clOf
   simp only [hk, if_true, hc', Option.getD_some]
  ·simp only [hk, if_false]
   show (forIn r cs _ : Sem _) = _
   rw [ih]
   conv => rhs; unfold clOf
   simp only [hk, if_false]
   rfl
theorem Hx {scope : Scope} {env : Env} (hf : ∀ y ∈ scope.names, y.2 = .free → ∃ c, env.cells.lookup y.1 = some c) : closureFor scope env = pure (clOf env.cells scope.names []) := by
 have h := Ls (env := env) scope.names [] hf
 unfold closureFor
 show ((forIn scope.names [] _ : Sem _) >>= fun r => pure r) = _
 exact (congrArg (fun m => m >>= fun r => pure r) h)
theorem Bt {env : Env} {x : Str} {k : NameKind} : ∀ {names : List (Str × NameKind)}, (names.map fun (n, k) => if (k == NameKind.free && env.scope.kind == .function && env.kindOf n == some .cell) then (n, NameKind.cell) else (n, k)).lookup x = some k →
  ∃ k', (x, k') ∈ names ∧ (k' = k ∨ (k' = .free ∧ k = .cell))
 | [], h => by simp at h
 | (n, k0) :: r, h => by
  rw [List.map_cons] at h
  have ih := @Bt env x k r
  by_cases hc : (k0 == NameKind.free && env.scope.kind == .function && env.kindOf n == some .cell) = true
  ·simp only [hc, if_true] at h
   rw [List.lookup_cons] at h
   split at h
   ·rename_i e
    have e' : x = n := by simpa using e
    subst e'
    have hk0 : k0 = .free := by
     rw [Bool.and_eq_true, Bool.and_eq_true] at hc
     simpa using hc.1.1
    cases h
    exact ⟨k0, List.mem_cons_self, .inr ⟨hk0, rfl⟩⟩
   ·obtain ⟨k', h1, h2⟩ := ih h
    exact ⟨k', List.mem_cons_of_mem _ h1, h2⟩
  ·simp only [hc, if_false] at h
   rw [List.lookup_cons] at h
   split at h
   ·rename_i e
    have e' : x = n := by simpa using e
    subst e'
    cases h
    exact ⟨k0, List.mem_cons_self, .inl rfl⟩
   ·obtain ⟨k', h1, h2⟩ := ih h
    exact ⟨k', List.mem_cons_of_mem _ h1, h2⟩
def Ck (t : Str) (N : List Str) : List Str := N.map fun y => if y = t then Str.empty else y
def D_ (X : Cx) (scope : Scope) (t : Str) (s2 : Shared) (H2 : Hp) (fp : List Addr) : Cx :=
 { X with N := Ck t X.N ++ [t], s₀ := s2, H₀ := H2, env := compEnvC scope (clOf X.env.cells scope.names []) (s2.heap.objs.size + 1) X.env, outer := X.stack, ex := fp, fn := fun _ => false, pn := [], xe := fun _ _ => False }
structure CompOk (X : Cx) (scope : Scope) (t : Str) : Prop where
 nocell : ∀ y ∈ scope.names, y.2 ≠ .cell
 kind : scope.kind = .function
 names : ∀ y ∈ scope.names, y.2 = .local → scope.names.lookup y.1 = some .local
 tl : scope.names.lookup t = some .local
 loc : ∀ y ∈ scope.names, y.2 = .local → y.1 = t ∨ y.1 ∉ X.N
 fre : ∀ y ∈ scope.names, y.2 = .free → X.env.kindOf y.1 = some .cell ∨ X.env.kindOf y.1 = some .free
 emp : ∀ y ∈ scope.names, y.1 ≠ Str.empty
 nd : (Ck t X.N ++ [t]).Nodup
section
variable {X : Cx} {scope : Scope} {t : Str}
theorem CompOk.cells (c : CompOk X scope t) (ok : X.Ok) : ∀ y ∈ scope.names, y.2 = .free → ∃ c, X.env.cells.lookup y.1 = some c := fun y hy hf => ok.has y.1 (c.fre y hy hf)
theorem CompOk.sub (c : CompOk X scope t) (ok : X.Ok) {x : Str} {a : Addr} (h : (clOf X.env.cells scope.names []).lookup x = some a) : X.env.cells.lookup x = some a := by
 rcases HW (c.cells ok) h with q | q
 ·simp at q
 ·exact q
theorem CompOk.inv {pins : List (Addr × Obj)} {σ : St} {H : Hp} {s : Shared} {fp : List Addr} {h1 : Heap} {tk : Nat} (c : CompOk X scope t) (I : Inv X pins σ H s) (hf : ∀ b ∈ fp, FpOk X pins H b) (ho : ∀ b ∈ fp, ∃ o, s.heap.get? b = some o)
  (hns : h1.Ns (s.heap.objs.size + 1) (fun _ => none)) (kp : ∀ b o, s.heap.get? b = some o → h1.get? b = some o) (hacc : h1.get? s.heap.objs.size = some { cls := .type "list", data := .seq #[] }) :
  Inv (D_ X scope t s H fp) [] (σ ++ [none]) (upd H s.heap.objs.size (.lst [])) { s with heap := h1, toks := tk } := by
 have lt_of : ∀ b o, s.heap.get? b = some o → b < s.heap.objs.size := fun b o e => Heap.lt_size e
 have ok' : (D_ X scope t s H fp).Ok := by
  refine ⟨I.ok.mod, c.kind, I.ok.glob, I.ok.blt, Nat.le_succ _, fun x y a h1 h2 => I.ok.inj x y a (c.sub I.ok h1) (c.sub I.ok h2), fun x hx => ?_, fun x a h _ => absurd (show false = true from h) Bool.false_ne_true, I.ok.hd, I.ok.frames, .inl rfl, fun b hb => ⟨?_, fun x a h => ?_⟩, I.bs, Nat.le_trans I.ok.bsz I.sz, fun b o e hb => ?_, fun b hb hs => ?_, I.stack, I.stkFree⟩
  ·have hx' : (relabel scope X.env).names.lookup x = some .cell ∨ (relabel scope X.env).names.lookup x = some .free := hx
   have go : ∀ k, (relabel scope X.env).names.lookup x = some k → (k = .cell ∨ k = .free) → (x, NameKind.free) ∈ scope.names := fun k hk hkk => by
    obtain ⟨k', m, e⟩ := Bt hk
    rcases e with e | ⟨e, _⟩
    ·subst e
     rcases hkk with z | z
     ·exact absurd z (c.nocell _ m)
     ·rw [← z]; exact m
    ·rw [← e]; exact m
   rcases hx' with h | h
   ·exact El (go _ h (.inl rfl))
   ·exact El (go _ h (.inr rfl))
  ·obtain ⟨o, e⟩ := ho b hb
   exact Nat.ne_of_lt (Nat.lt_succ_of_lt (lt_of b o e))
  ·exact (hf b hb).2.2.2.2.1 x a (c.sub I.ok h)
  ·rcases (hf b hb).2.2.2.1 with z | z
   ·exact I.ok.noex b o e z
   ·exact absurd (Nat.lt_of_lt_of_le (Heap.lt_size e) (Nat.le_trans I.ok.bsz z)) (Nat.lt_irrefl _)
  ·rcases List.mem_cons.mp (I.stkSub b hs) with z | z
   ·exact (hf b hb).2.1 z
   ·exact (hf b hb).2.2.1 z
 have fr : H s.heap.objs.size = none := I.hok.fresh (Nat.le_refl _)
 have new : Be X.prog X.w (upd H s.heap.objs.size (.lst [])) h1 s.heap.objs.size (.lst []) := ⟨Nat.zero_le _, [], 0, .nil, hacc⟩
 refine ⟨ok', rfl, I.bare, Un.laid kp (Nat.le_refl _) fr, ⟨_, hns, fun i x v e1 e2 e3 => ?_⟩, fun x a h => ?_, ?_, fun x a h => ?_, fun p hp => absurd (show p ∈ ([] : List (Addr × Obj)) from hp) (by simp), I.hok.laid kp (Nat.le_refl _) new, ?_⟩
 ·have e1' : (Ck t X.N ++ [t])[i]? = some x := e1
  have hil : i < σ.length := by
   by_cases z : i < σ.length
   ·exact z
   ·rw [List.getElem?_append_right (by omega)] at e2
    cases q : i - σ.length with
    | zero => rw [q] at e2; cases e2
    | succ n => rw [q] at e2; simp at e2
  have e2' : σ[i]? = some (some v) := by rw [List.getElem?_append_left hil] at e2; exact e2
  have hN : i < X.N.length := by rw [← I.len]; exact hil
  have e1'' : (Ck t X.N)[i]? = some x := by rw [List.getElem?_append_left (by unfold Ck; rw [List.length_map]; exact hN)] at e1'; exact e1'
  unfold Ck at e1''
  rw [List.getElem?_map] at e1''
  have e3' : (relabel scope X.env).names.lookup x = some .local ∨ (relabel scope X.env).names.lookup x = some .cell ∨ (relabel scope X.env).names.lookup x = some .free := e3
  have hin : ∃ k', (x, k') ∈ scope.names ∧ (k' = .local ∨ k' = .free) ∧ (k' = .free → (relabel scope X.env).names.lookup x = some .cell ∨ (relabel scope X.env).names.lookup x = some .free) := by
   rcases e3' with z | z | z
   ·obtain ⟨k', m, e⟩ := Bt z
    rcases e with e | ⟨_, e⟩
    ·exact ⟨k', m, .inl e, fun q => by rw [q] at e; cases e⟩
    ·cases e
   ·obtain ⟨k', m, e⟩ := Bt z
    rcases e with e | ⟨e, _⟩
    ·exact absurd e (c.nocell _ m)
    ·exact ⟨k', m, .inr e, fun _ => .inl z⟩
   ·obtain ⟨k', m, e⟩ := Bt z
    rcases e with e | ⟨e, q⟩
    ·exact ⟨k', m, .inr e, fun _ => .inr z⟩
    ·cases q
  cases ey : X.N[i]? with
  | none => rw [ey] at e1''; cases e1''
  | some y =>
   rw [ey] at e1''
   have e1z : (if y = t then Str.empty else y) = x := Option.some.inj e1''
   obtain ⟨k', m, hk', hfr⟩ := hin
   by_cases hyt : y = t
   ·rw [if_pos hyt] at e1z
    exact absurd e1z.symm (c.emp _ m)
   ·rw [if_neg hyt] at e1z
    subst e1z
    rcases hk' with hk' | hk'
    ·rcases c.loc _ m hk' with z | z
     ·exact absurd z hyt
     ·exact absurd (List.mem_of_getElem? ey) z
    ·have hkk := c.fre _ m hk'
     have hkk' : X.env.kindOf y = some .cell ∨ X.env.kindOf y = some .free := hkk
     obtain ⟨mm, hn, hl⟩ := I.loc
     have hv : Vis X.env.scope y := by
      rcases hkk' with z | z
      ·exact .inr (.inl z)
      ·exact .inr (.inr z)
     obtain ⟨u, r, l⟩ := hl i y v ey e2' hv
     refine ⟨u, r, .inr ⟨hfr hk', ?_⟩⟩
     rcases l with ⟨kl, _⟩ | ⟨_, a, ea, hc⟩
     ·rcases hkk' with z | z
      ·rw [kl] at z; cases z
      ·rw [kl] at z; cases z
     ·rw [hk'] at m
      obtain ⟨a', ha'⟩ := El (cells := X.env.cells) (cs := []) m
      refine ⟨a', ha', ?_⟩
      have := c.sub I.ok ha'
      rw [ea] at this
      cases this
      obtain ⟨o, e, d⟩ := hc
      exact ⟨o, kp _ _ e, d⟩
 ·obtain ⟨v, o, e, d⟩ := I.cell x a (c.sub I.ok h)
  exact ⟨v, o, kp _ _ e, d⟩
 ·show upd H s.heap.objs.size (.lst []) (s.heap.objs.size + 1) = none
  rw [Ad (Nat.succ_ne_self _)]
  exact I.hok.fresh (Nat.le_succ _)
 ·have ha := c.sub I.ok h
  obtain ⟨v, o, e, d⟩ := I.cell x a ha
  rw [Ad (Nat.ne_of_lt (lt_of _ _ e))]
  exact I.freeC x a ha
 ·show (σ ++ [none]).length = (Ck t X.N ++ [t]).length
  unfold Ck
  rw [List.length_append, List.length_append, List.length_map, I.len]
  rfl
def T4 (wi : TI) (tc : TT) (te : TE) : TE := fun σ H Q => wi σ H fun J H1 => ∀ p, H1 p = none → ∃ W : Nat → Nat → List V → Hp → Prop, (∃ m, W 0 m [] (upd H1 p (.lst []))) ∧
 ∀ i m ys H, W i m ys H → (J.stop i H ∧ Q (.ref p) H) ∨ (J.go i H ∧ ∀ x H', J.yld i H x H' → tc (σ ++ [some x]) H' fun b H2 =>
  if b = true then te (σ ++ [some x]) H2 fun y H3 => H3 p = some (.lst ys) ∧ ys.length < sizeLine ∧ ∃ m', m' < m ∧ W (i + 1) m' (ys ++ [y]) (upd H3 p (.lst (ys ++ [y]))) else ∃ m', m' < m ∧ W (i + 1) m' ys H2)
def PTs (X : Cx) (ifs : List Expr) (tc : TT) : Prop :=
 ∀ (pins : List (Addr × Obj)) (s : Shared) (σ : St) (H : Hp) (Q : Bool → Hp → Prop), Inv X pins σ H s → tc σ H Q →
  wpAny (model X.prog X.w) X.A (forIn ifs true fun c r => if r = true then do let ok ← isTrue c X.env (eval c X.env); pure (ForInStep.yield ok) else pure (ForInStep.yield r)) (TP X pins σ Q) X.xe s
theorem RV : PTs X [] (fun _ H Q => Q true H) := fun _ _ _ H _ I h => wpAny_tests_nil ⟨H, I, h⟩
variable {elt iter : Expr} {ifs : List Expr} {px pos : Pos} {wi : TI} {tc : TT} {te : TE}
theorem Kf {pins : List (Addr × Obj)} {s : Shared} {σ : St} {H : Hp} {Q : VK} {it : Addr} {fp : List Addr} {tn : Nat → Heap → Prop} {J : It} {E : Value → Shared → Prop} {RR : Value → Addr → Result → Shared → Prop} (c : CompOk X scope t) (hc : X.calm = true)
    (I : Inv X pins σ H s) (T : Turn X.prog X.w X.K (.Name t px) J fp it tn) (st0 : tn 0 s.heap) (hf : ∀ b ∈ fp, FpOk X pins H b)
    (hI : ∀ s2 H2 fp, PTs (D_ X scope t s2 H2 fp) ifs tc) (hE : ∀ s2 H2 fp, PE (D_ X scope t s2 H2 fp) elt te)
    (h : ∀ p, H p = none → ∃ W : Nat → Nat → List V → Hp → Prop, (∃ m, W 0 m [] (upd H p (.lst []))) ∧
      ∀ i m ys H, W i m ys H → (J.stop i H ∧ Q (.ref p) H) ∨ (J.go i H ∧ ∀ x H', J.yld i H x H' → tc (σ ++ [some x]) H' fun b H2 =>
        if b = true then te (σ ++ [some x]) H2 fun y H3 => H3 p = some (.lst ys) ∧ ys.length < sizeLine ∧ ∃ m', m' < m ∧ W (i + 1) m' (ys ++ [y]) (upd H3 p (.lst (ys ++ [y]))) else ∃ m', m' < m ∧ W (i + 1) m' ys H2))
    (hRR : ∀ p C s' H' m, Inv X pins σ H' s' → H' C = none → C ≠ X.env.locals → X.s₀.heap.objs.size ≤ C → (∀ x a, X.env.cells.lookup x = some a → a ≠ C) → (∀ q ∈ X.pn ++ pins, q.1 ≠ C) → s'.heap.Ns C m → Q (.ref p) H' → RR (.ref p) C (.ok .next) s') :
    wpAny (model X.prog X.w) X.A (newList []) (fun acc s₃ => wpAny (model X.prog X.w) X.A (newFunctionEnv scope X.env.globals (clOf X.env.cells scope.names []) [] X.env.qual none .none (some X.env)) (fun cenv s₄ =>
      codeAny (model X.prog X.w) X.A (.compStart (.ListComp elt [⟨.Name t px, iter, ifs, 0⟩] scope pos) 0 (.ref it) acc { cenv with scope := relabel scope X.env }) (RR acc cenv.locals) s₄) E s₃) E s := by
  refine wpAny_newObj_type (wpAny_newFunctionEnv c.nocell (by intro y hy; simp at hy) (fun h₁ hns₁ hsb₁ => ?_) c.kind)
  dsimp only at hns₁ hsb₁ ⊢
  generalize hH2 : s.heap.push { cls := .type "list", dict := none, data := .seq ([] : List Value).toArray } = G2 at hns₁ hsb₁ ⊢
  have hC : G2.objs.size = s.heap.objs.size + 1 := by rw [← hH2, Heap.size_push]
  rw [hC] at hns₁ hsb₁ ⊢
  have kp : ∀ b o, s.heap.get? b = some o → h₁.get? b = some o := fun b o e => hsb₁.extBut b o (Nat.ne_of_lt (Nat.lt_succ_of_lt (Heap.lt_size e))) (Heap.get?_push_of_some _ (hH2 ▸ Heap.get?_push_of_some _ e))
  have hacc : h₁.get? s.heap.objs.size = some { cls := .type "list", data := .seq #[] } := hsb₁.extBut _ _ (Nat.ne_of_lt (Nat.lt_succ_self _)) (Heap.get?_push_of_some _ (hH2 ▸ Heap.get?_push_size _ rfl))
  have hob : ∀ b ∈ fp, ∃ o, s.heap.get? b = some o := fun b hb => let ⟨o, e, _⟩ := T.obj 0 _ st0 b hb; ⟨o, e⟩
  have I0 := c.inv (fp := fp) (h1 := h₁) (tk := s.toks + ([] : List (Str × Value)).length) I hf hob (by simpa using hns₁) kp hacc
  have fr : H s.heap.objs.size = none := I.hok.fresh (Nat.le_refl _)
  obtain ⟨W, ⟨m0, w0⟩, turn⟩ := h _ fr
  have st1 : tn 0 h₁ := T.keep 0 _ _ st0 fun b _ o e => kp b o e
  generalize hX : D_ X scope t s H fp = Y at I0
  have hcY : Y.calm = true := by rw [← hX]; exact hc
  have stat : ∀ {H' : Hp}, (∀ b ∈ fp, H' b = none) → ∀ b ∈ fp, FpOk Y [] H' b := fun {H'} hn b hb => by
    obtain ⟨o, e⟩ := hob b hb
    refine ⟨hn b hb, ?_, ?_, .inl ?_, fun x a e' => ?_, fun p hp => ?_⟩
    · rw [← hX]; exact Nat.ne_of_lt (Nat.lt_succ_of_lt (Heap.lt_size e))
    · intro z
      exact I0.ok.exfs b (by rw [← hX]; exact hb) z
    · rw [← hX]; exact hb
    · exact (I0.ok.exf b (by rw [← hX]; exact hb)).2 x a e'
    · rw [← hX] at hp
      exact absurd (show p ∈ ([] : List (Addr × Obj)) from hp) (by simp)
  have fp0 : ∀ b ∈ fp, upd H s.heap.objs.size (.lst []) b = none := fun b hb => by
    obtain ⟨o, e⟩ := hob b hb
    rw [Ad (Nat.ne_of_lt (Heap.lt_size e))]
    exact (hf b hb).1
  have envY : Y.env = compEnvC scope (clOf X.env.cells scope.names []) (s.heap.objs.size + 1) X.env := by rw [← hX]; rfl
  have pY : Y.prog = X.prog := by rw [← hX]; rfl
  have wY : Y.w = X.w := by rw [← hX]; rfl
  have aY : Y.A = X.A := by rw [← hX]; rfl
  have kY : Y.K = X.K := by rw [← hX]; rfl
  have xY : Y.xe = fun _ _ => False := by rw [← hX]; rfl
  have nY : Y.N = Ck t X.N ++ [t] := by rw [← hX]; rfl
  have lenN : (Ck t X.N).length = σ.length := by unfold Ck; rw [List.length_map, I.len]
  have hIY : PTs Y ifs tc := by rw [← hX]; exact hI s H fp
  have hEY : PE Y elt te := by rw [← hX]; exact hE s H fp
  have setE : ∀ (o : Option V) (v : V), (σ ++ [o]).set (Ck t X.N).length (some v) = σ ++ [some v] := fun o v => by
    rw [lenN, List.set_append_right _ _ (Nat.le_refl _), Nat.sub_self]
    rfl
  have loop : ∀ s₃ : Shared, s₃ = { s with heap := h₁, toks := s.toks + ([] : List (Str × Value)).length } →
      codeAny (model X.prog X.w) X.A (.compLoop (.ListComp elt [⟨.Name t px, iter, ifs, 0⟩] scope pos) 0 (.ref it) (.ref s.heap.objs.size) (compEnvC scope (clOf X.env.cells scope.names []) (s.heap.objs.size + 1) X.env)) (RR (.ref s.heap.objs.size) (s.heap.objs.size + 1)) s₃ := by
    rintro s₃ rfl
    rw [← envY]
    refine codeAny_compLoop_tests (fun n s' => ∃ i ys o H', Inv Y [] (σ ++ [o]) H' s' ∧ tn i s'.heap ∧ (∀ b ∈ fp, H' b = none) ∧ W i n ys H') ?_ m0 ⟨0, [], none, _, I0, st1, fp0, w0⟩
    rintro n s3 ⟨i, ys, o, H3, I3, st3, fr3, w3⟩
    rcases turn i n ys H3 w3 with ⟨stop, qn⟩ | ⟨go, step⟩
    · have d := T.done Y pY wY kY hcY i [] s3 _ H3 (fun _ _ => False) I3 (stat fr3) st3 stop
      rw [aY] at d
      refine wpAny_mono d (fun r s4 ⟨hr, I4⟩ => ?_) fun _ _ z => z.elim
      subst hr
      have cN := I4.free
      have cN' : H3 (s.heap.objs.size + 1) = none := by rw [envY] at cN; exact cN
      have un := I4.base
      obtain ⟨m, hm, _⟩ := I4.loc
      have hm' : s4.heap.Ns (s.heap.objs.size + 1) m := by rw [envY] at hm; exact hm
      have un' : Un (frs X.stack) fp H H3 s.heap s4.heap := by rw [← hX] at un; exact un
      have os' : s4.os = s.os := by have := I4.os; rw [← hX] at this; exact this
      have hok' : HOk X.prog X.w H3 s4.heap := by have := I4.hok; rw [← hX] at this; exact this
      have bare' := I4.bare
      have IX : Inv X pins σ H3 s4 := I.call' os' un' hok' bare' fun b hb => ⟨(hf b hb).2.2.2.1, (hf b hb).2.1, (hf b hb).2.2.2.2.1, (hf b hb).2.2.2.2.2⟩
      refine hRR _ _ _ _ m IX cN' (Nat.ne_of_gt (Nat.lt_succ_of_lt I.lt)) (Nat.le_trans I.sz (Nat.le_succ _)) (fun x a e z => ?_) (fun q hq z => ?_) hm' qn
      · obtain ⟨v, oc, e', _⟩ := I.cell x a e
        have q2 : a < s.heap.objs.size := Heap.lt_size e'
        have z' : a = s.heap.objs.size + 1 := z
        exact absurd (z' ▸ q2) (Nat.not_lt.mpr (Nat.le_succ _))
      · have q2 : q.1 < s.heap.objs.size := Heap.lt_size (I.pin q hq).1
        have z' : q.1 = s.heap.objs.size + 1 := z
        exact absurd (z' ▸ q2) (Nat.not_lt.mpr (Nat.le_succ _))
    · have d := T.item Y pY wY kY hcY i [] s3 _ H3 (fun _ _ => False) I3 (stat fr3) st3 go
      rw [aY] at d
      refine wpAny_mono d (fun r s4 ⟨u, hr, h4⟩ => ?_) fun _ _ z => z.elim
      subst hr
      intro Γ pp hΓ
      obtain ⟨x, H5, I5, r5, y5, st5, fr5⟩ := (show ∃ x H', Inv Y [] (σ ++ [o]) H' s4 ∧ RelV x u ∧ J.yld i H3 x H' ∧ tn (i + 1) s4.heap ∧ ∀ b ∈ fp, H' b = none from h4 Γ pp hΓ)
      revert Γ pp
      show wpAny (model X.prog X.w) X.A _ _ _ s4
      have I5' := I5.pinned (stat fr5) (T.obj _ _ st5)
      have hiY : Y.N[(Ck t X.N).length]? = some t := by rw [nY, List.getElem?_append_right (Nat.le_refl _), Nat.sub_self]; rfl
      have htl : Y.env.scope.names.lookup t = some .local := by rw [envY]; exact lookup_relabel_local c.tl
      refine wpAny_assign_Name (GF (i := (Ck t X.N).length) (v := x) I5' (by rw [nY]; exact c.nd) hiY (.inl htl) r5 (fun s6 I6 => ?_) (.inr htl))
      rw [setE] at I6
      have q := step x H5 y5
      have tst := hIY _ s6 _ H5 _ I6 q
      rw [aY, pY, wY, xY] at tst
      refine wpAny_mono tst (fun b s7 ⟨H7, I7, q7⟩ => ?_) fun _ _ z => z.elim
      have back : ∀ {H8 : Hp} {s8 : Shared}, Inv Y ([] ++ G9 fp s4.heap) (σ ++ [some x]) H8 s8 → tn (i + 1) s8.heap ∧ ∀ b ∈ fp, H8 b = none := fun {H8 s8} I8 => by
        refine ⟨T.keep _ _ _ st5 fun b hb ob e => (I8.pin (b, ob) (List.mem_append_right _ (List.mem_append_right _ (Dw hb e)))).1, fun b hb => ?_⟩
        obtain ⟨ob, e, d⟩ := T.obj _ _ st5 b hb
        exact (I8.pin (b, ob) (List.mem_append_right _ (List.mem_append_right _ (Dw hb e)))).2.1
      cases b with
      | false =>
        rw [if_neg Bool.false_ne_true] at q7 ⊢
        obtain ⟨m', hm, w7⟩ := q7
        obtain ⟨t7, f7⟩ := back I7
        exact ⟨m', hm, i + 1, ys, some x, H7, I7.unpinned, t7, f7, w7⟩
      | true =>
        rw [if_pos rfl] at q7 ⊢
        have ev := hEY _ s7 _ H7 _ I7 q7
        rw [aY, pY, wY, xY] at ev
        refine wpAny_mono ev (fun y s8 ⟨yv, H8, I8, r8, hp8, hz8, m', hm, w8⟩ => ?_) fun _ _ z => z.elim
        have ap := Mw (X := Y) _ s8 _ H8 (.ref s.heap.objs.size) [yv] (.ref s.heap.objs.size) [y] (fun _ H9 => H9 = upd H8 s.heap.objs.size (.lst (ys ++ [yv]))) I8 rfl (.cons r8 .nil) ⟨_, ys, yv, rfl, rfl, hp8, hz8, rfl⟩
        rw [aY, pY, wY, xY] at ap
        refine wpAny_mono ap (fun _ s9 ⟨_, H9, I9, _, e9⟩ => ?_) fun _ _ z => z.elim
        subst e9
        obtain ⟨t9, f9⟩ := back I9
        exact ⟨m', hm, i + 1, _, some x, _, I9.unpinned, t9, f9, w8⟩
  exact codeAny_compStart_list (loop _ rfl) (T.self X.A 0 _ _ _ st1 (loop _ rfl))
theorem RW (c : CompOk X scope t) (hc : X.calm = true) (hi : PI X (.Name t px) iter wi) (hI : ∀ s2 H2 fp, PTs (D_ X scope t s2 H2 fp) ifs tc) (hE : ∀ s2 H2 fp, PE (D_ X scope t s2 H2 fp) elt te)
  (hs : ∀ x, foldedSetIterable iter X.env x = pure x := by intro _; rfl) : PE X (.ListComp elt [⟨.Name t px, iter, ifs, 0⟩] scope pos) (T4 wi tc te) := by
 intro pins s σ H Q I h
 rw [eval_ListComp]
 refine wpAny_comprehension_free (use := none) rfl hs (Hx (c.cells I.ok)) c.kind c.names (thn (hi pins s σ H _ I h) fun v s1 h1 => thn h1 fun itv s2 h2 => ?_)
 obtain ⟨it, fp, tn, J, H2, e, I2, T, st2, f2, q⟩ := h2
 subst e
 refine Kf (Q := Q) c hc I2 T st2 f2 hI hE q fun p C s' H' m I' n1 n2 n3 n4 n5 hm q' => ?_
 exact ⟨m, hm, fun h' sb => ⟨.ref p, H', I'.turned (t' := s'.toks) (fun b o hb e => (sb.2 b hb).trans e) n1 (Ne.symm (Ne.symm n2)) (.inr n3) n4 n5, rfl, q'⟩⟩
end
end L2
namespace PV
open PySem PySem.Spec L2
open PyProof.Rows hiding St
structure Gx where
 K : PySem.W.Frag
 cl : Str → Option Addr
 xcl : Str → Option Addr := fun _ => none
 lent : Option Addr := none
theorem Dl {K : PySem.W.Frag} {H H' : Hp} {a : Addr} {xs : List V} (e : Same H H') (h : SqT K H a xs) : SqT K H' a xs := by
 rcases h with (h | ⟨o, h⟩) | h
 ·exact .inl (.inl (e _ _ h))
 ·exact .inl (.inr ⟨o, e _ _ h⟩)
 ·exact .inr h
theorem Bc {H : Hp} {p : Addr} (h : H p = none) (o : HO) : Same H (upd H p o) := fun b u q => by rw [Ad (Af q h)]; exact q
def FsV (fs : List (Str × V)) (gs : List (Str × D)) : Prop := fs.map (fun p => (p.1, some p.2)) = gs.map fun p => (p.1, flV p.2)
inductive Rep (G : Gx) (H : Hp) : V → D → Prop
 | non : Rep G H .non .non
 | bl (b : Bool) : Rep G H (.bl b) (.bl b)
 | int (i : Int) : Rep G H (.int i) (.int i)
 | str (x : Str) : Rep G H (.str x) (.str x)
 | tup {a : Addr} {xs : List V} {ds : List D} : SqT G.K H a xs → xs.length = ds.length → (∀ (i : Nat) x d, xs[i]? = some x → ds[i]? = some d → Rep G H x d) → Rep G H (.ref a) (.tup ds)
 | lst {a : Addr} {xs : List V} {ds : List D} : SqL G.K H a xs → xs.length = ds.length → (∀ (i : Nat) x d, xs[i]? = some x → ds[i]? = some d → Rep G H x d) → Rep G H (.ref a) (.lst ds)
 | dk {a : Addr} {o : Obj} {kvs : List (Key × V)} {kds : List (Key × D)} : H a = some (.frz o (.dK kvs)) → kvs.map (·.1) = kds.map (·.1) → (∀ (i : Nat) x d, (kvs.map (·.2))[i]? = some x → (kds.map (·.2))[i]? = some d → Rep G H x d) → Rep G H (.ref a) (.dk kds)
 | dt {a : Addr} {o : Obj} {kvs : List (List Key × V)} {kds : List (List Key × D)} : H a = some (.frz o (.dT kvs)) → kvs.map (·.1) = kds.map (·.1) → (∀ (i : Nat) x d, (kvs.map (·.2))[i]? = some x → (kds.map (·.2))[i]? = some d → Rep G H x d) → Rep G H (.ref a) (.dt kds)
 | adr (a : Addr) : Rep G H (.ref a) (.adr a)
 | ob {a C dx : Addr} {c : Str} {fs : List (Str × V)} {gs : List (Str × D)} : G.cl c = some C → H a = some (.ins C dx fs) → fs.map (·.1) = gs.map (·.1) → (∀ (i : Nat) x d, (fs.map (·.2))[i]? = some x → (gs.map (·.2))[i]? = some d → Rep G H x d) → Rep G H (.ref a) (.ob c gs)
 | err {a C dx : Addr} {tb : Option Addr} {c : Str} {fs : List (Str × V)} {gs : List (Str × D)} : G.xcl c = some C → H a = some (EX.excO a C (some dx) tb) → H dx = some (.xd fs) → FsV fs gs → Rep G H (.ref a) (.err c gs)
def RepL (G : Gx) (H : Hp) (xs : List V) (ds : List D) : Prop := xs.length = ds.length ∧ ∀ (i : Nat) x d, xs[i]? = some x → ds[i]? = some d → Rep G H x d
theorem Rep.mono {G : Gx} {H H' : Hp} {v : V} {d : D} (r : Rep G H v d) (s : Same H H') : Rep G H' v d := by
 induction r with
 | non => exact .non
 | bl b => exact .bl b
 | int i => exact .int i
 | str x => exact .str x
 | tup h l _ ih => exact .tup (Dl s h) l ih
 | lst h l _ ih => exact .lst (s.seq h) l ih
 | dk h l _ ih => exact .dk (s _ _ h) l ih
 | dt h l _ ih => exact .dt (s _ _ h) l ih
 | adr a => exact .adr a
 | ob c h l _ ih => exact .ob c (s _ _ h) l ih
 | err c h q f => exact .err c (s _ _ h) (s _ _ q) f
theorem RepL.mono {G : Gx} {H H' : Hp} {xs : List V} {ds : List D} (r : RepL G H xs ds) (s : Same H H') : RepL G H' xs ds := ⟨r.1, fun i x d a b => (r.2 i x d a b).mono s⟩
theorem RepL.nil {G : Gx} {H : Hp} : RepL G H [] [] := ⟨rfl, fun i x d h => by simp at h⟩
theorem RepL.cons {G : Gx} {H : Hp} {x : V} {d : D} {xs : List V} {ds : List D} (r : Rep G H x d) (rs : RepL G H xs ds) : RepL G H (x :: xs) (d :: ds) :=
 ⟨by simp [rs.1], fun i y e h1 h2 => by
  cases i with
  | zero => simp at h1 h2; subst h1; subst h2; exact r
  | succ i => simp at h1 h2; exact rs.2 i y e h1 h2⟩
theorem RepL.uncons {G : Gx} {H : Hp} {xs : List V} {d : D} {ds : List D} (r : RepL G H xs (d :: ds)) : ∃ x ys, xs = x :: ys ∧ Rep G H x d ∧ RepL G H ys ds := by
 obtain ⟨l, h⟩ := r
 cases xs with
 | nil => simp at l
 | cons x ys => exact ⟨x, ys, rfl, h 0 x d rfl rfl, by simpa using l, fun i y e h1 h2 => h (i + 1) y e (by simpa using h1) (by simpa using h2)⟩
theorem RepL.nil_inv {G : Gx} {H : Hp} {xs : List V} (r : RepL G H xs []) : xs = [] := by
 have := r.1
 cases xs with
 | nil => rfl
 | cons x ys => simp at this
theorem RepL.append {G : Gx} {H : Hp} {xs ys : List V} {ds es : List D} (a : RepL G H xs ds) (b : RepL G H ys es) : RepL G H (xs ++ ys) (ds ++ es) := by
 refine ⟨by rw [List.length_append, List.length_append, a.1, b.1], fun i x d h1 h2 => ?_⟩
 by_cases hi : i < xs.length
 ·rw [List.getElem?_append_left hi] at h1
  rw [List.getElem?_append_left (by rw [← a.1]; exact hi)] at h2
  exact a.2 i x d h1 h2
 ·rw [List.getElem?_append_right (Nat.not_lt.mp hi)] at h1
  rw [List.getElem?_append_right (by rw [← a.1]; exact Nat.not_lt.mp hi), ← a.1] at h2
  exact b.2 _ x d h1 h2
theorem RepL.drop {G : Gx} {H : Hp} {xs : List V} {ds : List D} (a : RepL G H xs ds) (n : Nat) : RepL G H (xs.drop n) (ds.drop n) :=
 ⟨by rw [List.length_drop, List.length_drop, a.1], fun i x d h1 h2 => by rw [List.getElem?_drop] at h1 h2; exact a.2 _ x d h1 h2⟩
theorem RepL.take {G : Gx} {H : Hp} {xs : List V} {ds : List D} (a : RepL G H xs ds) (n : Nat) : RepL G H (xs.take n) (ds.take n) :=
 ⟨by rw [List.length_take, List.length_take, a.1], fun i x d h1 h2 => by
  rw [List.getElem?_take] at h1 h2
  split at h1
  ·rename_i hlt
   rw [if_pos hlt] at h2
   exact a.2 _ x d h1 h2
  ·cases h1⟩
theorem RepL.get {G : Gx} {H : Hp} {xs : List V} {ds : List D} (a : RepL G H xs ds) {i : Nat} {d : D} (h : ds[i]? = some d) : ∃ x, xs[i]? = some x ∧ Rep G H x d := by
 have hi : i < ds.length := (List.getElem?_eq_some_iff.mp h).1
 have hi' : i < xs.length := by rw [a.1]; exact hi
 exact ⟨xs[i], by simp [hi'], a.2 i _ d (by simp [hi']) h⟩
theorem RepL.atI {G : Gx} {H : Hp} {xs : List V} {ds : List D} (a : RepL G H xs ds) {i : Int} {d : D} (h : L2.atI ds i = some d) : ∃ x, L2.atI xs i = some x ∧ Rep G H x d := by
 unfold L2.atI at h ⊢
 rw [← a.1] at h
 cases e : ixN xs.length i with
 | none => rw [e] at h; cases h
 | some j =>
  rw [e] at h
  obtain ⟨x, h1, h2⟩ := a.get (show ds[j]? = some d from h)
  exact ⟨x, h1, h2⟩
def hid (A : List Addr) (H : Hp) : Hp := fun b => if b ∈ A then none else H b
theorem An {A : List Addr} {H H' : Hp} (s : Same H H') : Same (hid A H) (hid A H') := fun b o h => by
 unfold hid at h ⊢
 split at h
 ·cases h
 ·rename_i hb; rw [if_neg hb]; exact s b o h
theorem Am {A : List Addr} {H : Hp} : Same (hid A H) H := fun b o h => by
 unfold hid at h
 split at h
 ·cases h
 ·exact h
theorem Bl {A B : List Addr} {H : Hp} (h : ∀ a ∈ A, a ∈ B) : Same (hid B H) (hid A H) := fun b o q => by
 unfold hid at q ⊢
 split at q
 ·cases q
 ·rename_i hb; rw [if_neg (fun z => hb (h b z))]; exact q
theorem BR {A : List Addr} {H : Hp} {p : Addr} (h : p ∉ A) : hid A H p = H p := by unfold hid; rw [if_neg h]
theorem Fw {A : List Addr} {H : Hp} {p : Addr} {o : HO} (h : p ∈ A) : hid A (upd H p o) = hid A H := by
 funext b
 unfold hid
 by_cases hb : b ∈ A
 ·rw [if_pos hb, if_pos hb]
 ·rw [if_neg hb, if_neg hb, Ad (fun e : b = p => hb (by rw [e]; exact h))]
def Top (G : Gx) (A : List Addr) (H : Hp) (a : Addr) : D → Prop
 | .lst ds => ∃ xs, H a = some (.lst xs) ∧ RepL G (hid A H) xs ds
 | .dk kds => ∃ kvs, H a = some (.dK kvs) ∧ kvs.map (·.1) = kds.map (·.1) ∧ RepL G (hid A H) (kvs.map (·.2)) (kds.map (·.2))
 | .dt kds => ∃ kvs, H a = some (.dT kvs) ∧ kvs.map (·.1) = kds.map (·.1) ∧ RepL G (hid A H) (kvs.map (·.2)) (kds.map (·.2))
 | .ob c gs => ∃ C dx fs, H a = some (.ins C dx fs) ∧ (G.cl c = some C ∧ fs.map (·.1) = gs.map (·.1)) ∧ RepL G (hid A H) (fs.map (·.2)) (gs.map (·.2))
 | _ => False
theorem Top.mono {G : Gx} {A : List Addr} {H H' : Hp} {a : Addr} {d : D} (t : Top G A H a d) (s : Same H H') : Top G A H' a d := by
 cases d with
 | lst ds => obtain ⟨xs, h, r⟩ := t; exact ⟨xs, s _ _ h, r.mono (An s)⟩
 | dk ds => obtain ⟨xs, h, k, r⟩ := t; exact ⟨xs, s _ _ h, k, r.mono (An s)⟩
 | dt ds => obtain ⟨xs, h, k, r⟩ := t; exact ⟨xs, s _ _ h, k, r.mono (An s)⟩
 | ob c gs => obtain ⟨C, dx, xs, h, k, r⟩ := t; exact ⟨C, dx, xs, s _ _ h, k, r.mono (An s)⟩
 | _ => exact t.elim
structure Nt (x : Option HO) : Prop where
 ne : x ≠ none
 tup : ∀ xs, x ≠ some (.tup xs)
theorem Nt.mono {x y : Option HO} (h : Nt x) (k : ∀ u, x = some u → y = some u) : Nt y := by
 cases x with
 | none => exact absurd rfl h.ne
 | some u => rw [k u rfl]; exact h
theorem Nt.lst {xs : List V} : Nt (some (.lst xs)) := ⟨fun z => (nomatch z), fun _ z => (nomatch z)⟩
theorem Nt.dK {xs : List (Key × V)} : Nt (some (.dK xs)) := ⟨fun z => (nomatch z), fun _ z => (nomatch z)⟩
theorem Nt.dT {xs : List (List Key × V)} : Nt (some (.dT xs)) := ⟨fun z => (nomatch z), fun _ z => (nomatch z)⟩
theorem Nt.ins {C dx : Addr} {xs : List (Str × V)} : Nt (some (.ins C dx xs)) := ⟨fun z => (nomatch z), fun _ z => (nomatch z)⟩
structure Okp (G : Gx) (A : List Addr) (σ : St) (H : Hp) (ρ : Rho) : Prop where
 len : σ.length = ρ.length
 live : ∀ a ∈ A, Nt (H a)
 fz : ∀ (i : Nat) (d : D), ρ[i]? = some (.fz d) → ∃ v, σ[i]? = some (some v) ∧ Rep G (hid A H) v d
 ow : ∀ (i : Nat) (d : D), ρ[i]? = some (.ow d) → ∃ a, σ[i]? = some (some (.ref a)) ∧ a ∈ A ∧ Top G A H a d
 inj : ∀ (i j : Nat) (d e : D) (a : Addr), ρ[i]? = some (.ow d) → ρ[j]? = some (.ow e) → σ[i]? = some (some (.ref a)) → σ[j]? = some (some (.ref a)) → i = j
theorem Okp.mono {G : Gx} {A : List Addr} {σ : St} {H H' : Hp} {ρ : Rho} (o : Okp G A σ H ρ) (s : Same H H') : Okp G A σ H' ρ :=
 ⟨o.len, fun a ha => (o.live a ha).mono fun u e => s _ _ e,
  fun i d h => let ⟨v, h1, h2⟩ := o.fz i d h; ⟨v, h1, h2.mono (An s)⟩, fun i d h => let ⟨a, h1, h2, h3⟩ := o.ow i d h; ⟨a, h1, h2, h3.mono s⟩, o.inj⟩
def RepT (G : Gx) (A : List Addr) (H : Hp) (v : V) (d : D) : Prop := Rep G (hid A H) v d ∨ ∃ a, v = .ref a ∧ Top G A H a d
theorem RepT.mono {G : Gx} {A : List Addr} {H H' : Hp} {v : V} {d : D} (r : RepT G A H v d) (s : Same H H') : RepT G A H' v d := by
 rcases r with r | ⟨a, e, r⟩
 ·exact .inl (r.mono (An s))
 ·exact .inr ⟨a, e, r.mono s⟩
theorem RepT.lst {G : Gx} {A : List Addr} {H : Hp} {v : V} {ds : List D} (r : RepT G A H v (.lst ds)) : ∃ a xs, v = .ref a ∧ SqL G.K H a xs ∧ RepL G (hid A H) xs ds := by
 rcases r with r | ⟨a, e, xs, h, r⟩
 ·cases r with
  | lst h l r => exact ⟨_, _, rfl, Am.seq h, l, r⟩
 ·exact ⟨a, xs, e, .of h, r⟩
theorem RepT.tup {G : Gx} {A : List Addr} {H : Hp} {v : V} {ds : List D} (r : RepT G A H v (.tup ds)) : ∃ a xs, v = .ref a ∧ SqT G.K H a xs ∧ RepL G (hid A H) xs ds := by
 rcases r with r | ⟨a, e, r⟩
 ·cases r with
  | tup h l r => exact ⟨_, _, rfl, Dl Am h, l, r⟩
 ·exact r.elim
theorem RepT.int {G : Gx} {A : List Addr} {H : Hp} {v : V} {i : Int} (r : RepT G A H v (.int i)) : v = .int i := by
 rcases r with r | ⟨a, e, r⟩
 ·cases r; rfl
 ·exact r.elim
theorem RepT.str {G : Gx} {A : List Addr} {H : Hp} {v : V} {i : Str} (r : RepT G A H v (.str i)) : v = .str i := by
 rcases r with r | ⟨a, e, r⟩
 ·cases r; rfl
 ·exact r.elim
theorem RepT.bl {G : Gx} {A : List Addr} {H : Hp} {v : V} {i : Bool} (r : RepT G A H v (.bl i)) : v = .bl i := by
 rcases r with r | ⟨a, e, r⟩
 ·cases r; rfl
 ·exact r.elim
theorem RepT.non {G : Gx} {A : List Addr} {H : Hp} {v : V} (r : RepT G A H v .non) : v = .non := by
 rcases r with r | ⟨a, e, r⟩
 ·cases r; rfl
 ·exact r.elim
theorem RepT.dk {G : Gx} {A : List Addr} {H : Hp} {v : V} {kds : List (Key × D)} (r : RepT G A H v (.dk kds)) : ∃ a kvs, v = .ref a ∧ Rd H a (.dK kvs) ∧ kvs.map (·.1) = kds.map (·.1) ∧ RepL G (hid A H) (kvs.map (·.2)) (kds.map (·.2)) := by
 rcases r with r | ⟨a, e, kvs, h, k, r⟩
 ·cases r with
  | dk h k r =>
   refine ⟨_, _, rfl, .inr ⟨_, Am _ _ h⟩, k, ?_, r⟩
   have := congrArg List.length k
   rw [List.length_map, List.length_map] at this ⊢
   exact this
 ·exact ⟨a, kvs, e, .of h, k, r⟩
theorem Ih {A : List Addr} {H : Hp} {p : Addr} (live : ∀ a ∈ A, Nt (H a)) (hp : H p = none) (o : HO) : hid A (upd H p o) p = some o := by
 rw [BR (fun z => (live p z).ne hp), Ag]
theorem Em {G : Gx} {A : List Addr} {H : Hp} {p : Addr} {xs : List V} {ds : List D} (live : ∀ a ∈ A, Nt (H a)) (hp : H p = none) (r : RepL G (hid A H) xs ds) : Rep G (hid A (upd H p (.lst xs))) (.ref p) (.lst ds) :=
 let q := r.mono (An (Bc hp (.lst xs))); .lst (.of (Ih live hp _)) q.1 q.2
theorem En {G : Gx} {A : List Addr} {H : Hp} {p : Addr} {xs : List V} {ds : List D} (live : ∀ a ∈ A, Nt (H a)) (hp : H p = none) (r : RepL G (hid A H) xs ds) : Rep G (hid A (upd H p (.tup xs))) (.ref p) (.tup ds) :=
 let q := r.mono (An (Bc hp (.tup xs))); .tup (.of (Ih live hp _)) q.1 q.2
def tF (G : Gx) (A : List Addr) (f : FE) : TE := fun σ H Q => ∃ ρ d, Okp G A σ H ρ ∧ f ρ = some d ∧ ∀ v H', Same H H' → Rep G (hid A H') v d → Q v H'
def tT (G : Gx) (A : List Addr) (f : FE) : TE := fun σ H Q => ∃ ρ d, Okp G A σ H ρ ∧ f ρ = some d ∧ ∀ v H', Same H H' → RepT G A H' v d → Q v H'
def PF (X : Cx) (G : Gx) (e : Expr) (f : FE) : Prop := ∀ ⦃A⦄, PE X e (tF G A f)
def PU (X : Cx) (G : Gx) (e : Expr) (f : FE) : Prop := ∀ ⦃A⦄, PE X e (tT G A f)
theorem Bh {X : Cx} {e : Expr} {t t' : TE} (h : PE X e t) (w : ∀ σ H Q, t' σ H Q → t σ H Q) : PE X e t' := fun pins s σ H Q I q => h pins s σ H Q I (w σ H Q q)
theorem PF.pu {X : Cx} {G : Gx} {e : Expr} {f : FE} (h : PF X G e f) : PU X G e f := fun A => Bh (@h A) fun σ H Q ⟨ρ, d, o, e, k⟩ => ⟨ρ, d, o, e, fun v H' s r => k v H' s (.inl r)⟩
def tFA (G : Gx) (A : List Addr) (f : FA) : TA := fun σ H Q => ∃ ρ ds, Okp G A σ H ρ ∧ f ρ = some ds ∧ ∀ vs H', Same H H' → RepL G (hid A H') vs ds → Q vs H'
def PFA (X : Cx) (G : Gx) (es : List Expr) (f : FA) : Prop := ∀ ⦃A⦄, PA X es (tFA G A f)
theorem T5 {X : Cx} {e : List Expr} {t t' : TA} (h : PA X e t) (w : ∀ σ H Q, t' σ H Q → t σ H Q) : PA X e t' := fun pos pins s σ H Q I q => h pos pins s σ H Q I (w σ H Q q)
def tFT (G : Gx) (A : List Addr) (f : FT) : TT := fun σ H Q => ∃ ρ b, Okp G A σ H ρ ∧ f ρ = some b ∧ ∀ H', Same H H' → Q b H'
def PFT (X : Cx) (G : Gx) (e : Expr) (f : FT) : Prop := ∀ ⦃A⦄, PT X e (tFT G A f)
def PFW (X : Cx) (G : Gx) (e : Expr) (f : FT) : Prop := ∀ ⦃A⦄, PW X e (tFT G A f)
theorem Pj {X : Cx} {e : Expr} {t t' : TT} (h : PT X e t) (w : ∀ σ H Q, t' σ H Q → t σ H Q) : PT X e t' := fun pins s σ H Q I q => h pins s σ H Q I (w σ H Q q)
theorem V4 {X : Cx} {e : Expr} {t t' : TT} (h : PW X e t) (w : ∀ σ H Q, t' σ H Q → t σ H Q) : PW X e t' := fun wh pins s σ H Q I q => h wh pins s σ H Q I (w σ H Q q)
end PV
namespace PV
open PySem PySem.Spec L2
open PyProof.Rows hiding St
section
variable {X : Cx} {G : Gx} {a b c : Expr} {fa fb fc : FE} {pos : Pos}
theorem U0 (i : Nat) {x : Str} (h : PE X (.Name x pos) (tVar i)) : PF X G (.Name x pos) (vF i) := fun A => Bh h fun σ H Q ⟨ρ, d, o, e, k⟩ => by
 unfold vF at e
 split at e
 ·rename_i d' h'
  cases e
  obtain ⟨v, h1, h2⟩ := o.fz i _ h'
  exact ⟨v, h1, k v H (Same.refl H) h2⟩
 ·cases e
theorem U3 (i : Nat) {x : Str} (h : PE X (.Name x pos) (tVar i)) : PU X G (.Name x pos) (vU i) := fun A => Bh h fun σ H Q ⟨ρ, d, o, e, k⟩ => by
 unfold vU at e
 split at e
 ·rename_i d' h'
  cases e
  obtain ⟨v, h1, h2⟩ := o.fz i _ h'
  exact ⟨v, h1, k v H (Same.refl H) (.inl h2)⟩
 ·rename_i d' h'
  cases e
  obtain ⟨p, h1, _, h2⟩ := o.ow i _ h'
  exact ⟨.ref p, h1, k _ H (Same.refl H) (.inr ⟨p, rfl, h2⟩)⟩
 ·cases e
theorem Cq {v : V} {d : D} (h : PE X a (tC v)) (r : Rep G (fun _ => none) v d) : PF X G a (kF d) := fun A => Bh h fun σ H Q ⟨ρ, d', o, e, k⟩ => by
 cases e
 exact k v H (Same.refl H) (r.mono fun b o z => nomatch z)
theorem Kg {i j} : PF X G (.Constant (.int i) j pos) (kF (.int i)) := Cq Ub (.int i)
theorem Lw {b j} : PF X G (.Constant (.bool b) j pos) (kF (.bl b)) := Cq Vm (.bl b)
theorem U4 {j} : PF X G (.Constant .none j pos) (kF .non) := Cq Uc .non
theorem Gh {x j} : PF X G (.Constant (.str x) j pos) (kF (.str x)) := Cq Ud (.str x)
def Cm (G : Gx) (r : R2) (g : D → D → Option D) : Prop := ∀ (A : List Addr) (H : Hp) (x y : V) (dx dy d : D) (Q : VK), (∀ a ∈ A, Nt (H a)) → RepT G A H x dx → RepT G A H y dy → g dx dy = some d → (∀ v H', Same H H' → Rep G (hid A H') v d → Q v H') → r x y H Q
theorem RX {g : D → D → Option D} {ρ : Rho} {d : D} (h : bF g fa fb ρ = some d) : ∃ x y, fa ρ = some x ∧ fb ρ = some y ∧ g x y = some d := by
 unfold bF at h
 cases e1 : fa ρ with
 | none => rw [e1] at h; cases h
 | some x =>
  rw [e1] at h
  cases e2 : fb ρ with
  | none => simp [e2] at h
  | some y => simp [e2] at h; exact ⟨x, y, rfl, rfl, h⟩
theorem JK {r : R2} {g : D → D → Option D} (s : Cm G r g) {A : List Addr} {σ : St} {H : Hp} {Q : VK} (h : tF G A (bF g fa fb) σ H Q) : tOp r (tT G A fa) (tT G A fb) σ H Q := by
 obtain ⟨ρ, d, o, e, k⟩ := h
 obtain ⟨x, y, e1, e2, e3⟩ := RX e
 exact ⟨ρ, x, o, e1, fun v H1 s1 r1 => ⟨ρ, y, o.mono s1, e2, fun u H2 s2 r2 => s A H2 v u x y d Q ((o.mono s1).mono s2).live (r1.mono s2) r2 e3 fun w H3 s3 r3 => k w H3 (s1.trans (s2.trans s3)) r3⟩⟩
theorem JL {op : Operator} {r : R2} {g : D → D → Option D} (ho : OpR X (binaryOp op) r) (s : Cm G r g) (ha : PU X G a fa) (hb : PU X G b fb) : PF X G (.BinOp a op b pos) (bF g fa fb) :=
 fun A => Bh (Vr ho (@ha A) (@hb A)) fun _ _ _ h => JK s h
theorem JM {op : CmpOp} {r : R2} {g : D → D → Option D} (ho : OpR X (compareOp op) r) (s : Cm G r g) (ha : PU X G a fa) (hb : PU X G b fb) (hm : behindInMarks op b = false) : PF X G (.Compare a [op] [b] pos) (bF g fa fb) :=
 fun A => Bh (Q6 ho (@ha A) (@hb A) hm) fun _ _ _ h => JK s h
theorem Pk {f : FE} {ρ : Rho} {b : Bool} (h : blF f ρ = some b) : f ρ = some (.bl b) := by
 unfold blF at h
 split at h
 ·rename_i e; cases h; exact e
 ·cases h
theorem Dm {op : CmpOp} {r : R2} {g : D → D → Option D} (ho : OpR X (compareOp op) r) (s : Cm G r g) (ha : PU X G a fa) (hb : PU X G b fb) (hm : behindInMarks op b = false) : PFT X G (.Compare a [op] [b] pos) (blF (bF g fa fb)) :=
 fun A => Pj (Q7 ho (@ha A) (@hb A) hm) fun σ H Q ⟨ρ, d, o, e, k⟩ => JK s ⟨ρ, .bl d, o, Pk e, fun v H' s' r' => by cases r'; exact ⟨d, rfl, k H' s'⟩⟩
theorem Jv {g : Int → Int → Option D} {x y d : D} (h : iiD g x y = some d) : ∃ i j, x = .int i ∧ y = .int j ∧ g i j = some d := by
 unfold iiD at h
 split at h
 ·exact ⟨_, _, rfl, rfl, h⟩
 ·cases h
theorem Kh {g : Int → Int → V} {g' : Int → Int → D} (e : ∀ i j H, Rep G H (g i j) (g' i j)) : Cm G (rI0 g) (iiD fun i j => some (g' i j)) := by
 intro A H x y dx dy d Q lv rx ry h k
 obtain ⟨i, j, rfl, rfl, h⟩ := Jv h
 cases h
 exact ⟨i, j, rx.int, ry.int, k _ H (Same.refl H) (e i j _)⟩
theorem Pn {C : Int → Int → Prop} {g : Int → Int → V} {g' : Int → Int → D} [∀ i j, Decidable (C i j)] (e : ∀ i j H, Rep G H (g i j) (g' i j)) : Cm G (rI C g) (iiD fun i j => if C i j then some (g' i j) else none) := by
 intro A H x y dx dy d Q lv rx ry h k
 obtain ⟨i, j, rfl, rfl, h'⟩ := Jv h
 by_cases hc : C i j
 ·rw [if_pos hc] at h'
  cases h'
  exact ⟨i, j, rx.int, ry.int, hc, k _ H (Same.refl H) (e i j _)⟩
 ·rw [if_neg hc] at h'; cases h'
theorem RZ : Cm G (rI0 fun i j => .int (i - j)) subD := Kh fun i j H => .int _
theorem K9.ok {i j : Int} (h : K9 i j) : IntMulOk i j := by
 rcases h with h | h
 ·exact h.ok
 ·exact IntMulOk.of_le h.1 h.2 (by decide)
theorem Pq : Cm G (rI CDiv fun i j => .int (i / j)) K_ := Pn fun i j H => .int _
theorem Ra : Cm G (rI (fun _ j => 0 < j) fun i j => .int (i % j)) modD := Pn (C := fun _ j => 0 < j) fun i j H => .int _
theorem Pr : Cm G (rI0 fun i j => .bl (decide (i < j))) ltD := Kh fun i j H => .bl _
theorem U5 : Cm G (rI0 fun i j => .bl (decide (j < i))) gtD := Kh fun i j H => .bl _
def T6 (K : PySem.W.Frag) : R2 := fun x y H Q => ∃ l b xs zs, x = .ref l ∧ y = .ref b ∧ SqL K H l xs ∧ SqL K H b zs ∧ xs.length + zs.length ≤ sizeLine ∧ ∀ p, H p = none → Q (.ref p) (upd H p (.lst (xs ++ zs)))
theorem Rb : OpR X (binaryOp .Add) (T6 X.K) := by
 intro pins s σ H x y v u Q I rx ry h
 obtain ⟨l, b, xs, zs, rfl, rfl, hl, hb, hz, q⟩ := h
 cases rx
 cases ry
 obtain ⟨its, r, pl, z⟩ := I.list hl
 obtain ⟨its2, r2, pl2, z2⟩ := I.list hb
 have e1 := r.length
 have e2 := r2.length
 obtain ⟨⟨cls, dd, data, sl⟩, ho, hc, n, hd⟩ := pl.isList
 obtain ⟨⟨cls2, dd2, data2, sl2⟩, ho2, hc2, n2, hd2⟩ := pl2.isList
 simp only at hc hd hc2 hd2
 subst hc hd hc2 hd2
 refine concat_meets ⟨_, ho, rfl⟩ ⟨_, ho2, rfl⟩ noFill_list_add seq_list_add PySem.F.slot_list_add PySem.F.entry_list_add (PySem.F.args_list_add_2 _ _) (list_addW l b its.toArray its2.toArray n n2 dd dd2 sl sl2 (by rw [List.size_toArray, List.size_toArray]; omega)) ⟨ho, ho2, ?_⟩
 have ea : its.toArray ++ its2.toArray = (its ++ its2).toArray := by simp
 rw [ea]
 exact ⟨.ref _, _, I.lnew (t' := s.toks) (r.append r2) (by rw [List.length_append]; omega), rfl, q _ I.fresh⟩
def rAdd (K : PySem.W.Frag) : R2 := fun x y H Q => (rI0 fun i j => .int (i + j)) x y H Q ∨ ((fun x y H Q => ∃ i j, x = .str i ∧ y = .str j ∧ i.length + j.length ≤ sizeLine ∧ Q (.str (i ++ j)) H) x y H Q ∨ T6 K x y H Q)
theorem Rc : OpR X (binaryOp .Add) (rAdd X.K) := Um.or (KJ.or Rb)
theorem Rf : Cm G (rAdd G.K) addD := by
 intro A H x y dx dy d Q lv rx ry h k
 unfold addD at h
 split at h
 ·cases h; exact .inl ⟨_, _, rx.int, ry.int, k _ H (Same.refl H) (.int _)⟩
 ·split at h
  ·rename_i hz; cases h; exact .inr (.inl ⟨_, _, rx.str, ry.str, hz, k _ H (Same.refl H) (.str _)⟩)
  ·cases h
 ·split at h
  ·rename_i hz
   cases h
   obtain ⟨l, xs, rfl, h1, r1⟩ := rx.lst
   obtain ⟨m, zs, rfl, h2, r2⟩ := ry.lst
   exact .inr (.inr ⟨l, m, xs, zs, rfl, rfl, h1, h2, by rw [r1.1, r2.1]; exact hz, fun p hp => k _ _ (Bc hp _) (Em lv hp (r1.append r2))⟩)
  ·cases h
 ·cases h
theorem U6 {op : BoolOp} (h : PF X G a fa) : PF X G (.BoolOp op [a] pos) fa := fun A => Uh (@h A)
theorem U7 {rest : List Expr} (ha : PF X G a fa) (hb : PF X G (.BoolOp .And (b :: rest) pos) fb) : PF X G (.BoolOp .And (a :: b :: rest) pos) (andF fa fb) := fun A => Bh (Ui (@ha A) (@hb A)) fun σ H Q ⟨ρ, d, o, e, k⟩ => by
 unfold andF at e
 split at e
 ·rename_i e1
  refine ⟨ρ, _, o, e1, fun v H1 s1 r1 => ?_⟩
  cases r1
  refine ⟨true, rfl, ?_⟩
  rw [if_pos rfl]
  exact ⟨ρ, d, o.mono s1, e, fun v H2 s2 r2 => k v H2 (s1.trans s2) r2⟩
 ·rename_i e1
  refine ⟨ρ, _, o, e1, fun v H1 s1 r1 => ?_⟩
  cases r1
  refine ⟨false, rfl, ?_⟩
  rw [if_neg Bool.false_ne_true]
  cases e
  exact k _ H1 s1 (.bl false)
 ·cases e
variable {ga gb : FT}
theorem PFW.pt (h : PFW X G a ga) : PFT X G a ga := fun A => (@h A).pt
theorem Ii (h : PFT X G a ga) : PFW X G (.BoolOp .Or [a] pos) ga := fun A => Ue (@h A)
theorem Kl {rest : List Expr} (ha : PFT X G a ga) (hb : PFW X G (.BoolOp .Or (b :: rest) pos) gb) : PFW X G (.BoolOp .Or (a :: b :: rest) pos) (orT ga gb) := fun A => V4 (Vn (@ha A) (@hb A)) fun σ H Q ⟨ρ, d, o, e, k⟩ => by
 unfold orT at e
 split at e
 ·rename_i e1
  cases e
  exact ⟨ρ, _, o, e1, fun H1 s1 => iteT (k H1 s1)⟩
 ·rename_i e1
  exact ⟨ρ, _, o, e1, fun H1 s1 => iteF ⟨ρ, d, o.mono s1, e, fun H2 s2 => k H2 (s1.trans s2)⟩⟩
 ·cases e
theorem Ey (ha : PFT X G a ga) : PFT X G (.UnaryOp .Not a pos) (notT ga) := fun A => Pj (Ug (@ha A)) fun σ H Q ⟨ρ, d, o, e, k⟩ => by
 unfold notT at e
 cases e1 : ga ρ with
 | none => rw [e1] at e; cases e
 | some b => rw [e1] at e; cases e; exact ⟨ρ, b, o, e1, fun H1 s1 => k H1 s1⟩
theorem Gr {α β : Type} {xs : List α} {ys : List β} (h : xs.length = ys.length) : xs.isEmpty = ys.isEmpty := by
 cases xs <;> cases ys <;> simp at h ⊢
theorem Bm (ha : PU X G a fa) (hG : G.K = X.K) (he : ∀ whole, isTrue a X.env whole = (do let v ← whole; standAt a.pos; holding [v] (truthy v)) := by intro _; rfl) : PFT X G a (fun ρ => (fa ρ).bind truD) := fun A => Pj (Nm (@ha A) he) fun σ H Q ⟨ρ, b, o, e, k⟩ => by
 cases e1 : fa ρ with
 | none => simp [e1] at e
 | some d =>
  have e' : truD d = some b := by simpa [e1] using e
  refine ⟨ρ, d, o, e1, fun v H1 s1 r1 => ⟨b, ?_, k H1 s1⟩⟩
  rw [← hG]
  cases d with
  | non => rw [r1.non]; exact (Option.some.inj e').symm
  | bl b' => rw [r1.bl]; exact (Option.some.inj e').symm
  | int i => rw [r1.int]; exact (Option.some.inj e').symm
  | str y =>
   rw [r1.str]
   simp only [truD] at e'
   split at e'
   ·rename_i hz; exact ⟨hz, (Option.some.inj e').symm⟩
   ·cases e'
  | lst ds =>
   obtain ⟨p, xs, rfl, h1, h2⟩ := r1.lst
   refine .inl ⟨xs, h1, ?_⟩
   rw [Gr h2.1]
   exact (Option.some.inj e').symm
  | tup ds =>
   obtain ⟨p, xs, rfl, h1, h2⟩ := r1.tup
   refine .inr (.inl ⟨xs, h1, ?_⟩)
   rw [Gr h2.1]
   exact (Option.some.inj e').symm
  | _ => cases e'
theorem T7 (ht : PFT X G c ga) (ha : PF X G a fa) (hb : PF X G b fb) : PF X G (.IfExp c a b pos) (ifF ga fa fb) := fun A => Bh (Nh (@ht A) (@ha A) (@hb A)) fun σ H Q ⟨ρ, d, o, e, k⟩ => by
 unfold ifF at e
 split at e
 ·rename_i e1
  exact ⟨ρ, _, o, e1, fun H1 s1 => iteT ⟨ρ, d, o.mono s1, e, fun v H2 s2 r2 => k v H2 (s1.trans s2) r2⟩⟩
 ·rename_i e1
  exact ⟨ρ, _, o, e1, fun H1 s1 => iteF ⟨ρ, d, o.mono s1, e, fun v H2 s2 r2 => k v H2 (s1.trans s2) r2⟩⟩
 ·cases e
variable {es : List Expr} {fs : FA}
theorem Ac : PFA X G [] nilA := fun A => T5 Fo fun σ H Q ⟨ρ, ds, o, e, k⟩ => by cases e; exact k [] H (Same.refl H) RepL.nil
theorem Ah (ha : PF X G a fa) (hr : PFA X G es fs) (hs : starEach (a :: es) X.env = (false, eval a X.env) :: starEach es X.env := by rfl) : PFA X G (a :: es) (Ab fa fs) := fun A => T5 (Bs (@ha A) (@hr A) hs) fun σ H Q ⟨ρ, ds, o, e, k⟩ => by
 unfold Ab at e
 cases e1 : fa ρ with
 | none => simp [e1] at e
 | some d =>
  cases e2 : fs ρ with
  | none => simp [e1, e2] at e
  | some ds' =>
   simp [e1, e2] at e
   subst e
   exact ⟨ρ, d, o, e1, fun v H1 s1 r1 => ⟨ρ, ds', o.mono s1, e2, fun vs H2 s2 r2 => k _ H2 (s1.trans s2) (.cons (r1.mono (An s2)) r2)⟩⟩
theorem HX {x1} (h : PFA X G es fs) : PF X G (.Tuple es x1 pos) (tupF fs) := fun A => Bh (KZ (@h A)) fun σ H Q ⟨ρ, d, o, e, k⟩ => by
 unfold tupF at e
 cases e1 : fs ρ with
 | none => simp [e1] at e
 | some ds =>
  rw [e1] at e
  have e' : (if ds.length ≤ sizeLine then some (D.tup ds) else none) = some d := e
  split at e'
  ·rename_i hz
   cases e'
   exact ⟨ρ, ds, o, e1, fun vs H1 s1 r1 => ⟨by rw [r1.1]; exact hz, fun p hp => k _ _ (s1.trans (Bc hp _)) (En (o.mono s1).live hp r1)⟩⟩
  ·cases e'
theorem Fx (h : PFA X G es fs) : PF X G (.List es pos) (lstF fs) := fun A => Bh (Ut (@h A)) fun σ H Q ⟨ρ, d, o, e, k⟩ => by
 unfold lstF at e
 cases e1 : fs ρ with
 | none => simp [e1] at e
 | some ds =>
  rw [e1] at e
  have e' : (if ds.length ≤ sizeLine then some (D.lst ds) else none) = some d := e
  split at e'
  ·rename_i hz
   cases e'
   exact ⟨ρ, ds, o, e1, fun vs H1 s1 r1 => ⟨by rw [r1.1]; exact hz, fun p hp => k _ _ (s1.trans (Bc hp _)) (Em (o.mono s1).live hp r1)⟩⟩
  ·cases e'
theorem U8 : Cm G (rIx G.K) ixD := by
 intro A H x y dx dy d Q lv rx ry h k
 unfold ixD at h
 split at h
 ·obtain ⟨p, xs, rfl, h1, r1⟩ := rx.lst
  obtain ⟨v, h2, r2⟩ := r1.atI h
  exact .inl ⟨p, xs, _, v, rfl, ry.int, h1, h2, k v H (Same.refl H) r2⟩
 ·obtain ⟨p, xs, rfl, h1, r1⟩ := rx.tup
  obtain ⟨v, h2, r2⟩ := r1.atI h
  exact .inr (.inl ⟨p, xs, _, v, rfl, ry.int, h1, h2, k v H (Same.refl H) r2⟩)
 ·split at h
  ·rename_i z i hz
   cases e : atI z.cps.toList i with
   | none => rw [e] at h; cases h
   | some c =>
    rw [e] at h
    cases h
    exact .inr (.inr ⟨z, i, c, rx.str, ry.int, hz, e, k _ H (Same.refl H) (.str _)⟩)
  ·cases h
 ·cases h
theorem V5 (hG : G.K = X.K) (ha : PU X G a fa) (hb : PU X G b fb) (hs : JC b) : PF X G (.Subscript a b pos) (bF ixD fa fb) :=
 fun A => Bh (Vz (r := rIx X.K) Uy (@ha A) (@hb A) hs) fun _ _ _ h => JK (by rw [← hG]; exact U8) h
def tFO (G : Gx) (A : List Addr) (f : FO) : TO := fun σ H Q => ∃ ρ o, Okp G A σ H ρ ∧ f ρ = some o ∧ ∀ H', Same H H' → Q o H'
def PFO (X : Cx) (G : Gx) (e : Option Expr) (f : FO) : Prop := ∀ ⦃A⦄, PO X e (tFO G A f)
theorem T8 {e : Option Expr} {t t' : TO} (h : PO X e t) (w : ∀ σ H Q, t' σ H Q → t σ H Q) : PO X e t' := fun pins s σ H Q I q => h pins s σ H Q I (w σ H Q q)
theorem Pu : PFO X G none noO := fun A => T8 RG fun σ H Q ⟨ρ, o, ok, e, k⟩ => by cases e; exact k H (Same.refl H)
theorem Eo (h : PU X G a fa) : PFO X G (some a) (someO fa) := fun A => T8 (RJ (@h A)) fun σ H Q ⟨ρ, o, ok, e, k⟩ => by
 unfold someO at e
 split at e
 ·rename_i i e1
  cases e
  exact ⟨ρ, _, ok, e1, fun v H1 s1 r1 => ⟨i, r1.int, k H1 s1⟩⟩
 ·cases e
theorem RepL.cut {H : Hp} {xs : List V} {ds : List D} (r : RepL G H xs ds) (lo hi : Option Int) : RepL G H (cutV xs lo hi) (cutD ds lo hi) := by
 unfold cutV cutD
 rw [r.1]
 exact (r.drop _).take _
end
end PV
namespace PV
open PySem PySem.Spec L2
open PyProof.Rows hiding St
section
variable {X : Cx} {G : Gx} {a b c : Expr} {fa fb fc : FE} {pos p2 : Pos}
section
open Builtin.Str
theorem Jw (n : Nat) (v : Option Int) (d : Nat) (hd : d ≤ n) : (match v with | none => (d : Int) | some i => max 0 (min (if i < 0 then i + (n : Int) else i) (n : Int))) = (HT.sIx n d v : Int) := by
 cases v with
 | none => rfl
 | some i =>
  simp only [HT.sIx]
  split <;> omega
theorem Rg (n d : Nat) (v : Option Int) (hd : d ≤ n) : HT.sIx n d v ≤ n := by
 cases v with
 | none => exact hd
 | some i => simp only [HT.sIx]; split <;> omega
theorem Km (lo hi : Option Int) (n : Nat) : strSliceIndices lo hi 1 n = (List.range (HT.sIx n n hi - HT.sIx n 0 lo)).map (fun k => HT.sIx n 0 lo + k) := by
 have h1 := Jw n lo 0 (Nat.zero_le _)
 have h2 := Jw n hi n (Nat.le_refl _)
 have hp : ((1 : Int) > 0) := by decide
 have e : strSliceIndices lo hi 1 n = sliceRange (HT.sIx n 0 lo : Int) (HT.sIx n n hi : Int) 1 := by
  unfold strSliceIndices
  simp only [hp, if_true]
  exact congrFun (congr (congrArg sliceRange h1) h2) 1
 rw [e]
 unfold sliceRange
 simp only [hp, if_true]
 generalize HT.sIx n 0 lo = a
 generalize HT.sIx n n hi = b
 have hc : (if (a : Int) < (b : Int) then ((b : Int) - a + 1 - 1) / 1 else 0).toNat = b - a := by
  split
  ·rw [Int.ediv_one]; omega
  ·omega
 rw [hc]
 apply List.map_congr_left
 intro k _
 omega
theorem M4 (x : Str) (lo hi : Option Int) : Txt.slice x lo hi = cutS x lo hi := by
 have hb := Rg x.length x.length hi (Nat.le_refl _)
 have hn : x.cps.toList.length = x.length := by simp [Str.length]
 unfold Txt.slice cutS cutD
 rw [Km, hn]
 generalize HT.sIx x.length 0 lo = a at *
 generalize HT.sIx x.length x.length hi = b at *
 rw [List.length_map, List.length_range]
 split
 ·rename_i h
  simp only [Bool.and_eq_true, beq_iff_eq] at h
  have hab : b - a = x.length := h.2
  by_cases h0 : x.length = 0
  ·have : x.cps.toList = [] := List.length_eq_zero_iff.mp (by omega)
   cases x with
   | mk c =>
    simp at this
    subst this
    simp
  ·have ha : a = 0 := by omega
   subst ha
   have : b = x.length := by omega
   subst this
   rw [List.drop_zero, Nat.sub_zero, List.take_of_length_le (by omega)]
 ·congr 1
  apply congrArg
  apply List.ext_getElem?
  intro i
  rw [List.filterMap_map]
  have key : ∀ m, m ≤ b - a → (List.filterMap ((fun k => x.cps[k]?) ∘ fun k => a + k) (List.range m)) = ((x.cps.toList.drop a).take m) := by
   intro m
   induction m with
   | zero => intro _; simp
   | succ m ih =>
    intro hm
    rw [List.range_succ, List.filterMap_append, ih (by omega)]
    have hlt : a + m < x.cps.size := by have : x.length = x.cps.size := rfl; omega
    rw [List.take_succ_eq_append_getElem (by simp; omega)]
    simp [hlt]
  rw [key _ (Nat.le_refl _)]
end
def rSlS : V → Option Int → Option Int → Hp → VK → Prop := fun x lo hi H Q => ∃ z, x = .str z ∧ z.length ≤ sizeLine ∧ Q (.str (Txt.slice z lo hi)) H
theorem U9 : SlR X rSlS := by
 intro pins s σ H x v vl vu lo hi sl Q I rx hs pl pu h
 obtain ⟨z, rfl, hz, q⟩ := h
 obtain ⟨t, rfl⟩ := rx
 obtain ⟨o, e1, e2, e3⟩ := hs
 have fin : ∀ t' k, EP X pins σ Q (.str (Txt.slice z lo hi) t') { s with toks := k } := fun t' k => ⟨.str _, H, I.tok _, ⟨t', rfl⟩, q⟩
 have hl := Nat.le_trans (Txt.slice_le z lo hi) hz
 refine ⟨"str", _, PySem.F.slot_str_getitem.lookup, typeIs_str _ _ _, ?_⟩
 cases pl with
 | none =>
  cases pu with
  | none => exact wpAny_getItem_str_slice (l := none) (u := none) (st := none) ⟨o, e1, e2, e3⟩ rfl (post_val_or_str ⟨hl, fin⟩)
  | int j uj => exact wpAny_getItem_str_slice (l := none) (u := some (j, uj)) (st := none) ⟨o, e1, e2, e3⟩ rfl (post_val_or_str ⟨hl, fin⟩)
 | int i ui =>
  cases pu with
  | none => exact wpAny_getItem_str_slice (l := some (i, ui)) (u := none) (st := none) ⟨o, e1, e2, e3⟩ rfl (post_val_or_str ⟨hl, fin⟩)
  | int j uj => exact wpAny_getItem_str_slice (l := some (i, ui)) (u := some (j, uj)) (st := none) ⟨o, e1, e2, e3⟩ rfl (post_val_or_str ⟨hl, fin⟩)
def rSl (K : PySem.W.Frag) : V → Option Int → Option Int → Hp → VK → Prop := fun x lo hi H Q => rSlL K x lo hi H Q ∨ (rSlT K x lo hi H Q ∨ rSlS x lo hi H Q)
theorem U_ : SlR X (rSl X.K) := RM.or (Uv.or U9)
theorem HY {lo hi : Option Expr} {gl gh : FO} (hG : G.K = X.K) (ha : PU X G a fa) (hl : PFO X G lo gl) (hh : PFO X G hi gh) : PF X G (.Subscript a (.Slice lo hi none p2) pos) (slF fa gl gh) := fun A => Bh (Nx (U_ (X := X)) (@ha A) (@hl A) (@hh A)) fun σ H Q ⟨ρ, d, o, e, k⟩ => by
 unfold slF at e
 cases e1 : fa ρ with
 | none => simp [e1] at e
 | some x =>
  cases e2 : gl ρ with
  | none => simp [e1, e2] at e
  | some l =>
   cases e3 : gh ρ with
   | none => simp [e1, e2, e3] at e
   | some h =>
    have e' : slD x l h = some d := by simpa [e1, e2, e3] using e
    refine ⟨ρ, x, o, e1, fun v H1 s1 r1 => ⟨ρ, l, o.mono s1, e2, fun H2 s2 => ⟨ρ, h, (o.mono s1).mono s2, e3, fun H3 s3 => ?_⟩⟩⟩
    have r3 := (r1.mono s2).mono s3
    have o3 := ((o.mono s1).mono s2).mono s3
    have s0 := s1.trans (s2.trans s3)
    unfold slD at e'
    split at e'
    ·cases e'
     obtain ⟨p, xs, rfl, h1, r⟩ := r3.lst
     exact .inl ⟨p, xs, rfl, by rw [← hG]; exact h1, fun q hq => k _ _ (s0.trans (Bc hq _)) (Em o3.live hq (r.cut _ _))⟩
    ·split at e'
     ·cases e'
     ·rename_i hw
      cases e'
      obtain ⟨p, xs, rfl, h1, r⟩ := r3.tup
      exact .inr (.inl ⟨p, xs, rfl, by rw [← hG]; exact h1, by rw [r.1]; exact hw, fun q hq => k _ _ (s0.trans (Bc hq _)) (En o3.live hq (r.cut _ _))⟩)
    ·split at e'
     ·rename_i hz
      cases e'
      refine .inr (.inr ⟨_, r3.str, hz, ?_⟩)
      rw [M4]
      exact k _ _ s0 (.str _)
     ·cases e'
    ·cases e'
theorem JN {A : List Addr} {H : Hp} {v u : V} {d : D} (r : RepT G A H v d) (h : flV d = some u) : v = u ∧ Eg v = true := by
 cases d with
 | non => cases h; rw [r.non]; exact ⟨rfl, rfl⟩
 | bl b => cases h; rw [r.bl]; exact ⟨rfl, rfl⟩
 | int b => cases h; rw [r.int]; exact ⟨rfl, rfl⟩
 | str b => cases h; rw [r.str]; exact ⟨rfl, rfl⟩
 | _ => cases h
theorem Jx {H : Hp} : ∀ {ds : List D} {xs us : List V}, RepL G H xs ds → flVs ds = some us → xs = us ∧ xs.all Eg = true
 | [], xs, us, r, h => by cases h; rw [r.nil_inv]; exact ⟨rfl, rfl⟩
 | d :: ds, xs, us, r, h => by
  obtain ⟨x, ys, rfl, r1, r2⟩ := r.uncons
  unfold flVs at h
  cases e1 : flV d with
  | none => simp [e1] at h
  | some v =>
   cases e2 : flVs ds with
   | none => simp [e1, e2] at h
   | some vs =>
    simp [e1, e2] at h
    subst h
    have q : Rep G (hid [] H) x d := r1.mono fun b o z => z
    obtain ⟨z1, z2⟩ := JN (A := []) (.inl q) e1
    obtain ⟨z3, z4⟩ := Jx r2 e2
    subst z1
    subst z3
    exact ⟨rfl, by rw [List.all_cons, z2, z4]; rfl⟩
def rInA (K : PySem.W.Frag) (neg : Bool) : R2 := fun x y H Q => rIn K neg x y H Q ∨ ∃ i j, x = .str i ∧ y = .str j ∧ Q (.bl (if neg then !(!(Builtin.Str.occurrences j i 0 j.length 1).isEmpty) else !(Builtin.Str.occurrences j i 0 j.length 1).isEmpty)) H
theorem JP : OpR X (compareOp .In) (rInA X.K false) := Mv.or Mt
theorem Ko (neg : Bool) : Cm G (rInA G.K neg) (inD neg) := by
 intro A H x y dx dy d Q lv rx ry h k
 have seq : ∀ {ds : List D} {p : Addr} {xs : List V}, y = .ref p → (SqL G.K H p xs ∨ SqT G.K H p xs) → RepL G (hid A H) xs ds → ((flV dx).bind fun v => (flVs ds).map fun vs => D.bl (if neg then !inV v vs else inV v vs)) = some d → rIn G.K neg x y H Q := fun {ds p xs} ey hq r h => by
  cases e1 : flV dx with
  | none => simp [e1] at h
  | some v =>
   cases e2 : flVs ds with
   | none => simp [e1, e2] at h
   | some vs =>
    rw [e1, e2] at h
    cases h
    obtain ⟨z1, z2⟩ := JN rx e1
    obtain ⟨z3, z4⟩ := Jx r e2
    subst z1
    subst z3
    exact ⟨p, xs, ey, hq, z2, z4, k _ H (Same.refl H) (.bl _)⟩
 unfold inD at h
 split at h
 ·cases h; exact .inr ⟨_, _, rx.str, ry.str, k _ H (Same.refl H) (.bl _)⟩
 ·obtain ⟨p, xs, e, h1, r⟩ := ry.lst
  exact .inl (seq e (.inl h1) r h)
 ·obtain ⟨p, xs, e, h1, r⟩ := ry.tup
  exact .inl (seq e (.inr h1) r h)
 ·cases h
def eAt (f : D → D → Option Bool) (xs ys : List D) (j : Nat) : Bool := match xs[j]?, ys[j]? with | some x, some y => (f x y).getD false | _, _ => false
theorem Gi {f : D → D → Option Bool} : ∀ {xs ys : List D} {b : Bool}, allO f xs ys = some b → xs.length = ys.length ∧ (∀ (j : Nat) x y, xs[j]? = some x → ys[j]? = some y → f x y = some (eAt f xs ys j)) ∧ b = (List.range xs.length).all (eAt f xs ys)
 | [], [], b, h => by cases h; exact ⟨rfl, fun j x y h => by simp at h, rfl⟩
 | [], _ :: _, b, h => by cases h
 | _ :: _, [], b, h => by cases h
 | x :: xs, y :: ys, b, h => by
  unfold allO at h
  split at h
  ·rename_i a c e1 e2
   cases h
   obtain ⟨h1, h2, h3⟩ := Gi e2
   refine ⟨by simp [h1], fun j u v hu hv => ?_, ?_⟩
   ·cases j with
    | zero => simp at hu hv; subst hu; subst hv; rw [e1]; simp [eAt, e1]
    | succ j =>
     have := h2 j u v (by simpa using hu) (by simpa using hv)
     rw [this]
     simp [eAt]
   ·rw [List.length_cons, List.range_succ_eq_map, List.all_cons, List.all_map]
    have z : eAt f (x :: xs) (y :: ys) 0 = a := by simp [eAt, e1]
    rw [z, h3]
    rfl
  ·cases h
theorem Px {u : V} (h : Eg u = true) : eqV u u = true := by
 cases u <;> simp [eqV] <;> cases h
theorem G5 {H : Hp} {v : V} {d : D} {u : V} (r : Rep G H v d) (h : flV d = some u) : v = u ∧ Eg v = true := JN (A := []) (.inl (r.mono fun b o z => by rw [BR List.not_mem_nil]; exact z)) h
section
variable {pins : List (Addr × Obj)} {σ : St} {H : Hp} {s : Shared}
theorem Jy (I : Inv X pins σ H s) (hG : G.K = X.K) : ∀ (n : Nat) {x y : D} {v : V} {b : Bool}, eqK n x y = some b → Rep G H v x → Rep G H v y → b = true := by
 have flat : ∀ {x y : D} {v : V} {b : Bool}, flD x y = some b → Rep G H v x → Rep G H v y → b = true := fun {x y v b} h rx ry => by
  unfold flD at h
  cases e1 : flV x with
  | none => simp [e1] at h
  | some u =>
   cases e2 : flV y with
   | none => simp [e1, e2] at h
   | some w =>
    simp [e1, e2] at h
    obtain ⟨z1, z2⟩ := G5 rx e1
    obtain ⟨z3, _⟩ := G5 ry e2
    rw [← h, ← z1, ← z3]
    exact Px z2
 intro n
 induction n with
 | zero => intro x y v b h rx ry; exact flat h rx ry
 | succ n ih =>
  have items : ∀ {xs : List V} {ds es : List D} {b : Bool}, allO (eqK n) ds es = some b → RepL G H xs ds → RepL G H xs es → b = true := fun {xs ds es b} h r1 r2 => by
   obtain ⟨h1, h2, h3⟩ := Gi h
   rw [h3, List.all_eq_true]
   intro j hj
   have hj' : j < ds.length := List.mem_range.mp hj
   have hx : xs[j]? = some (xs[j]'(by rw [r1.1]; exact hj')) := by simp [r1.1, hj']
   have hd : ds[j]? = some ds[j] := by simp [hj']
   have he : es[j]? = some (es[j]'(by omega)) := List.getElem?_eq_getElem (by omega)
   exact ih (h2 j _ _ hd he) (r1.2 j _ _ hx hd) (r2.2 j _ _ hx he)
  intro x y v b h rx ry
  unfold eqK eqS at h
  split at h
  ·split at h
   ·cases rx with
    | lst h1 l1 r1 =>
     cases ry with
     | lst h2 l2 r2 =>
      have e := I.list_inj (by rw [← hG]; exact h1) (by rw [← hG]; exact h2)
      subst e
      exact items h ⟨l1, r1⟩ ⟨l2, r2⟩
   ·rename_i hne
    cases rx with
    | lst h1 l1 r1 =>
     cases ry with
     | lst h2 l2 r2 =>
      have e := I.list_inj (by rw [← hG]; exact h1) (by rw [← hG]; exact h2)
      subst e
      exact absurd (l1.symm.trans l2) hne
  ·split at h
   ·cases rx with
    | tup h1 l1 r1 =>
     cases ry with
     | tup h2 l2 r2 =>
      have e := I.tuple_inj (by rw [← hG]; exact h1) (by rw [← hG]; exact h2)
      subst e
      exact items h ⟨l1, r1⟩ ⟨l2, r2⟩
   ·cases h
  ·exact flat h rx ry
theorem Dn {A : Around} {n : Nat} {ds es : List D} {b : Bool} {xs ys : List V} {its jts : List Value} (ih : ∀ {x y : D} {v w : V} {u1 u2 : Value} {b : Bool}, eqK n x y = some b → Rep G H v x → Rep G H w y → RelV v u1 → RelV w u2 → SeqAt.EqAt A s u1 u2 b)
  (h : allO (eqK n) ds es = some b) (r1 : RepL G H xs ds) (r2 : RepL G H ys es) (v1 : Vals xs its) (v2 : Vals ys jts) :
  its.toArray.size = jts.toArray.size ∧ b = (List.range its.toArray.size).all (eAt (eqK n) ds es) ∧ ∀ j (h1 : j < its.toArray.size) (h2 : j < jts.toArray.size), SeqAt.EqAt A s its.toArray[j] jts.toArray[j] (eAt (eqK n) ds es j) := by
 obtain ⟨h1, h2, h3⟩ := Gi h
 have l1 := v1.length
 have l2 := v2.length
 have q1 := r1.1
 have q2 := r2.1
 have z1 : its.toArray.size = ds.length := by rw [List.size_toArray]; omega
 refine ⟨by rw [List.size_toArray, List.size_toArray]; omega, by rw [z1]; exact h3, fun j j1 j2 => ?_⟩
 rw [List.size_toArray] at j1 j2
 have jx : j < xs.length := by omega
 have jy : j < ys.length := by omega
 have hx : xs[j]? = some xs[j] := by simp [jx]
 have hy : ys[j]? = some ys[j] := by simp [jy]
 have hd : ds[j]? = some (ds[j]'(by omega)) := List.getElem?_eq_getElem (by omega)
 have he : es[j]? = some (es[j]'(by omega)) := List.getElem?_eq_getElem (by omega)
 obtain ⟨u, eu, ru⟩ := v1.get hx
 obtain ⟨w, ew, rw'⟩ := v2.get hy
 have a1 : its.toArray[j] = u := by simpa [List.getElem?_eq_getElem j1] using eu
 have a2 : jts.toArray[j] = w := by simpa [List.getElem?_eq_getElem j2] using ew
 rw [a1, a2]
 exact ih (h2 j _ _ hd he) (r1.2 j _ _ hx hd) (r2.2 j _ _ hy he) ru rw'
theorem JQ {ds es : List D} {xs ys : List V} {its jts : List Value} (h : ds.length ≠ es.length) (r1 : RepL G H xs ds) (r2 : RepL G H ys es) (v1 : Vals xs its) (v2 : Vals ys jts) : (its.toArray.size != jts.toArray.size) = true := by
 have l1 := v1.length
 have l2 := v2.length
 have q1 := r1.1
 have q2 := r2.1
 rw [List.size_toArray, List.size_toArray]
 exact bne_iff_ne.mpr (by omega)
theorem Ha (I : Inv X pins σ H s) (hG : G.K = X.K) : ∀ (n : Nat) (A : Around), A.units + n < cLine → ∀ {x y : D} {v w : V} {u1 u2 : Value} {b : Bool}, eqK n x y = some b → Rep G H v x → Rep G H w y → RelV v u1 → RelV w u2 → SeqAt.EqAt A s u1 u2 b := by
 have flat : ∀ {A : Around} {x y : D} {v w : V} {u1 u2 : Value} {b : Bool}, flD x y = some b → Rep G H v x → Rep G H w y → RelV v u1 → RelV w u2 → SeqAt.EqAt A s u1 u2 b := fun {A x y v w u1 u2 b} h rx ry q1 q2 => by
  unfold flD at h
  cases e1 : flV x with
  | none => simp [e1] at h
  | some u =>
   cases e2 : flV y with
   | none => simp [e1, e2] at h
   | some w =>
    simp [e1, e2] at h
    obtain ⟨z1, z2⟩ := G5 rx e1
    obtain ⟨z3, z4⟩ := G5 ry e2
    rw [← h, ← z1, ← z3]
    exact Ny q1 q2 z2 z4
 intro n
 induction n with
 | zero => intro A hu x y v w u1 u2 b h rx ry q1 q2; exact flat h rx ry q1 q2
 | succ n ih =>
  intro A hu x y v w u1 u2 b h rx ry q1 q2
  have h' := h
  have hu1 : A.in1.units + n < cLine := by show A.units + 1 + n < cLine; omega
  have hu0 : A.units < cLine := by omega
  unfold eqK eqS at h
  split at h
  ·cases rx with
   | @lst a _ _ h1 l1 r1 =>
    cases ry with
    | @lst c _ _ h2 l2 r2 =>
     obtain rfl : u1 = .ref a := q1
     obtain rfl : u2 = .ref c := q2
     obtain ⟨its, v1, p1, _⟩ := I.list (by rw [← hG]; exact h1)
     obtain ⟨jts, v2, p2, _⟩ := I.list (by rw [← hG]; exact h2)
     by_cases hac : a = c
     ·subst hac
      have := Jy I hG (n + 1) h' (.lst h1 l1 r1) (.lst h2 l2 r2)
      subst this
      exact SeqAt.EqAt.same _
     ·split at h
      ·obtain ⟨z1, z2, z3⟩ := Dn (fun q => ih A.in1 hu1 q) h ⟨l1, r1⟩ ⟨l2, r2⟩ v1 v2
       rw [z2]
       exact SeqAt.EqAt.of_refs hac (SeqAt.RcAt.lists p1.isList p2.isList z1 hu0 z3)
      ·rename_i hne
       cases h
       exact SeqAt.EqAt.of_refs hac (SeqAt.RcAt.lists_lengths p1.isList p2.isList (JQ hne ⟨l1, r1⟩ ⟨l2, r2⟩ v1 v2) hu0)
  ·cases rx with
   | @tup a _ _ h1 l1 r1 =>
    cases ry with
    | @tup c _ _ h2 l2 r2 =>
     obtain rfl : u1 = .ref a := q1
     obtain rfl : u2 = .ref c := q2
     obtain ⟨its, v1, p1, _⟩ := I.tuple (by rw [← hG]; exact h1)
     obtain ⟨jts, v2, p2, _⟩ := I.tuple (by rw [← hG]; exact h2)
     by_cases hac : a = c
     ·subst hac
      have := Jy I hG (n + 1) h' (.tup h1 l1 r1) (.tup h2 l2 r2)
      subst this
      exact SeqAt.EqAt.same _
     ·split at h
      ·obtain ⟨z1, z2, z3⟩ := Dn (fun q => ih A.in1 hu1 q) h ⟨l1, r1⟩ ⟨l2, r2⟩ v1 v2
       have q := SeqAt.RcAt.tuples (show s.heap.IsTuple a its.toArray from p1) (show s.heap.IsTuple c jts.toArray from p2) hu0 z3
       rw [z1, Nat.min_self, beq_self_eq_true, Bool.and_true, ← z1, ← z2] at q
       exact SeqAt.EqAt.of_refs hac q
      ·cases h
  ·exact flat h rx ry q1 q2
end
def rEqP (G : Gx) (neg : Bool) : R2 := fun x y H Q => ∃ (A : List Addr) (ds es : List D) (b : Bool), eqvD (.lst ds) (.lst es) = some b ∧ ((RepT G A H x (.lst ds) ∧ RepT G A H y (.lst es)) ∨ (ds.length = es.length ∧ RepT G A H x (.tup ds) ∧ RepT G A H y (.tup es))) ∧ Q (.bl (if neg then !b else b)) H
theorem VB (hG : G.K = X.K) (hu : X.A.units + 64 < cLine) : OpR X (compareOp .Eq) (rEqP G false) := by
 intro pins s σ H x y v u Q I rx ry h
 obtain ⟨A, ds, es, b, e, hr, k⟩ := h
 have fin : EP X pins σ Q (.bool b) s := ⟨.bl b, H, I, rfl, k⟩
 simp only [eqvD] at e
 rcases hr with ⟨r1, r2⟩ | ⟨hl, r1, r2⟩
 ·obtain ⟨a, xs, rfl, h1, q1⟩ := r1.lst
  obtain ⟨c, ys, rfl, h2, q2⟩ := r2.lst
  cases rx
  cases ry
  obtain ⟨its, v1, p1, _⟩ := I.list (by rw [← hG]; exact h1)
  obtain ⟨jts, v2, p2, _⟩ := I.list (by rw [← hG]; exact h2)
  split at e
  ·obtain ⟨z1, z2, z3⟩ := Dn (fun q => Ha I hG 62 X.A.in1 (by show X.A.units + 1 + 62 < cLine; omega) q) e (q1.mono Am) (q2.mono Am) v1 v2
   exact SeqAt.RcAt.lists p1.isList p2.isList z1 (by omega) z3 _ _ _ _ (by rw [← z2]; exact fin)
  ·rename_i hne
   cases e
   exact SeqAt.RcAt.lists_lengths p1.isList p2.isList (JQ hne q1 q2 v1 v2) (by omega) _ _ _ _ fin
 ·obtain ⟨a, xs, rfl, h1, q1⟩ := r1.tup
  obtain ⟨c, ys, rfl, h2, q2⟩ := r2.tup
  cases rx
  cases ry
  obtain ⟨its, v1, p1, _⟩ := I.tuple (by rw [← hG]; exact h1)
  obtain ⟨jts, v2, p2, _⟩ := I.tuple (by rw [← hG]; exact h2)
  rw [if_pos hl] at e
  obtain ⟨z1, z2, z3⟩ := Dn (fun q => Ha I hG 62 X.A.in1 (by show X.A.units + 1 + 62 < cLine; omega) q) e (q1.mono Am) (q2.mono Am) v1 v2
  have q := SeqAt.RcAt.tuples (show s.heap.IsTuple a its.toArray from p1) (show s.heap.IsTuple c jts.toArray from p2) (by omega) z3
  rw [z1, Nat.min_self, beq_self_eq_true, Bool.and_true, ← z1, ← z2] at q
  exact q _ _ _ _ fin
theorem VD (hG : G.K = X.K) (hu : X.A.units + 64 < cLine) : OpR X (compareOp .NotEq) (rEqP G true) := by
 intro pins s σ H x y v u Q I rx ry h
 obtain ⟨A, ds, es, b, e, hr, k⟩ := h
 have fin : EP X pins σ Q (.bool (!b)) s := ⟨.bl (!b), H, I, rfl, k⟩
 simp only [eqvD] at e
 rcases hr with ⟨r1, r2⟩ | ⟨hl, r1, r2⟩
 ·obtain ⟨a, xs, rfl, h1, q1⟩ := r1.lst
  obtain ⟨c, ys, rfl, h2, q2⟩ := r2.lst
  cases rx
  cases ry
  obtain ⟨its, v1, p1, _⟩ := I.list (by rw [← hG]; exact h1)
  obtain ⟨jts, v2, p2, _⟩ := I.list (by rw [← hG]; exact h2)
  split at e
  ·obtain ⟨z1, z2, z3⟩ := Dn (fun q => Ha I hG 62 X.A.in1 (by show X.A.units + 1 + 62 < cLine; omega) q) e (q1.mono Am) (q2.mono Am) v1 v2
   exact SeqAt.RcNeAt.lists p1.isList p2.isList z1 (by omega) z3 _ _ _ _ (by rw [← z2]; exact fin)
  ·rename_i hne
   cases e
   exact SeqAt.RcNeAt.lists_lengths p1.isList p2.isList (JQ hne q1 q2 v1 v2) (by omega) _ _ _ _ fin
 ·obtain ⟨a, xs, rfl, h1, q1⟩ := r1.tup
  obtain ⟨c, ys, rfl, h2, q2⟩ := r2.tup
  cases rx
  cases ry
  obtain ⟨its, v1, p1, _⟩ := I.tuple (by rw [← hG]; exact h1)
  obtain ⟨jts, v2, p2, _⟩ := I.tuple (by rw [← hG]; exact h2)
  rw [if_pos hl] at e
  obtain ⟨z1, z2, z3⟩ := Dn (fun q => Ha I hG 62 X.A.in1 (by show X.A.units + 1 + 62 < cLine; omega) q) e (q1.mono Am) (q2.mono Am) v1 v2
  have q := SeqAt.RcNeAt.tuples (show s.heap.IsTuple a its.toArray from p1) (show s.heap.IsTuple c jts.toArray from p2) (by omega) z3
  rw [z1, Nat.min_self, beq_self_eq_true, Bool.and_true, ← z1, ← z2] at q
  exact q _ _ _ _ fin
def rEqA (G : Gx) (neg : Bool) : R2 := fun x y H Q => (fun x y H Q => scal x y = true ∧ Q (.bl (if neg then !decide (x = y) else decide (x = y))) H) x y H Q ∨ rEqP G neg x y H Q
theorem Py (hG : G.K = X.K) (hu : X.A.units + 64 < cLine) : OpR X (compareOp .Eq) (rEqA G false) := Vs.or (VB hG hu)
theorem VG (hG : G.K = X.K) (hu : X.A.units + 64 < cLine) : OpR X (compareOp .NotEq) (rEqA G true) := Vt.or (VD hG hu)
theorem JR {α β : Type} [DecidableEq α] [DecidableEq β] {f : α → β} (h : ∀ a b, f a = f b → a = b) (a b : α) : decide (f a = f b) = decide (a = b) := by
 by_cases e : a = b
 ·subst e; simp
 ·rw [decide_eq_false e, decide_eq_false fun z => e (h a b z)]
theorem Kp (neg : Bool) : Cm G (rEqA G neg) (eqD neg) := by
 intro A H x y dx dy d Q lv rx ry h k
 unfold eqD at h
 cases e : eqvD dx dy with
 | none => simp [e] at h
 | some b =>
  simp only [e, Option.map_some] at h
  cases h
  unfold eqvD at e
  split at e
  ·cases e
   rw [rx.int, ry.int]
   refine .inl ⟨rfl, ?_⟩
   rw [JR (f := V.int) (fun a b z => by cases z; rfl)]
   exact k _ H (Same.refl H) (.bl _)
  ·cases e
   rw [rx.str, ry.str]
   refine .inl ⟨rfl, ?_⟩
   rw [JR (f := V.str) (fun a b z => by cases z; rfl)]
   exact k _ H (Same.refl H) (.bl _)
  ·cases e
   rw [rx.bl, ry.bl]
   refine .inl ⟨rfl, ?_⟩
   rw [JR (f := V.bl) (fun a b z => by cases z; rfl)]
   exact k _ H (Same.refl H) (.bl _)
  ·exact .inr ⟨A, _, _, b, e, .inl ⟨rx, ry⟩, k _ H (Same.refl H) (.bl _)⟩
  ·split at e
   ·rename_i hl
    exact .inr ⟨A, _, _, b, (by simp only [eqvD]; rw [if_pos hl]; exact e), .inr ⟨hl, rx, ry⟩, k _ H (Same.refl H) (.bl _)⟩
   ·cases e
  ·cases e
def SndC (G : Gx) (r : List V → Hp → VK → Prop) (g : D → Option D) : Prop := ∀ (A : List Addr) (H : Hp) (x : V) (dx d : D) (Q : VK), (∀ a ∈ A, Nt (H a)) → RepT G A H x dx → g dx = some d → (∀ v H', Same H H' → Rep G (hid A H') v d → Q v H') → r [x] H Q
theorem Lx {g : D → Option D} {ρ : Rho} {d : D} (h : uF g fa ρ = some d) : ∃ x, fa ρ = some x ∧ g x = some d := by
 unfold uF at h
 cases e : fa ρ with
 | none => simp [e] at h
 | some x => exact ⟨x, rfl, by simpa [e] using h⟩
theorem VH {r : List V → Hp → VK → Prop} {g : D → Option D} (s : SndC G r g) {A : List Addr} {σ : St} {H : Hp} {Q : VK} (h : tF G A (uF g fa) σ H Q) : tCB r (K5 (tT G A fa) tNil) σ H Q := by
 obtain ⟨ρ, d, o, e, k⟩ := h
 obtain ⟨x, e1, e2⟩ := Lx e
 exact ⟨ρ, x, o, e1, fun v H1 s1 r1 => s A H1 v x d Q (o.mono s1).live r1 e2 fun w H2 s2 r2 => k w H2 (s1.trans s2) r2⟩
theorem Cp {x : Str} {p : Pos} {id : String} {r : List V → Hp → VK → Prop} {g : D → Option D} (hc : Ej X (.builtin id) r) (s : SndC G r g) (hg : Gl X x) (hm : X.mg x = none) (hv : bootBuiltins x = some (.builtin id)) (ha : PU X G a fa)
  (hn : x ≠ "__name__" := by decide) (hdb : (x == ("__debug__" : Str)) = false := by decide) (he : starEach [a] X.env = [(false, eval a X.env)] := by rfl) : PF X G (.Call (.Name x p) [a] [] pos) (uF g fa) :=
 fun A => Bh (Jl hc hg hm hv (Bs (@ha A) Fo he) hn hdb he rfl) fun _ _ _ h => VH s h
theorem Ez : SndC G (fun xs H Q => ∃ x n, xs = [x] ∧ LenV G.K x H n ∧ Q (.int n) H) lenD := by
 intro A H x dx d Q lv rx h k
 unfold lenD at h
 split at h
 ·split at h
  ·rename_i hz; cases h; rw [rx.str]; exact ⟨_, _, rfl, ⟨hz, rfl⟩, k _ H (Same.refl H) (.int _)⟩
  ·cases h
 ·cases h
  obtain ⟨p, xs, rfl, h1, r⟩ := rx.lst
  exact ⟨_, _, rfl, .inl ⟨xs, h1, rfl⟩, by rw [r.1]; exact k _ H (Same.refl H) (.int _)⟩
 ·cases h
  obtain ⟨p, xs, rfl, h1, r⟩ := rx.tup
  exact ⟨_, _, rfl, .inr ⟨xs, h1, rfl⟩, by rw [r.1]; exact k _ H (Same.refl H) (.int _)⟩
 ·cases h
theorem Cd (hG : G.K = X.K) : Ej X (.builtin "len") (fun xs H Q => ∃ x n, xs = [x] ∧ LenV G.K x H n ∧ Q (.int n) H) := by rw [hG]; exact Np
end
end PV
namespace PV
open PySem PySem.Spec L2
open PyProof.Rows hiding St
def T9 (G : Gx) (F2 H H' : Hp) (x : V) (d : D) : Prop := Same H H' ∧ ∀ B : List Addr, (∀ a ∈ B, Nt (H a)) → Same F2 (hid B H) → Rep G (hid B H') x d
theorem JS {G : Gx} {F2 H H' : Hp} {x : V} {d : D} (h : H' = H ∧ Rep G F2 x d) : T9 G F2 H H' x d := by
 obtain ⟨rfl, r⟩ := h
 exact ⟨Same.refl _, fun B _ sm => r.mono sm⟩
structure Src (G : Gx) (J : It) (ds : List D) (F1 F2 : Hp) : Prop where
 go : ∀ i H, Same F1 H → i < ds.length → J.go i H
 yld : ∀ i H x H' d, Same F1 H → ds[i]? = some d → J.yld i H x H' → T9 G F2 H H' x d
 stop : ∀ i H, Same F1 H → ds.length ≤ i → J.stop i H
def tI (G : Gx) (A : List Addr) (top : Bool) (f : FI) : TI := fun σ H R => ∃ ρ ds, Okp G A σ H ρ ∧ f ρ = some ds ∧ ∀ J H1, Same H H1 → Src G J ds (if top then H1 else hid A H1) (hid A H1) → R J H1
def PFI (X : Cx) (G : Gx) (top : Bool) (tg e : Expr) (f : FI) : Prop := ∀ ⦃A⦄, PI X tg e (tI G A top f)
theorem Ly {X : Cx} {tg e : Expr} {t t' : TI} (h : PI X tg e t) (w : ∀ σ H Q, t' σ H Q → t σ H Q) : PI X tg e t' := fun pins s σ H Q I q => h pins s σ H Q I (w σ H Q q)
theorem piOr {X : Cx} {tg e : Expr} {t t' : TI} (h : PI X tg e t) (h' : PI X tg e t') : PI X tg e (fun σ H R => t σ H R ∨ t' σ H R) := fun pins s σ H Q I q => by
 rcases q with q | q
 ·exact h pins s σ H Q I q
 ·exact h' pins s σ H Q I q
section
variable {X : Cx} {G : Gx} {a b c tg : Expr} {fa fb fc : FE} {pos p2 : Pos}
theorem Rh {F1 F2 : Hp} {p : Addr} {xs : List V} {ds : List D} (h : SqT G.K F1 p xs) (r : RepL G F2 xs ds) : Src G (Itt G.K p) ds F1 F2 where
 go := fun i H s hi => ⟨xs, xs[i]'(by rw [r.1]; exact hi), Dl s h, by simp [r.1, hi]⟩
 yld := fun i H x H' d s hd y => JS ⟨y.1, r.2 i x d (y.2 xs (Dl s h)) hd⟩
 stop := fun i H s hi => ⟨xs, Dl s h, by rw [r.1]; exact hi⟩
theorem Lz (hG : G.K = X.K) (h : PF X G a fa) : PFI X G false tg a (seqI fa) := fun A => Ly (piOr (Q4 (@h A)) (Uk (@h A))) fun σ H R ⟨ρ, ds, o, e, k⟩ => by
 unfold seqI at e
 split at e
 ·rename_i ds' e1
  cases e
  refine .inl ⟨ρ, _, o, e1, fun v H1 s1 r1 => ?_⟩
  cases r1 with
  | lst h l r => exact ⟨_, rfl, ⟨_, by rw [← hG]; exact Am.seq h⟩, by rw [← hG]; exact k _ H1 s1 { go := fun i H s hi => ⟨_, _, s.seq h, by simp [l, hi]; rfl⟩, yld := fun i H x H' d s hd y => JS ⟨y.1, r i x d (y.2 _ (s.seq h)) hd⟩, stop := fun i H s hi => ⟨_, s.seq h, by rw [l]; exact hi⟩ }⟩
 ·rename_i ds' e1
  cases e
  refine .inr ⟨ρ, _, o, e1, fun v H1 s1 r1 => ?_⟩
  cases r1 with
  | tup h l r => exact ⟨_, rfl, ⟨_, by rw [← hG]; exact Dl Am h⟩, by rw [← hG]; exact k _ H1 s1 (Rh h ⟨l, r⟩)⟩
 ·cases e
end
structure OkW (G : Gx) (A0 : List Addr) (He : Hp) (A : List Addr) (σ : St) (H : Hp) (ρ : Rho) : Prop where
 same : Same He H
 sub : ∀ a ∈ A0, a ∈ A
 fr : ∀ a ∈ A, a ∈ A0 ∨ He a = none
 l0 : ∀ a ∈ A0, He a ≠ none
 ok : Okp G A σ H ρ
 ow0 : ∀ (i : Nat) (d : D) (a : Addr), ρ[i]? = some (.ow d) → σ[i]? = some (some (.ref a)) → a ∉ A0
 lt : ∀ (x : Addr) (d : D), G.lent = some x → ρ[0]? = some (.ow d) → σ[0]? = some (some (.ref x))
def OkS (G : Gx) (A0 : List Addr) (He : Hp) (σ : St) (H : Hp) (ρ : Rho) : Prop := ∃ A, OkW G A0 He A σ H ρ
def Hb (G : Gx) (A0 : List Addr) (He : Hp) (D : Ends) : Out → Prop
 | .nx ρ => ∀ σ H, OkS G A0 He σ H ρ → D.nx σ H
 | .rt d ρ => ∀ v σ H A, OkW G A0 He A σ H ρ → Rep G (hid A H) v d → D.rt v H
 | .bk ρ => ∀ σ H, OkS G A0 He σ H ρ → D.bk σ H
 | .ct ρ => ∀ σ H, OkS G A0 He σ H ρ → D.ct σ H
def tS (G : Gx) (A0 : List Addr) (He : Hp) (g : FS) : TS := fun D σ H => ∃ ρ o, OkS G A0 He σ H ρ ∧ g ρ = some o ∧ Hb G A0 He D o
def PSD (X : Cx) (G : Gx) (st : Stmt) (g : FS) : Prop := ∀ ⦃A0⦄ He, PS X st (tS G A0 He g)
def PSDs (X : Cx) (G : Gx) (st : List Stmt) (g : FS) : Prop := ∀ ⦃A0⦄ He, PSs X st (tS G A0 He g)
theorem Okp.set {G : Gx} {A : List Addr} {σ : St} {H : Hp} {ρ : Rho} {v : V} {d : D} (o : Okp G A σ H ρ) (r : Rep G (hid A H) v d) (i : Nat) : Okp G A (σ.set i (some v)) H (ρ.set i (.fz d)) := by
 have key : ∀ (j : Nat) (z : Slot), (ρ.set i (.fz d))[j]? = some z → (j = i ∧ z = .fz d ∧ i < ρ.length) ∨ (j ≠ i ∧ ρ[j]? = some z) := fun j z h => by
  by_cases hj : j = i
  ·subst hj
   by_cases hl : j < ρ.length
   ·rw [List.getElem?_set_self hl] at h
    exact .inl ⟨rfl, (Option.some.inj h).symm, hl⟩
   ·rw [List.getElem?_eq_none (by simpa using Nat.not_lt.mp hl)] at h
    cases h
  ·rw [List.getElem?_set_ne (Ne.symm hj)] at h
   exact .inr ⟨hj, h⟩
 have keyS : ∀ (j : Nat), j ≠ i → (σ.set i (some v))[j]? = σ[j]? := fun j hj => List.getElem?_set_ne (Ne.symm hj)
 refine ⟨by rw [List.length_set, List.length_set]; exact o.len, o.live, fun j e h => ?_, fun j e h => ?_, fun j k e f p h1 h2 h3 h4 => ?_⟩
 ·rcases key j _ h with ⟨hj, hz, hl⟩ | ⟨hj, hz⟩
  ·cases hz
   subst hj
   exact ⟨v, by rw [List.getElem?_set_self (by rw [o.len]; exact hl)], r⟩
  ·obtain ⟨u, q1, q2⟩ := o.fz j e hz
   exact ⟨u, by rw [keyS j hj]; exact q1, q2⟩
 ·rcases key j _ h with ⟨hj, hz, hl⟩ | ⟨hj, hz⟩
  ·cases hz
  ·obtain ⟨u, q1, q2⟩ := o.ow j e hz
   exact ⟨u, by rw [keyS j hj]; exact q1, q2⟩
 ·rcases key j _ h1 with ⟨_, hz, _⟩ | ⟨hj, hz⟩
  ·cases hz
  ·rcases key k _ h2 with ⟨_, hz', _⟩ | ⟨hk, hz'⟩
   ·cases hz'
   ·rw [keyS j hj] at h3
    rw [keyS k hk] at h4
    exact o.inj j k e f p hz hz' h3 h4
theorem OkW.mono {G : Gx} {A0 : List Addr} {He : Hp} {A : List Addr} {σ : St} {H H' : Hp} {ρ : Rho} (o : OkW G A0 He A σ H ρ) (s : Same H H') : OkW G A0 He A σ H' ρ := ⟨o.same.trans s, o.sub, o.fr, o.l0, o.ok.mono s, o.ow0, o.lt⟩
theorem OkW.set {G : Gx} {A0 : List Addr} {He : Hp} {A : List Addr} {σ : St} {H : Hp} {ρ : Rho} {v : V} {d : D} (o : OkW G A0 He A σ H ρ) (r : Rep G (hid A H) v d) (i : Nat) : OkW G A0 He A (σ.set i (some v)) H (ρ.set i (.fz d)) := ⟨o.same, o.sub, o.fr, o.l0, o.ok.set r i, fun j e a h1 h2 => by
  have hj : j ≠ i := by
   intro z
   subst z
   by_cases hl : j < ρ.length
   ·rw [List.getElem?_set_self hl] at h1; cases h1
   ·rw [List.getElem?_eq_none (by simpa using Nat.not_lt.mp hl)] at h1; cases h1
  rw [List.getElem?_set_ne (Ne.symm hj)] at h1 h2
  exact o.ow0 j e a h1 h2, fun x e hx h0 => by
  by_cases hi : i = 0
  ·subst hi
   cases ρ with
   | nil => cases h0
   | cons a r => cases h0
  ·rw [List.getElem?_set_ne hi] at h0 ⊢
   exact o.lt x e hx h0⟩
theorem OkW.base {G : Gx} {A0 : List Addr} {He Hf : Hp} {A : List Addr} {σ : St} {H : Hp} {ρ : Rho} (o : OkW G A0 Hf A σ H ρ) (s : Same He Hf) (l0 : ∀ a ∈ A0, He a ≠ none) : OkW G A0 He A σ H ρ :=
 ⟨s.trans o.same, o.sub, fun a ha => (o.fr a ha).imp id fun z => s.free z, l0, o.ok, o.ow0, o.lt⟩
theorem OkW.here {G : Gx} {A0 : List Addr} {He : Hp} {A : List Addr} {σ : St} {H : Hp} {ρ : Rho} (o : OkW G A0 He A σ H ρ) : Same He (hid (A.filter fun a => decide (a ∉ A0)) H) ∧ OkW G A0 (hid (A.filter fun a => decide (a ∉ A0)) H) A σ H ρ := by
 have hb : ∀ b, b ∈ (A.filter fun a => decide (a ∉ A0)) ↔ b ∈ A ∧ b ∉ A0 := fun b => by simp [List.mem_filter]
 have s1 : Same He (hid (A.filter fun a => decide (a ∉ A0)) H) := fun b u h => by
  rw [BR]
  ·exact o.same b u h
  ·intro z
   obtain ⟨z1, z2⟩ := (hb b).mp z
   rcases o.fr b z1 with q | q
   ·exact z2 q
   ·rw [q] at h; cases h
 refine ⟨s1, Am, o.sub, fun a ha => ?_, fun a ha h => ?_, o.ok, o.ow0, o.lt⟩
 ·by_cases hz : a ∈ A0
  ·exact .inl hz
  ·right
   unfold hid
   rw [if_pos ((hb a).mpr ⟨ha, hz⟩)]
 ·rw [BR (fun z => ((hb a).mp z).2 ha)] at h
  exact (o.ok.live a (o.sub a ha)).ne h
theorem OkW.plain {G : Gx} {A0 : List Addr} {A B : List Addr} {σ : St} {H1 H : Hp} {ρ : Rho} (sub : ∀ a ∈ A0, a ∈ B) (o : OkW G A0 (hid (B.filter fun a => decide (a ∉ A0)) H1) A σ H ρ) : Same (hid B H1) (hid A H) := fun b u h => by
 unfold hid at h
 split at h
 ·cases h
 ·rename_i hb
  have e : hid (B.filter fun a => decide (a ∉ A0)) H1 b = some u := by
   rw [BR (fun z => hb (List.mem_filter.mp z).1)]; exact h
  rw [BR]
  ·exact o.same b u e
  ·intro z
   rcases o.fr b z with q | q
   ·exact hb (sub b q)
   ·rw [q] at e; cases e
section
variable {X : Cx} {G : Gx} {a b c tg : Expr} {fa fb fc : FE} {ga : FT} {pos p2 : Pos} {st : Stmt} {rest body : List Stmt} {g gs gb : FS}
theorem DW : PSDs X G [] nxF := fun A0 He pins s σ H D I ⟨ρ, o, ok, e, k⟩ => by
 cases e
 exact Q0 pins s σ H D I (k σ H ok)
theorem Ar (h1 : PSD X G st g) (h2 : PSDs X G rest gs) : PSDs X G (st :: rest) (seqF g gs) := fun A0 He pins s σ H D I ⟨ρ, o, ok, e, k⟩ => by
 refine G8 (@h1 A0 He) (@h2 A0 He) pins s σ H D I ?_
 unfold seqF at e
 split at e
 ·rename_i ρ' e1
  exact ⟨ρ, _, ok, e1, fun σ' H' ok' => ⟨ρ', o, ok', e, k⟩⟩
 ·rename_i hno
  refine ⟨ρ, o, ok, e, ?_⟩
  cases o with
  | nx ρ' => exact absurd e (hno ρ')
  | rt d ρ' => exact k
  | bk ρ' => exact k
  | ct ρ' => exact k
theorem Az (h1 : PSD X G st g) : PSDs X G [st] g := fun A0 He => Iv (@h1 A0 He)
theorem Fy {s1 s2 : List Stmt} (ht : PFT X G c ga) (h1 : PSDs X G s1 g) (h2 : PSDs X G s2 gs) : PSD X G (.If c s1 s2 pos) (ifS ga g gs) := fun A0 He pins s σ H D I ⟨ρ, o, ⟨A, w⟩, e, k⟩ => by
 refine Sw (@ht A) (@h1 A0 He) (@h2 A0 He) pins s σ H D I ?_
 unfold ifS at e
 split at e
 ·rename_i e1
  exact ⟨ρ, _, w.ok, e1, fun H1 s1 => iteT ⟨ρ, o, ⟨A, w.mono s1⟩, e, k⟩⟩
 ·rename_i e1
  exact ⟨ρ, _, w.ok, e1, fun H1 s1 => iteF ⟨ρ, o, ⟨A, w.mono s1⟩, e, k⟩⟩
 ·cases e
theorem VJ {A0 : List Addr} {He : Hp} {A : List Addr} {σ : St} {H : Hp} {ρ : Rho} {o : Out} {D : Ends} {i : Nat} (w : OkW G A0 He A σ H ρ) (e : setF i fa ρ = some o) (k : Hb G A0 He D o) : tAsg (tF G A fa) (FW i) D σ H := by
 unfold setF at e
 cases e1 : fa ρ with
 | none => simp [e1] at e
 | some d =>
  simp only [e1, Option.map_some] at e
  cases e
  exact ⟨ρ, d, w.ok, e1, fun v H1 s1 r1 => k _ _ ⟨A, (w.mono s1).set r1 i⟩⟩
theorem Ri {i : Nat} {x : Str} {p : Pos} (h : ∀ te, PE X a te → PS X (.Assign [.Name x p] a pos) (tAsg te (FW i))) (ha : PF X G a fa) : PSD X G (.Assign [.Name x p] a pos) (setF i fa) := fun A0 He pins s σ H D I ⟨ρ, o, ⟨A, w⟩, e, k⟩ =>
 h _ (@ha A) pins s σ H D I (VJ w e k)
theorem Aw (ha : PF X G a fa) : PSD X G (.Return (some a) pos) (retF fa) := fun A0 He pins s σ H D I ⟨ρ, o, ⟨A, w⟩, e, k⟩ => by
 refine Ni (@ha A) pins s σ H D I ?_
 unfold retF at e
 cases e1 : fa ρ with
 | none => simp [e1] at e
 | some d =>
  simp only [e1, Option.map_some] at e
  cases e
  exact ⟨ρ, d, w.ok, e1, fun v H1 s1 r1 => k v σ H1 A (w.mono s1) r1⟩
def tGD (G : Gx) (A0 : List Addr) (He : Hp) (g : FG) : TG := fun v σ H Q => ∃ A ρ d ρ', OkW G A0 He A σ H ρ ∧ Rep G (hid A H) v d ∧ g d ρ = some ρ' ∧ ∀ σ' H', OkS G A0 He σ' H' ρ' → Q σ' H'
def PGD (X : Cx) (G : Gx) (tg : Expr) (g : FG) : Prop := ∀ ⦃A0⦄ He, PG X tg (tGD G A0 He g)
theorem Pz {i : Nat} (h : PG X tg (FW i)) : PGD X G tg (LC i) := fun A0 He pins s σ H v u Q I r ⟨A, ρ, d, ρ', w, rv, e, k⟩ => by
 cases e
 exact h pins s σ H v u Q I r (k _ _ ⟨A, w.set rv i⟩)
theorem Hb.base {A0 : List Addr} {He Hf : Hp} {D : Ends} {o : Out} (k : Hb G A0 He D o) (s : Same He Hf) (l0 : ∀ a ∈ A0, He a ≠ none) : Hb G A0 Hf D o := by
 cases o with
 | nx ρ => exact fun σ H ⟨A, w⟩ => k σ H ⟨A, w.base s l0⟩
 | rt d ρ => exact fun v σ H A w r => k v σ H A (w.base s l0) r
 | bk ρ => exact fun σ H ⟨A, w⟩ => k σ H ⟨A, w.base s l0⟩
 | ct ρ => exact fun σ H ⟨A, w⟩ => k σ H ⟨A, w.base s l0⟩
theorem Rj {it : Expr} {src : FI} {fg : FG} (hp : PassesOwn (model X.prog X.w) X.A X.env X.xe) (hc : X.calm = true) (hi : PFI X G false tg it src) (hg : PGD X G tg fg) (hb : PSDs X G body gb)
  (hs : ∀ x, foldedSetIterable it X.env x = pure x := by intro _; rfl) : PSD X G (.For tg it body [] pos) (forS src fg gb) := fun A0 He pins s σ H D I ⟨ρ, o, ⟨A, w⟩, e, k⟩ => by
 cases e1 : src ρ with
 | none => simp [forS, e1] at e
 | some ds =>
  have e' : forF (fun d ρ => (fg d ρ).bind gb) ds ρ = some o := by
   have e2 : forF (tgB fg gb) ds ρ = some o := by simpa [forS, e1] using e
   exact e2
  have hb' : PSs X body (fun D σ H => ∃ A0 He, tS G A0 He gb D σ H) := fun pins s σ H D I ⟨A0, He, q⟩ => @hb A0 He pins s σ H D I q
  have hg' : PG X tg (fun v σ H Q => ∃ A0 He, tGD G A0 He fg v σ H Q) := fun pins s σ H v u Q I r ⟨A0, He, q⟩ => @hg A0 He pins s σ H v u Q I r q
  refine Ul hp hc (@hi A) hg' hb' hs pins s σ H D I ⟨ρ, ds, w.ok, e1, fun J H1 s1 sr => ?_⟩
  obtain ⟨sHe, w2⟩ := (w.mono s1).here
  have k2 := k.base sHe w.l0
  generalize hHf : hid (A.filter fun a => decide (a ∉ A0)) H1 = Hf at sHe w2 k2
  refine ⟨fun i m σ' H' => m = ds.length - i ∧ i ≤ ds.length ∧ ∃ ρ', OkS G A0 Hf σ' H' ρ' ∧ forF (fun d ρ => (fg d ρ).bind gb) (ds.drop i) ρ' = some o, ⟨ds.length, by simp, Nat.zero_le _, ρ, ⟨A, w2⟩, by simpa using e'⟩, ?_⟩
  rintro i m σ3 H3 ⟨rfl, hil, ρ3, ⟨B, w3⟩, e3⟩
  have pl : Same (hid A H1) (hid B H3) := by rw [← hHf] at w3; exact OkW.plain w.sub w3
  by_cases hlt : i < ds.length
  ·right
   have hd : ds[i]? = some ds[i] := by simp [hlt]
   have ed : ds.drop i = ds[i] :: ds.drop (i + 1) := List.drop_eq_getElem_cons hlt
   rw [ed] at e3
   unfold forF at e3
   refine ⟨sr.go i H3 (pl.trans Am) hlt, fun σ' H' => ∃ ρ', OkS G A0 Hf σ' H' ρ' ∧ forF (fun d ρ => (fg d ρ).bind gb) (ds.drop (i + 1)) ρ' = some o, fun σ' H' q => ⟨ds.length - (i + 1), by omega, rfl, hlt, q⟩, fun x H' y => ?_⟩
   obtain ⟨sy, rx⟩ := sr.yld i H3 x H' _ (pl.trans Am) hd y
   refine ⟨A0, Hf, B, ρ3, ds[i], ?_⟩
   cases e4 : fg ds[i] ρ3 with
   | none => simp [e4] at e3
   | some ρ4 =>
    refine ⟨ρ4, w3.mono sy, rx B w3.ok.live pl, rfl, fun σ5 H5 ok5 => ⟨A0, Hf, ρ4, ?_⟩⟩
    cases e5 : gb ρ4 with
    | none => simp [e4, e5] at e3
    | some o5 =>
     refine ⟨o5, ok5, rfl, ?_⟩
     cases o5 with
     | nx ρ5 =>
      simp only [e4, e5, Option.bind_some] at e3
      exact fun σ' H' ok' => ⟨ρ5, ok', e3⟩
     | ct ρ5 =>
      simp only [e4, e5, Option.bind_some] at e3
      exact fun σ' H' ok' => ⟨ρ5, ok', e3⟩
     | bk ρ5 =>
      simp only [e4, e5, Option.bind_some] at e3
      cases e3
      exact fun σ' H' ok' => k2 σ' H' ok'
     | rt d5 ρ5 =>
      simp only [e4, e5, Option.bind_some] at e3
      cases e3
      exact k2
  ·left
   have ei : i = ds.length := by omega
   subst ei
   rw [List.drop_length] at e3
   cases e3
   exact ⟨sr.stop _ H3 (pl.trans Am) (Nat.le_refl _), k2 σ3 H3 ⟨B, w3⟩⟩
theorem M5 (n : Nat) (hp : PassesOwn (model X.prog X.w) X.A X.env X.xe) (ht : PFT X G c ga) (hb : PSDs X G body gb) : PSD X G (.While c body [] pos) (Ft ga gb n) := fun A0 He pins s σ H D I ⟨ρ, o, ok, e, k⟩ => by
 have ht' : PT X c (fun σ H Q => ∃ A, tFT G A ga σ H Q) := fun pins s σ H Q I ⟨A, q⟩ => @ht A pins s σ H Q I q
 refine Nj hp ht' (@hb A0 He) pins s σ H D I ⟨fun m σ' H' => ∃ ρ', OkS G A0 He σ' H' ρ' ∧ Ft ga gb m ρ' = some o, ⟨n, ρ, ok, e⟩, ?_⟩
 rintro m σ1 H1 ⟨ρ1, ⟨A, w1⟩, e1⟩
 cases m with
 | zero => cases e1
 | succ m =>
  unfold Ft at e1
  cases e2 : ga ρ1 with
  | none => simp [e2] at e1
  | some t =>
   refine ⟨A, ρ1, t, w1.ok, e2, fun H2 s2 => ?_⟩
   cases t with
   | false =>
    refine iteF ?_
    simp only [e2] at e1
    cases e1
    exact k σ1 H2 ⟨A, w1.mono s2⟩
   | true =>
    refine iteT ⟨fun σ' H' => ∃ ρ', OkS G A0 He σ' H' ρ' ∧ Ft ga gb m ρ' = some o, fun σ' H' q => ⟨m, Nat.lt_succ_self m, q⟩, ρ1, ?_⟩
    simp only [e2] at e1
    cases e3 : gb ρ1 with
    | none => simp [e3] at e1
    | some o3 =>
     refine ⟨o3, ⟨A, w1.mono s2⟩, rfl, ?_⟩
     cases o3 with
     | nx ρ5 => simp only [e3] at e1; exact fun σ' H' ok' => ⟨ρ5, ok', e1⟩
     | ct ρ5 => simp only [e3] at e1; exact fun σ' H' ok' => ⟨ρ5, ok', e1⟩
     | bk ρ5 => simp only [e3] at e1; cases e1; exact fun σ' H' ok' => k σ' H' ok'
     | rt d5 ρ5 => simp only [e3] at e1; cases e1; exact k
end
def spD (G : Gx) (g : List D → Option D) : Sp := fun vs H Q _ => ∃ A ds d, (∀ a ∈ A, Nt (H a)) ∧ RepL G (hid A H) vs ds ∧ g ds = some d ∧ ∀ v H', Same H H' → Rep G (hid A H') v d → Q v H'
section
variable {X : Cx} {G : Gx} {a : Expr} {es : List Expr} {fs : FA} {pos p : Pos}
theorem V6 {k : Nat} {f : Addr} {fd : FuncData} {ps : List Str} {g : List D → Option D} {x : Str} (F : FnOk X.prog X.w X.K X.mg X.base CX0 k f fd ps (spD G g)) (hr : Room k X.A) (hg : Gl X x) (hm : X.mg x = some (.ref f)) (hk : PySem.W.keepIn X.K (.ref f) = true)
  (hb : Binds X.K fd ps []) (ha : PFA X G (a :: es) fs) (hdb : (x == ("__debug__" : Str)) = false := by decide) (he : starEach (a :: es) X.env = (false, eval a X.env) :: starEach es X.env := by rfl) (hpl : (backTo pos (starEach es X.env)).any (·.1) = false := by rfl) :
  PF X G (.Call (.Name x p) (a :: es) [] pos) (Dk g fs) := fun A => Bh (Q_ F hr hg hm hk hb .nil Jo (@ha A) hdb he hpl) fun σ H Q ⟨ρ, d, o, e, k⟩ => by
 unfold Dk at e
 cases e1 : fs ρ with
 | none => simp [e1] at e
 | some ds =>
  have e' : g ds = some d := by simpa [e1] using e
  refine ⟨ρ, ds, o, e1, fun vs H1 s1 r1 => ⟨A, ds, d, (o.mono s1).live, by rw [List.append_nil]; exact r1, e', fun v H2 s2 r2 => k v H2 (s1.trans s2) r2⟩⟩
end
theorem Hd {G : Gx} {A : List Addr} {H : Hp} {N : List Str} {vs : List V} {ds : List D} (live : ∀ a ∈ A, Nt (H a)) (r : RepL G (hid A H) vs ds) (hn : vs.length ≤ N.length) : OkS G A H (start N vs) H (Ca N.length ds) := by
 have key : ∀ (i : Nat) (z : Slot), (Ca N.length ds)[i]? = some z → (∃ d, z = .fz d ∧ ds[i]? = some d) ∨ z = .un := fun i z h => by
  unfold Ca at h
  by_cases hi : i < ds.length
  ·rw [List.getElem?_append_left (by simpa using hi), List.getElem?_map] at h
   cases e : ds[i]? with
   | none => rw [e] at h; cases h
   | some d => rw [e] at h; exact .inl ⟨d, (Option.some.inj h).symm, rfl⟩
  ·rw [List.getElem?_append_right (by simpa using Nat.not_lt.mp hi), List.getElem?_replicate] at h
   split at h
   ·exact .inr (Option.some.inj h).symm
   ·cases h
 refine ⟨A, Same.refl H, fun _ h => h, fun a h => .inl h, fun a ha => (live a ha).ne, ⟨?_, live, fun i d h => ?_, fun i d h => ?_, fun i j d e a h _ _ _ => ?_⟩, fun i d a h _ => ?_, fun x d _ h => ?_⟩
 ·unfold L2.start Ca
  rw [List.length_append, List.length_append, List.length_map, List.length_map, List.length_replicate, List.length_replicate, r.1]
 ·rcases key i _ h with ⟨d', e, hd⟩ | e
  ·cases e
   obtain ⟨v, h1, h2⟩ := r.get hd
   refine ⟨v, ?_, h2⟩
   unfold L2.start
   rw [List.getElem?_append_left (by rw [List.length_map]; exact (List.getElem?_eq_some_iff.mp h1).1), List.getElem?_map, h1]
   rfl
  ·cases e
 ·rcases key i _ h with ⟨d', e, hd⟩ | e
  ·cases e
  ·cases e
 ·rcases key i _ h with ⟨d', e, hd⟩ | e
  ·cases e
  ·cases e
 ·rcases key i _ h with ⟨d', e, hd⟩ | e
  ·cases e
  ·cases e
 ·rcases key 0 _ h with ⟨d', e, hd⟩ | e
  ·cases e
  ·cases e
theorem fn_D {P : Program} {w : World} {G : Gx} {mg : Str → Option Value} {base : Heap} {x qual : Str} {st : Stmt} {f : Addr} {fd : FuncData} {N ps : List Str} {k : Nat} {b : FS} (F : Fun G.K x qual st f fd) (S : FnScope N ps (Aa st)) (hl : ps.length ≤ N.length)
  (hb : ∀ (cdv : Value) (A : Around) (outer : List Env) (s : Shared) (H : Hp) (E : XK), Room k (A.deeper (envOfC qual (Aa st) s.heap.objs.size f cdv)) → PSDs (cxOf CX0 P w G.K mg base N qual (Aa st) f cdv A outer s H E).nox G (Al st) b) :
  FnOk P w G.K mg base CX0 (k + 1) f fd ps (spD G (runF N.length ps.length b)) := by
 refine F.ok S (fun vs H Q E h => ?_) (fun cdv A outer s H vs Q E hr h => ?_)
 ·obtain ⟨A, ds, d, lv, r, e, _⟩ := h
  unfold runF at e
  split at e
  ·rename_i hz; rw [r.1]; exact hz
  ·cases e
 ·obtain ⟨A0, ds, d, lv, r, e, k⟩ := h
  unfold runF at e
  split at e
  ·rename_i hz
   have hzz := hb cdv A outer s H E hr
   refine ⟨_, @hzz A0 H, Ca N.length ds, ?_⟩
   cases e1 : b (Ca N.length ds) with
   | none => simp [e1] at e
   | some o =>
    refine ⟨o, Hd lv r (by rw [r.1, hz]; exact hl), rfl, ?_⟩
    cases o with
    | nx ρ =>
     simp only [e1] at e
     cases e
     exact fun σ H' ⟨A, w⟩ => k _ H' w.same .non
    | rt d' ρ' =>
     simp only [e1] at e
     cases e
     exact fun v σ H' A w r' => k v H' w.same (r'.mono (Bl w.sub))
    | bk ρ => simp [e1] at e
    | ct ρ => simp [e1] at e
  ·cases e
end PV
namespace PV
open PySem PySem.Spec L2
open PyProof.Rows hiding St
section
variable {X : Cx} {G : Gx} {a b c : Expr} {fa fb fc : FE} {pos p2 px : Pos} {scope : Scope} {t : Str} {elt iter : Expr} {ifs : List Expr} {ga : FT} {fe : FE} {src : FI}
def PFTs (X : Cx) (G : Gx) (ifs : List Expr) (f : FT) : Prop := ∀ ⦃A⦄, PTs X ifs (tFT G A f)
theorem P0 : PFTs X G [] allT := fun A pins s σ H Q I ⟨ρ, b, o, e, k⟩ => by
 cases e
 exact RV pins s σ H Q I (k H (Same.refl H))
theorem Okp.fill {A : List Addr} {σ : St} {H Hc : Hp} {ρ : Rho} {p : Addr} (o : Okp G A σ H ρ) (s : Same H Hc) (hp : H p = none) (hc : Nt (Hc p)) : Okp G (p :: A) σ Hc ρ := by
 have sm : Same (hid A H) (hid (p :: A) Hc) := fun b u h => by
  unfold hid at h
  split at h
  ·cases h
  ·rename_i hb
   rw [BR]
   ·exact s b u h
   ·intro z
    rcases List.mem_cons.mp z with z | z
    ·rw [z, hp] at h; cases h
    ·exact hb z
 refine ⟨o.len, fun a ha => ?_, fun i d h => ?_, fun i d h => ?_, o.inj⟩
 ·rcases List.mem_cons.mp ha with z | z
  ·rw [z]; exact hc
  ·exact (o.mono s).live a z
 ·obtain ⟨v, h1, h2⟩ := o.fz i d h
  exact ⟨v, h1, h2.mono sm⟩
 ·obtain ⟨a, h1, h2, h3⟩ := o.ow i d h
  refine ⟨a, h1, List.mem_cons_of_mem _ h2, ?_⟩
  cases d with
  | lst ds => obtain ⟨xs, q1, q2⟩ := h3; exact ⟨xs, s _ _ q1, q2.mono sm⟩
  | dk ds => obtain ⟨xs, q1, q2, q3⟩ := h3; exact ⟨xs, s _ _ q1, q2, q3.mono sm⟩
  | dt ds => obtain ⟨xs, q1, q2, q3⟩ := h3; exact ⟨xs, s _ _ q1, q2, q3.mono sm⟩
  | ob c gs => obtain ⟨C, dx, xs, q1, q2, q3⟩ := h3; exact ⟨C, dx, xs, s _ _ q1, q2, q3.mono sm⟩
  | _ => exact h3.elim
theorem Okp.snoc {A : List Addr} {σ : St} {H : Hp} {ρ : Rho} {v : V} {d : D} (o : Okp G A σ H ρ) (r : Rep G (hid A H) v d) : Okp G A (σ ++ [some v]) H (ρ ++ [.fz d]) := by
 have key : ∀ (j : Nat) (z : Slot), (ρ ++ [.fz d])[j]? = some z → (j = ρ.length ∧ z = .fz d) ∨ (j < ρ.length ∧ ρ[j]? = some z) := fun j z h => by
  by_cases hj : j < ρ.length
  ·rw [List.getElem?_append_left hj] at h; exact .inr ⟨hj, h⟩
  ·rw [List.getElem?_append_right (Nat.not_lt.mp hj)] at h
   cases q : j - ρ.length with
   | zero => rw [q] at h; exact .inl ⟨by omega, (Option.some.inj h).symm⟩
   | succ n => rw [q] at h; cases h
 have keyS : ∀ (j : Nat), j < ρ.length → (σ ++ [some v])[j]? = σ[j]? := fun j hj => List.getElem?_append_left (by rw [o.len]; exact hj)
 refine ⟨by rw [List.length_append, List.length_append, o.len]; rfl, o.live, fun j e h => ?_, fun j e h => ?_, fun j k e f p h1 h2 h3 h4 => ?_⟩
 ·rcases key j _ h with ⟨hj, hz⟩ | ⟨hj, hz⟩
  ·cases hz
   subst hj
   exact ⟨v, by rw [List.getElem?_append_right (by rw [o.len]; exact Nat.le_refl _), o.len, Nat.sub_self]; rfl, r⟩
  ·obtain ⟨u, q1, q2⟩ := o.fz j e hz
   exact ⟨u, by rw [keyS j hj]; exact q1, q2⟩
 ·rcases key j _ h with ⟨hj, hz⟩ | ⟨hj, hz⟩
  ·cases hz
  ·obtain ⟨u, q1, q2⟩ := o.ow j e hz
   exact ⟨u, by rw [keyS j hj]; exact q1, q2⟩
 ·rcases key j _ h1 with ⟨_, hz⟩ | ⟨hj, hz⟩
  ·cases hz
  ·rcases key k _ h2 with ⟨_, hz'⟩ | ⟨hk, hz'⟩
   ·cases hz'
   ·rw [keyS j hj] at h3
    rw [keyS k hk] at h4
    exact o.inj j k e f p hz hz' h3 h4
theorem Rk {A : List Addr} {σ : St} {H : Hp} {Q : VK} (h : tF G A (LK src ga fe) σ H Q) : T4 (tI G A true src) (fun σ H Q => ∃ A, tFT G A ga σ H Q) (fun σ H Q => ∃ A, tF G A fe σ H Q) σ H Q := by
 obtain ⟨ρ, d, o, e, k⟩ := h
 unfold LK at e
 cases e1 : src ρ with
 | none => simp [e1] at e
 | some ds =>
  rw [e1] at e
  have e' : (if ds.length ≤ sizeLine then (GP ρ ga fe ds).map D.lst else none) = some d := e
  split at e'
  ·rename_i hz
   cases e2 : GP ρ ga fe ds with
   | none => simp [e2] at e'
   | some out =>
    simp only [e2, Option.map_some] at e'
    cases e'
    refine ⟨ρ, ds, o, e1, fun J H1 s1 sr p hp => ?_⟩
    have o1 := o.mono s1
    have npA : p ∉ A := fun z => (o1.live p z).ne hp
    refine ⟨fun i m ys Hc => m = ds.length - i ∧ i ≤ ds.length ∧ Hc p = some (.lst ys) ∧ Same H1 Hc ∧ ys.length ≤ i ∧ ∃ es rest, RepL G (hid (p :: A) Hc) ys es ∧ GP ρ ga fe (ds.drop i) = some rest ∧ es ++ rest = out,
     ⟨ds.length, by simp, Nat.zero_le _, Ag, Bc hp _, Nat.le_refl _, [], out, RepL.nil, by simpa using e2, rfl⟩, ?_⟩
    rintro i m ys Hc ⟨rfl, hil, hpc, sc, hy, es, rest, rr, er, eo⟩
    by_cases hlt : i < ds.length
    ·right
     have hd : ds[i]? = some ds[i] := by simp [hlt]
     have ed : ds.drop i = ds[i] :: ds.drop (i + 1) := List.drop_eq_getElem_cons hlt
     rw [ed] at er
     unfold GP at er
     refine ⟨sr.go i Hc sc hlt, fun x H' y => ?_⟩
     obtain ⟨sy, rx⟩ := sr.yld i Hc x H' _ sc hd y
     have okc : Okp G (p :: A) σ Hc ρ := o1.fill sc hp (by rw [hpc]; exact Nt.lst)
     have sm : Same (hid A H1) (hid (p :: A) Hc) := fun b u h => by
      unfold hid at h
      split at h
      ·cases h
      ·rename_i hb
       rw [BR]
       ·exact sc b u h
       ·intro z
        rcases List.mem_cons.mp z with z | z
        ·rw [z, hp] at h; cases h
        ·exact hb z
     have ok2 := (okc.mono sy).snoc (rx _ okc.live sm)
     have hpc := sy _ _ hpc
     have rr := rr.mono (An sy)
     have sc := sc.trans sy
     cases eg : ga (ρ ++ [.fz ds[i]]) with
     | none => simp [eg] at er
     | some b =>
      refine ⟨p :: A, _, b, ok2, eg, fun H2 s2 => ?_⟩
      cases b with
      | false =>
       refine iteF ⟨ds.length - (i + 1), by omega, rfl, hlt, s2 _ _ hpc, sc.trans s2, Nat.le_succ_of_le hy, es, rest, rr.mono (An s2), by simpa [eg] using er, eo⟩
      | true =>
       simp only [eg] at er
       cases ee : fe (ρ ++ [.fz ds[i]]) with
       | none => simp [ee] at er
       | some yd =>
        cases ec : GP ρ ga fe (ds.drop (i + 1)) with
        | none => simp [ee, ec] at er
        | some rest' =>
         simp only [ee, ec, Option.bind_some, Option.map_some] at er
         cases er
         refine iteT ⟨p :: A, _, yd, ok2.mono s2, ee, fun yv H3 s3 r3 => ?_⟩
         have hp3 := s3 _ _ (s2 _ _ hpc)
         refine ⟨hp3, by omega, ds.length - (i + 1), by omega, rfl, hlt, Ag, fun b u q => ?_, by rw [List.length_append]; simp; omega, es ++ [yd], rest', ?_, ec, by rw [List.append_assoc]; exact eo⟩
         ·have hb : b ≠ p := Af q hp
          rw [Ad hb]
          exact s3 _ _ (s2 _ _ (sc _ _ q))
         ·rw [Fw List.mem_cons_self]
          exact (rr.mono (An (s2.trans s3))).append (.cons r3 .nil)
    ·left
     have ei : i = ds.length := by omega
     subst ei
     rw [List.drop_length] at er
     simp only [GP] at er
     cases er
     rw [List.append_nil] at eo
     subst eo
     refine ⟨sr.stop _ Hc sc (Nat.le_refl _), k _ Hc (s1.trans sc) ?_⟩
     have q := rr.mono (Bl (A := A) fun a ha => List.mem_cons_of_mem _ ha)
     exact .lst (.of (by rw [BR npA]; exact hpc)) q.1 q.2
  ·cases e'
theorem Rm (N' : List Str) (eN : Ck t X.N ++ [t] = N') (c : CompOk X scope t) (hc : X.calm = true) (hi : PFI X G true (.Name t px) iter src) (hI : ∀ s2 H2 fp, PFTs { D_ X scope t s2 H2 fp with N := N' } G ifs ga) (hE : ∀ s2 H2 fp, PF { D_ X scope t s2 H2 fp with N := N' } G elt fe)
  (hs : ∀ x, foldedSetIterable iter X.env x = pure x := by intro _; rfl) : PF X G (.ListComp elt [⟨.Name t px, iter, ifs, 0⟩] scope pos) (LK src ga fe) := by
 subst eN
 intro A
 refine Bh (RW (tc := fun σ H Q => ∃ A, tFT G A ga σ H Q) (te := fun σ H Q => ∃ A, tF G A fe σ H Q) c hc (@hi A) (fun s2 H2 fp => ?_) (fun s2 H2 fp => ?_) hs) fun _ _ _ h => Rk h
 ·exact fun pins s σ H Q I ⟨A, q⟩ => hI s2 H2 fp pins s σ H Q I q
 ·exact fun pins s σ H Q I ⟨A, q⟩ => hE s2 H2 fp pins s σ H Q I q
end
end PV
namespace PV
open PySem PySem.Spec L2
open PyProof.Rows hiding St
section
variable {prog : Program} {w : World} {A : Around} {R : Result → Shared → Prop} {I : Addr} {fp wr : List Addr} {n : Nat} {P : Nat → Value → Prop} {Sx : Nat → Heap → Prop} {kw : List (Str × Value)}
end
section
variable {prog : Program} {w : World} {A : Around} {E : Value → Shared → Prop} {s : Shared} {l : Addr} {xs : Array (Int × Tok)}
end
section
variable {X : Cx} {G : Gx} {a b : Expr} {fa fb : FE} {pos p kpos : Pos}
end
end PV
namespace PV
open PySem PySem.Spec L2
open PyProof.Rows hiding St
theorem Fz : bootBuiltins "len" = some (.builtin "len") := by decide +kernel
theorem Dh : bootBuiltins "isinstance" = some (.builtin "isinstance") := by decide +kernel
def JT (N : List Str) (sc scope : Scope) (t : Str) : Bool :=
 scope.names.all (fun y => y.2 != .cell) && scope.kind == .function && scope.names.all (fun y => y.2 != .local || scope.names.lookup y.1 == some .local) && scope.names.lookup t == some .local
  && scope.names.all (fun y => y.2 != .local || y.1 == t || !N.contains y.1) && scope.names.all (fun y => y.2 != .free || sc.names.lookup y.1 == some .cell || sc.names.lookup y.1 == some .free) && scope.names.all (fun y => y.1 != Str.empty) && decide (Ck t N ++ [t]).Nodup
theorem M6 {X : Cx} {N : List Str} {sc scope : Scope} {t : Str} (hN : X.N = N) (hs : X.env.scope = sc) (h : JT N sc scope t = true) : CompOk X scope t := by
 unfold JT at h
 simp only [Bool.and_eq_true, List.all_eq_true, decide_eq_true_eq, beq_iff_eq, bne_iff_ne, Bool.or_eq_true, ne_eq] at h
 obtain ⟨⟨⟨⟨⟨⟨⟨h1, h2⟩, h3⟩, h4⟩, h5⟩, h6⟩, h7⟩, h8⟩ := h
 refine ⟨h1, h2, fun y hy e => ?_, h4, fun y hy e => ?_, fun y hy e => ?_, h7, by rw [hN]; exact h8⟩
 ·rcases h3 y hy with z | z
  ·exact absurd e z
  ·exact z
 ·rcases h5 y hy with (z | z) | z
  ·exact absurd e z
  ·exact .inl z
  ·right
   rw [hN]
   simpa using z
 ·have hk : ∀ x, X.env.kindOf x = sc.names.lookup x := fun x => by rw [← hs]; rfl
  rw [hk]
  rcases h6 y hy with (z | z) | z
  ·exact absurd e z
  ·exact .inl z
  ·exact .inr z
theorem Ij {G : Gx} {a : Addr} {od : Option Addr} {n : Nat} {sl : Array (Option Value)} {its : Array Value} {xs : List Str} (h : G.K.lookup a = some ⟨.type "tuple", od, .seq its n, sl⟩) (hz : its.size ≤ sizeLine) (r : Vals (xs.map V.str) its.toList) : Rep G (fun _ => none) (.ref a) (.tup (xs.map .str)) := by
 refine .tup (xs := xs.map V.str) (.inr ⟨_, its, n, h, rfl, rfl, hz, r⟩) (by simp) fun i x d h1 h2 => ?_
 rw [List.getElem?_map] at h1 h2
 cases e : xs[i]? with
 | none => rw [e] at h1; cases h1
 | some z => rw [e] at h1 h2; cases h1; cases h2; exact .str z
end PV
namespace PySem
end PySem
namespace PV
open PySem PySem.Spec L2
open PyProof.Rows hiding St
section
variable {X : Cx} {G : Gx} {a b c : Expr} {fa fb fc : FE} {pos p2 px : Pos} {es : List Expr} {fs : FA}
def tN (G : Gx) (A : List Addr) (f : FE) : TE := fun σ H Q => ∃ ρ d, Okp G A σ H ρ ∧ f ρ = some d ∧ ∀ p H', Same H H' → H p = none → Top G (p :: A) H' p d → Q (.ref p) H'
def PN (X : Cx) (G : Gx) (e : Expr) (f : FE) : Prop := ∀ ⦃A⦄, PE X e (tN G A f)
theorem Ik {A : List Addr} {H H' : Hp} {p : Addr} (s : Same H H') (hp : H p = none) : Same (hid A H) (hid (p :: A) H') := fun b u h => by
 unfold hid at h
 split at h
 ·cases h
 ·rename_i hb
  rw [BR]
  ·exact s b u h
  ·intro z
   rcases List.mem_cons.mp z with z | z
   ·rw [z, hp] at h; cases h
   ·exact hb z
theorem Top.fill {A : List Addr} {H H' : Hp} {p q : Addr} {d : D} (t : Top G A H q d) (s : Same H H') (hp : H p = none) : Top G (p :: A) H' q d := by
 have sm := Ik (A := A) s hp
 cases d with
 | lst ds => obtain ⟨xs, q1, q2⟩ := t; exact ⟨xs, s _ _ q1, q2.mono sm⟩
 | dk ds => obtain ⟨xs, q1, q2, q3⟩ := t; exact ⟨xs, s _ _ q1, q2, q3.mono sm⟩
 | dt ds => obtain ⟨xs, q1, q2, q3⟩ := t; exact ⟨xs, s _ _ q1, q2, q3.mono sm⟩
 | ob c gs => obtain ⟨C, dx, xs, q1, q2, q3⟩ := t; exact ⟨C, dx, xs, s _ _ q1, q2, q3.mono sm⟩
 | _ => exact t.elim
theorem Top.live {A : List Addr} {H : Hp} {q : Addr} {d : D} (t : Top G A H q d) : Nt (H q) := by
 cases d with
 | lst ds => obtain ⟨xs, q1, q2⟩ := t; rw [q1]; exact Nt.lst
 | dk ds => obtain ⟨xs, q1, q2, q3⟩ := t; rw [q1]; exact Nt.dK
 | dt ds => obtain ⟨xs, q1, q2, q3⟩ := t; rw [q1]; exact Nt.dT
 | ob c gs => obtain ⟨C, dx, xs, q1, q2, q3⟩ := t; rw [q1]; exact Nt.ins
 | _ => exact t.elim
theorem Aq {α : Type} {l : List α} {i j : Nat} {x z : α} (h : (l.set i x)[j]? = some z) : (j = i ∧ z = x ∧ i < l.length) ∨ (j ≠ i ∧ l[j]? = some z) := by
 by_cases hj : j = i
 ·subst hj
  by_cases hl : j < l.length
  ·rw [List.getElem?_set_self hl] at h
   exact .inl ⟨rfl, (Option.some.inj h).symm, hl⟩
  ·rw [List.getElem?_eq_none (by simpa using Nat.not_lt.mp hl)] at h
   cases h
 ·rw [List.getElem?_set_ne (Ne.symm hj)] at h
  exact .inr ⟨hj, h⟩
theorem OkW.setW {A0 : List Addr} {He : Hp} {A : List Addr} {σ : St} {H H' : Hp} {ρ : Rho} {p : Addr} {d : D} (w : OkW G A0 He A σ H ρ) (s : Same H H') (hp : H p = none) (t : Top G (p :: A) H' p d) (i : Nat) (hi0 : i ≠ 0) : OkW G A0 He (p :: A) (σ.set i (some (.ref p))) H' (ρ.set i (.ow d)) := by
 have hf := w.ok.fill (Hc := H') s hp t.live
 have hep : He p = none := w.same.free hp
 have npA : p ∉ A := fun z => (w.ok.live p z).ne hp
 refine ⟨w.same.trans s, fun a ha => List.mem_cons_of_mem _ (w.sub a ha), fun a ha => ?_, w.l0, ⟨by rw [List.length_set, List.length_set]; exact hf.len, hf.live, fun j e h => ?_, fun j e h => ?_, fun j k e f q h1 h2 h3 h4 => ?_⟩, fun j e q h1 h2 => ?_, fun x e hx h0 => by rw [List.getElem?_set_ne hi0] at h0 ⊢; exact w.lt x e hx h0⟩
 ·rcases List.mem_cons.mp ha with z | z
  ·rw [z]; exact .inr hep
  ·exact w.fr a z
 ·rcases Aq h with ⟨_, hz, _⟩ | ⟨hj, hz⟩
  ·cases hz
  ·obtain ⟨v, q1, q2⟩ := hf.fz j e hz
   exact ⟨v, by rw [List.getElem?_set_ne (Ne.symm hj)]; exact q1, q2⟩
 ·rcases Aq h with ⟨hj, hz, hl⟩ | ⟨hj, hz⟩
  ·cases hz
   subst hj
   exact ⟨p, by rw [List.getElem?_set_self (by rw [w.ok.len]; exact hl)], List.mem_cons_self, t⟩
  ·obtain ⟨v, q1, q2, q3⟩ := hf.ow j e hz
   exact ⟨v, by rw [List.getElem?_set_ne (Ne.symm hj)]; exact q1, q2, q3⟩
 ·have no : ∀ (m : Nat) (g : D), ρ[m]? = some (.ow g) → σ[m]? = some (some (.ref q)) → q ≠ p := fun m g a1 a2 z => by
   obtain ⟨v, b1, b2, _⟩ := w.ok.ow m g a1
   rw [a2] at b1
   cases b1
   exact npA (z ▸ b2)
  rcases Aq h1 with ⟨hj, _, hl⟩ | ⟨hj, hz⟩
  ·rcases Aq h2 with ⟨hk, _, _⟩ | ⟨hk, hz'⟩
   ·rw [hj, hk]
   ·exfalso
    subst hj
    rw [List.getElem?_set_self (by rw [w.ok.len]; exact hl)] at h3
    cases h3
    rw [List.getElem?_set_ne (Ne.symm hk)] at h4
    exact no k f hz' h4 rfl
  ·rcases Aq h2 with ⟨hk, _, hl⟩ | ⟨hk, hz'⟩
   ·exfalso
    subst hk
    rw [List.getElem?_set_self (by rw [w.ok.len]; exact hl)] at h4
    cases h4
    rw [List.getElem?_set_ne (Ne.symm hj)] at h3
    exact no j e hz h3 rfl
   ·rw [List.getElem?_set_ne (Ne.symm hj)] at h3
    rw [List.getElem?_set_ne (Ne.symm hk)] at h4
    exact w.ok.inj j k e f q hz hz' h3 h4
 ·rcases Aq h1 with ⟨hj, _, hl⟩ | ⟨hj, hz⟩
  ·subst hj
   rw [List.getElem?_set_self (by rw [w.ok.len]; exact hl)] at h2
   cases h2
   exact fun z => w.l0 p z hep
  ·rw [List.getElem?_set_ne (Ne.symm hj)] at h2
   exact w.ow0 j e q hz h2
theorem Rn {A0 : List Addr} {He : Hp} {A : List Addr} {σ : St} {H : Hp} {ρ : Rho} {o : Out} {D : Ends} {i : Nat} (hi0 : i ≠ 0) (w : OkW G A0 He A σ H ρ) (e : setW i fa ρ = some o) (k : Hb G A0 He D o) : tAsg (tN G A fa) (FW i) D σ H := by
 unfold setW at e
 cases e1 : fa ρ with
 | none => simp [e1] at e
 | some d =>
  simp only [e1, Option.map_some] at e
  cases e
  exact ⟨ρ, d, w.ok, e1, fun p H1 s1 hp t => k _ _ ⟨p :: A, w.setW s1 hp t i hi0⟩⟩
theorem P_ {i : Nat} {x : Str} {p : Pos} (h : ∀ te, PE X a te → PS X (.Assign [.Name x p] a pos) (tAsg te (FW i))) (ha : PN X G a fa) (hi0 : i ≠ 0 := by decide) : PSD X G (.Assign [.Name x p] a pos) (setW i fa) := fun A0 He pins s σ H D I ⟨ρ, o, ⟨A, w⟩, e, k⟩ =>
 h _ (@ha A) pins s σ H D I (Rn hi0 w e k)
theorem OkW.wr {A0 : List Addr} {He : Hp} {A : List Addr} {σ : St} {H : Hp} {ρ : Rho} {i : Nat} {d0 d : D} {p : Addr} {o : HO} (w : OkW G A0 He A σ H ρ) (hi : ρ[i]? = some (.ow d0)) (hs : σ[i]? = some (some (.ref p))) (t : Top G A (upd H p o) p d) : OkW G A0 He A σ (upd H p o) (ρ.set i (.ow d)) := by
 obtain ⟨q, h1, hA, _⟩ := w.ok.ow i d0 hi
 rw [hs] at h1
 cases h1
 have hep : He p = none := by
  rcases w.fr p hA with z | z
  ·exact absurd z (w.ow0 i d0 p hi hs)
  ·exact z
 have eh : hid A (upd H p o) = hid A H := Fw hA
 refine ⟨fun b u h => by rw [Ad (Af h hep)]; exact w.same b u h, w.sub, w.fr, w.l0, ⟨by rw [List.length_set]; exact w.ok.len, fun b hb => ?_, fun j e h => ?_, fun j e h => ?_, fun j k e f q g1 g2 g3 g4 => ?_⟩, fun j e q g1 g2 => ?_, fun x e hx h0 => ?_⟩
 ·by_cases z : b = p
  ·rw [z]; exact t.live
  ·rw [Ad z]; exact w.ok.live b hb
 ·rcases Aq h with ⟨_, hz, _⟩ | ⟨hj, hz⟩
  ·cases hz
  ·rw [eh]; exact w.ok.fz j e hz
 ·rcases Aq h with ⟨hj, hz, hl⟩ | ⟨hj, hz⟩
  ·cases hz
   subst hj
   exact ⟨p, hs, hA, t⟩
  ·obtain ⟨q, q1, q2, q3⟩ := w.ok.ow j e hz
   have nq : q ≠ p := fun z => hj (w.ok.inj j i e d0 p hz hi (z ▸ q1) hs)
   refine ⟨q, q1, q2, ?_⟩
   cases e with
   | lst ds => obtain ⟨xs, a1, a2⟩ := q3; exact ⟨xs, by rw [Ad nq]; exact a1, by rw [eh]; exact a2⟩
   | dk ds => obtain ⟨xs, a1, a2, a3⟩ := q3; exact ⟨xs, by rw [Ad nq]; exact a1, a2, by rw [eh]; exact a3⟩
   | dt ds => obtain ⟨xs, a1, a2, a3⟩ := q3; exact ⟨xs, by rw [Ad nq]; exact a1, a2, by rw [eh]; exact a3⟩
   | ob c gs => obtain ⟨C, dx, xs, a1, a2, a3⟩ := q3; exact ⟨C, dx, xs, by rw [Ad nq]; exact a1, a2, by rw [eh]; exact a3⟩
   | _ => exact q3.elim
 ·have up : ∀ (m : Nat) (g : D), (ρ.set i (.ow d))[m]? = some (.ow g) → ∃ g', ρ[m]? = some (.ow g') := fun m g z => by
   rcases Aq z with ⟨hm, _, _⟩ | ⟨_, hz⟩
   ·exact ⟨d0, by rw [hm]; exact hi⟩
   ·exact ⟨g, hz⟩
  obtain ⟨e', z1⟩ := up j e g1
  obtain ⟨f', z2⟩ := up k f g2
  exact w.ok.inj j k e' f' q z1 z2 g3 g4
 ·rcases Aq g1 with ⟨hj, _, _⟩ | ⟨hj, hz⟩
  ·subst hj
   exact w.ow0 j d0 q hi g2
  ·exact w.ow0 j e q hz g2
 ·rcases Aq h0 with ⟨hj, _, _⟩ | ⟨_, hz⟩
  ·exact w.lt x d0 hx (by rw [hj]; exact hi)
  ·exact w.lt x e hx hz
theorem Do {ρ : Rho} {i : Nat} {d : D} (h : ownO ρ i = some d) : ρ[i]? = some (.ow d) := by
 unfold ownO at h
 split at h
 ·rename_i e; cases h; exact e
 ·cases h
theorem Inv.frzK {pins : List (Addr × Obj)} {σ : St} {H : Hp} {s : Shared} {p : Addr} {kvs : List (Key × V)} (I : Inv X pins σ H s) (e : H p = some (.dK kvs)) : ∃ o, Inv X pins σ (upd H p (.frz o (.dK kvs))) s := by
 obtain ⟨z, hd, vs, rel, dd⟩ := V0 I.hok e
 obtain ⟨o, es, ep, ho, h2⟩ := id dd
 exact ⟨o, K8 (h' := s.heap) (t' := s.toks) I (by rw [e]; exact True.intro) ⟨rfl, fun _ _ => rfl⟩ ⟨o, ho⟩ ⟨ho, z, hd, vs, rel, dd⟩⟩
theorem Inv.frzT {pins : List (Addr × Obj)} {σ : St} {H : Hp} {s : Shared} {p : Addr} {kvs : List (List Key × V)} (I : Inv X pins σ H s) (e : H p = some (.dT kvs)) : ∃ o, Inv X pins σ (upd H p (.frz o (.dT kvs))) s := by
 obtain ⟨z, hd, vs, rel, o, es, ep, ho, h3, h4, h5, h6⟩ := I.hok p _ e
 refine ⟨o, K8 (h' := s.heap) (t' := s.toks) I (by rw [e]; exact True.intro) ⟨rfl, fun _ _ => rfl⟩ ⟨o, ho⟩ ⟨ho, z, hd, vs, KT.keeps rel fun c ys ec => ?_, o, es, ep, ho, h3, h4, h5, h6⟩⟩
 rw [Ad (Vl ec e (fun z => nomatch z))]
 exact ec
theorem OkW.frzC {A0 : List Addr} {He : Hp} {A : List Addr} {σ : St} {H H' : Hp} {ρ : Rho} {i : Nat} {d : D} {p : Addr} (w : OkW G A0 He A σ H ρ) (hi : ρ[i]? = some (.ow d)) (h1 : σ[i]? = some (some (.ref p))) (hA : p ∈ A) (hh : ∀ b, b ≠ p → H' b = H b)
  (rp : Same (hid A H) (hid (A.filter fun b => decide (b ≠ p)) H') → hid (A.filter fun b => decide (b ≠ p)) H' p = H' p → Rep G (hid (A.filter fun b => decide (b ≠ p)) H') (.ref p) d) : OkS G A0 He σ H' (ρ.set i (.fz d)) := by
 have hn := w.ow0 i d p hi h1
 have hmem : ∀ b, b ∈ A.filter (fun b => decide (b ≠ p)) ↔ b ∈ A ∧ b ≠ p := fun b => by simp [List.mem_filter]
 have sm : Same (hid A H) (hid (A.filter fun b => decide (b ≠ p)) H') := fun b o h => by
  unfold hid at h ⊢
  split at h
  ·cases h
  ·rename_i hb
   have hbp : b ≠ p := fun z => hb (z ▸ hA)
   rw [if_neg (fun z => hb ((hmem b).mp z).1), hh b hbp]
   exact h
 have rp := rp sm (BR fun z => ((hmem p).mp z).2 rfl)
 have hep : He p = none := (w.fr p hA).resolve_left hn
 refine ⟨A.filter fun b => decide (b ≠ p), fun b o h => ?_, fun b hb => (hmem b).mpr ⟨w.sub b hb, fun z => hn (z ▸ hb)⟩, fun b hb => w.fr b ((hmem b).mp hb).1, w.l0, ⟨by rw [List.length_set]; exact w.ok.len, fun b hb => ?_, fun j e h => ?_, fun j e h => ?_, fun j k e f q g1 g2 g3 g4 => ?_⟩, fun j e q g1 g2 => ?_, fun x e hx h0 => ?_⟩
 ·have hbp : b ≠ p := fun z => by rw [z, hep] at h; cases h
  rw [hh b hbp]
  exact w.same b o h
 ·obtain ⟨z1, z2⟩ := (hmem b).mp hb
  rw [hh b z2]
  exact w.ok.live b z1
 ·rcases Aq h with ⟨hj, hz, _⟩ | ⟨hj, hz⟩
  ·cases hz; subst hj; exact ⟨_, h1, rp⟩
  ·obtain ⟨v, q1, q2⟩ := w.ok.fz j e hz
   exact ⟨v, q1, q2.mono sm⟩
 ·rcases Aq h with ⟨_, hz, _⟩ | ⟨hj, hz⟩
  ·cases hz
  ·obtain ⟨q, q1, q2, q3⟩ := w.ok.ow j e hz
   have nq : q ≠ p := fun z => hj (w.ok.inj j i e d p hz hi (z ▸ q1) h1)
   refine ⟨q, q1, (hmem q).mpr ⟨q2, nq⟩, ?_⟩
   cases e with
   | lst ds => obtain ⟨xs, a1, a2⟩ := q3; exact ⟨xs, by rw [hh q nq]; exact a1, a2.mono sm⟩
   | dk ds => obtain ⟨xs, a1, a2, a3⟩ := q3; exact ⟨xs, by rw [hh q nq]; exact a1, a2, a3.mono sm⟩
   | dt ds => obtain ⟨xs, a1, a2, a3⟩ := q3; exact ⟨xs, by rw [hh q nq]; exact a1, a2, a3.mono sm⟩
   | ob c gs => obtain ⟨C, dx, xs, a1, a2, a3⟩ := q3; exact ⟨C, dx, xs, by rw [hh q nq]; exact a1, a2, a3.mono sm⟩
   | _ => exact q3.elim
 ·rcases Aq g1 with ⟨_, hz, _⟩ | ⟨_, z1⟩
  ·cases hz
  ·rcases Aq g2 with ⟨_, hz, _⟩ | ⟨_, z2⟩
   ·cases hz
   ·exact w.ok.inj j k e f q z1 z2 g3 g4
 ·rcases Aq g1 with ⟨_, hz, _⟩ | ⟨_, z1⟩
  ·cases hz
  ·exact w.ow0 j e q z1 g2
 ·rcases Aq h0 with ⟨_, hz, _⟩ | ⟨_, z1⟩
  ·cases hz
  ·exact w.lt x e hx z1
theorem OkS.frz {pins : List (Addr × Obj)} {s : Shared} {A0 : List Addr} {He : Hp} {σ : St} {H : Hp} {ρ : Rho} (I : Inv X pins σ H s) (w : OkS G A0 He σ H ρ) (i : Nat) : ∃ H', Inv X pins σ H' s ∧ OkS G A0 He σ H' (frz1 ρ i) := by
 unfold frz1
 split
 ·rename_i d hi
  obtain ⟨A, w⟩ := w
  obtain ⟨p, h1, hA, t⟩ := w.ok.ow i d hi
  cases d with
  | lst ds =>
   obtain ⟨xs, a1, a2⟩ := t
   exact ⟨H, I, w.frzC hi h1 hA (fun _ _ => rfl) fun sm hp => .lst (.of (by rw [hp]; exact a1)) (a2.mono sm).1 (a2.mono sm).2⟩
  | dk ds =>
   obtain ⟨xs, a1, a2, a3⟩ := t
   obtain ⟨o, I'⟩ := Inv.frzK I a1
   exact ⟨_, I', w.frzC hi h1 hA (fun b hb => Ad hb) fun sm hp => .dk (by rw [hp]; exact Ag) a2 (a3.mono sm).2⟩
  | dt ds =>
   obtain ⟨xs, a1, a2, a3⟩ := t
   obtain ⟨o, I'⟩ := Inv.frzT I a1
   exact ⟨_, I', w.frzC hi h1 hA (fun b hb => Ad hb) fun sm hp => .dt (by rw [hp]; exact Ag) a2 (a3.mono sm).2⟩
  | ob c gs =>
   obtain ⟨C, dx, xs, a1, a2, a3⟩ := t
   exact ⟨H, I, w.frzC hi h1 hA (fun _ _ => rfl) fun sm hp => .ob a2.1 (by rw [hp]; exact a1) a2.2 (a3.mono sm).2⟩
  | _ => exact t.elim
 ·exact ⟨H, I, w⟩
end
section
variable {X : Cx} {G : Gx} {a b c : Expr} {fa fb fc : FE} {pos p2 px : Pos} {scope : Scope} {t : Str} {elt iter : Expr} {ifs : List Expr} {ga : FT} {fe : FE} {src : FI}
end
end PV
namespace PV
open PySem PySem.Spec
section
variable {prog : Program} {w : World} {A : Around} {E : Value → Shared → Prop} {s : Shared}
def btx (w : World) : Bool := w.params.followText "set-order"
def keyOf (e : Int × Value) : Str := match e.2 with | .str k _ => k | _ => Str.empty
def EntS (w : World) (e : Int × Value) (k : Str) : Prop := e.1 = hashStr w k ∧ ∃ t, e.2 = .str k t
structure FX (w : World) (es : Array (Int × Value)) (t : SetTable) (ks : List Str) : Prop where
 ent : ∀ e ∈ es.toList, EntS w e (keyOf e)
 perm : (es.toList.map keyOf).Perm ks
 nd : ks.Nodup
 sz : es.size < scanBound
 fits : t.fits es.size = true
 led : btx w = false → t.led = true
 plain : es.size ≠ 0 → t.plain = false
def ObX (h : Heap) (a : Addr) (es : Array (Int × Value)) (t : SetTable) : Prop := ∃ o ep, h.get? a = some o ∧ o.ExactSet ∧ o.data = .set es ep t
def SetX (w : World) (h : Heap) (a : Addr) (ks : List Str) : Prop := ∃ es t, ObX h a es t ∧ FX w es t ks
theorem SetX.keep {h h' : Heap} {a : Addr} {ks : List Str} (x : SetX w h a ks) (e : ∀ o, h.get? a = some o → h'.get? a = some o) : SetX w h' a ks := by
 obtain ⟨es, t, ⟨o, ep, g, q⟩, f⟩ := x
 exact ⟨es, t, ⟨o, ep, e o g, q⟩, f⟩
theorem SetX.typeIs {a : Addr} {ks : List Str} (x : SetX w s.heap a ks) : s.TypeIs (.ref a) "set" :=
 let ⟨_, _, ⟨o, _, g, q, _⟩, _⟩ := x; ⟨o, g, q.1⟩
theorem FX.len {es : Array (Int × Value)} {t : SetTable} {ks : List Str} (f : FX w es t ks) : es.size = ks.length := by simpa using f.perm.length_eq
def addK (ks : List Str) (k : Str) : List Str := if k ∈ ks then ks else ks ++ [k]
theorem FX.more {es es1 : Array (Int × Value)} {t t1 : SetTable} {ks : List Str} {k : Str} {u : Tok} (f : FX w es t ks) (nk : k ∉ ks) (p : es1.toList.Perm (es.toList ++ [(hashStr w k, .str k u)])) (r : ks.length + 1 < scanBound) (q1 : t1.fits es1.size = true) (q2 : t1.led = t.led) (q3 : t1.plain = false) : FX w es1 t1 (addK ks k) := by
 have l : es1.size = es.size + 1 := by simpa using p.length_eq
 unfold addK
 rw [if_neg nk]
 refine ⟨fun e m => (List.mem_append.mp (p.mem_iff.mp m)).elim (f.ent e) fun m => ?_, ?_, List.nodup_append.mpr ⟨f.nd, by simp, fun x hx y hy e => nk ?_⟩, by rw [l, f.len]; exact r, q1, fun b => q2.trans (f.led b), fun _ => q3⟩
 ·cases List.mem_singleton.mp m; exact ⟨rfl, u, rfl⟩
 ·have := p.map keyOf; rw [List.map_append] at this; exact this.trans (f.perm.append_right _)
 ·cases List.mem_singleton.mp hy; rw [← e]; exact hx
end
end PV
namespace PV
open PySem PySem.Spec
section
variable {prog : Program} {w : World} {A : Around} {R : Result → Shared → Prop} {I : Addr} {fp wr : List Addr} {n : Nat} {P : Nat → Value → Prop} {Sx : Nat → Heap → Prop}
end
end PV
namespace PV
open PySem PySem.Spec
section
variable {prog : Program} {w : World} {A : Around} {E : Value → Shared → Prop} {s : Shared}
end
end PV
namespace PV
open PySem PySem.Spec
section
variable {prog : Program} {w : World} {A : Around} {E : Value → Shared → Prop} {s : Shared} {I q T : Addr} {first : Value} {j n ep : Nat} {es : Array (Int × Value)} {t : SetTable}
def ItX (h : Heap) (I q : Addr) (first : Value) (j n ep : Nat) : Prop := ∃ o, h.get? I = some o ∧ o.cls = .type "set_iterator" ∧ o.data = .fields #[first, .int j 0, .ref q, .int n 0, .int ep 0]
def QB (h : Heap) (q : Addr) (es : Array (Int × Value)) (ep : Nat) (t : SetTable) : Prop := ∃ o, h.get? q = some o ∧ o.ExactSet ∧ o.data = .set es ep t
theorem ItX.ty (x : ItX s.heap I q first j n ep) : s.TypeIs (.ref I) "set_iterator" := let ⟨o, g, c, _⟩ := x; ⟨o, g, c⟩
end
end PV
namespace PV
open PySem PySem.Spec
section
variable {prog : Program} {w : World} {A : Around} {E : Value → Shared → Prop} {s : Shared} {I q T : Addr} {first : Value} {j n ep : Nat} {es : Array (Int × Value)} {t : SetTable}
theorem QB.keep {h h' : Heap} (y : QB h q es ep t) (e : ∀ o, h.get? q = some o → h'.get? q = some o) : QB h' q es ep t := let ⟨o, g, r⟩ := y; ⟨o, e o g, r⟩
theorem ItX.keep {h h' : Heap} (x : ItX h I q first j n ep) (e : ∀ o, h.get? I = some o → h'.get? I = some o) : ItX h' I q first j n ep := let ⟨o, g, r⟩ := x; ⟨o, e o g, r⟩
end
end PV
namespace PV
open PySem PySem.Spec
section
variable {prog : Program} {w : World} {A : Around} {E : Value → Shared → Prop} {s : Shared} {I q T : Addr} {first : Value} {j n ep : Nat} {es : Array (Int × Value)} {t : SetTable}
end
end PV
namespace PV
open PySem PySem.Spec
section
variable {prog : Program} {w : World} {A : Around} {E : Value → Shared → Prop} {s : Shared} {I q T : Addr}
end
end PV
namespace PV
open PySem PySem.Spec
section
variable {prog : Program} {w : World} {A : Around} {E : Value → Shared → Prop} {s : Shared} {q : Addr}
end
open L2
section
variable {X : Cx} {G : Gx} {a : Expr} {fa : FE} {pos : Pos}
end
end PV
namespace PV
open PySem PySem.Spec L2
open PyProof.Rows hiding St
def getK {κ : Type} [DecidableEq κ] (k : κ) : List (κ × D) → Option D
 | [] => none
 | p :: r => if p.1 = k then some p.2 else getK k r
def repK {κ : Type} [DecidableEq κ] (k : κ) (v : D) : List (κ × D) → List (κ × D)
 | [] => []
 | p :: r => (p.1, if p.1 = k then v else p.2) :: repK k v r
def putL {κ : Type} [DecidableEq κ] (k : κ) (v : D) (kds : List (κ × D)) : List (κ × D) := if (getK k kds).isSome then repK k v kds else kds ++ [(k, v)]
def keyD : D → Option Key
 | .int i => some (.inl i)
 | .str x => some (.inr x)
 | _ => none
section
variable {κ : Type} [DecidableEq κ] {G : Gx} {H : Hp}
theorem L_ {k : κ} : ∀ {kds : List (κ × D)} {kvs : List (κ × V)}, kvs.map (·.1) = kds.map (·.1) → RepL G H (kvs.map (·.2)) (kds.map (·.2)) → (∀ d, getK k kds = some d → ∃ v, valV kvs k = some v ∧ Rep G H v d) ∧ (valV kvs k).isSome = (getK k kds).isSome
 | [], kvs, e, r => by
  cases kvs with
  | nil => exact ⟨fun d h => by simp [getK] at h, rfl⟩
  | cons p q => simp at e
 | p :: kds, kvs, e, r => by
  cases kvs with
  | nil => simp at e
  | cons q kvs =>
   rw [List.map_cons, List.map_cons] at e
   injection e with e1 e2
   rw [List.map_cons, List.map_cons] at r
   obtain ⟨x, ys, e3, r1, r2⟩ := r.uncons
   injection e3 with e4 e5
   subst e4 e5
   have ih := L_ (k := k) e2 r2
   by_cases h : p.1 = k
   ·have h' : q.1 = k := e1.trans h
    rw [HJ h']
    refine ⟨fun d hd => ?_, ?_⟩
    ·simp only [getK, if_pos h] at hd
     cases hd
     exact ⟨_, rfl, r1⟩
    ·simp [getK, if_pos h]
   ·have h' : ¬ q.1 = k := fun z => h (e1.symm.trans z)
    rw [HN h']
    simp only [getK, if_neg h]
    exact ih
end
theorem QC {G : Gx} {A : List Addr} {H : Hp} {v : V} {d : D} {k : Key} (r : RepT G A H v d) (h : keyD d = some k) : v = kV k := by
 cases d with
 | int i => cases h; exact r.int
 | str x => cases h; exact r.str
 | _ => cases h
end PV
namespace PV
open PySem PySem.Spec L2
open PyProof.Rows hiding St
section
variable {X : Cx} {G : Gx} {a b c : Expr} {fa fb fc : FE} {pos p2 px : Pos} {es : List Expr} {fs : FA}
def rDIn (neg : Bool) : R2 := fun x y H Q => ∃ a kvs k, y = .ref a ∧ Rd H a (.dK kvs) ∧ x = kV k ∧ Q (.bl (if neg then !(valV kvs k).isSome else (valV kvs k).isSome)) H
theorem QD (hu : X.A.units + 1 < cLine) : OpR X (compareOp .In) (rDIn false) := by
 intro pins s σ H x y v u Q I rx ry h
 obtain ⟨a, kvs, k, rfl, e, rfl, q⟩ := h
 cases ry
 exact d_in hu I (.inl ⟨kvs, k, e, rfl, rfl⟩) rx fun s' I' => ⟨.bl _, H, I', rfl, q⟩
def inE (neg : Bool) (x y : D) : Option D := match y with
 | .dk kds => (keyD x).map fun k => .bl (if neg then !(getK k kds).isSome else (getK k kds).isSome)
 | _ => inD neg x y
theorem Ro (neg : Bool) : Cm G (fun x y H Q => rInA G.K neg x y H Q ∨ rDIn neg x y H Q) (inE neg) := by
 intro A H x y dx dy d Q lv rx ry h k
 unfold inE at h
 split at h
 ·rename_i kds
  cases e : keyD dx with
  | none => simp [e] at h
  | some q =>
   obtain ⟨p, kvs, rfl, h1, h2, r⟩ := ry.dk
   have h3 := (L_ (k := q) h2 r).2
   rw [e] at h
   cases h
   refine .inr ⟨p, kvs, q, rfl, h1, QC rx e, ?_⟩
   rw [h3]
   exact k _ H (Same.refl H) (.bl _)
 ·exact .inl (Ko neg A H x y dx dy d Q lv rx ry h k)
def V7 (x y v : D) : Option D := match x with
 | .dk kds => (keyD y).bind fun k => if kds.length < sizeLine then some (.dk (putL k v kds)) else none
 | _ => none
def putF (i : Nat) (fk fv : FE) : FS := fun ρ => (fv ρ).bind fun v => (fk ρ).bind fun y => (ownO ρ i).bind fun x => (V7 x y v).map fun z => .nx (ρ.set i (.ow z))
end
end PV
namespace PV
open PySem PySem.Spec L2
open PyProof.Rows hiding St
theorem MF {α β : Type} {R : α → β → Prop} : ∀ {xs : List α} {ys : List β} {i : Nat} {x : α} {y : β}, Paired R xs ys → xs[i]? = some x → ys[i]? = some y → R x y
 | _, _, i, x, y, .nil, h, _ => by simp at h
 | _, _, 0, x, y, .cons r _, h1, h2 => by
  simp at h1 h2
  rw [← h1, ← h2]
  exact r
 | _, _, i + 1, x, y, .cons _ t, h1, h2 => MF t (by simpa using h1) (by simpa using h2)
def Itd (a : Addr) (o : Obj) (kvs : List (Key × V)) : It :=
 ⟨fun i H => H a = some (.frz o (.dK kvs)) ∧ i < kvs.length, fun i H x H' => H' = H ∧ ∃ p, kvs[i]? = some p ∧ x = kV p.1, fun i H => H a = some (.frz o (.dK kvs)) ∧ kvs.length ≤ i⟩
theorem relK {P : Program} {w : World} {k : Key} {u : Value} (h : (Bd P w).is k u = true) : RelV (kV k) u := by
 rcases BJ h with ⟨i, t, rfl, rfl⟩ | ⟨x, t, rfl, rfl⟩
 ·exact ⟨t, rfl⟩
 ·exact ⟨t, rfl⟩
theorem Kq {X : Cx} {pins : List (Addr × Obj)} {σ : St} {H : Hp} {s : Shared} {a : Addr} {o : Obj} {kvs : List (Key × V)} {es : Array DictEntry} {ep : Nat} (I : Inv X pins σ H s) (e : H a = some (.frz o (.dK kvs))) (hd : o.data = .dict es ep) :
  (a == sysModules) = false ∧ ∃ vs, KV kvs vs ∧ s.heap.DictAt (Bd X.prog X.w) a vs ep := by
 obtain ⟨ho, z, hm, vs, rel, o', es', ep', ho', h1, h2, h3⟩ := (show Be X.prog X.w H s.heap a (.frz o (.dK kvs)) from I.hok a _ e)
 rw [ho] at ho'
 cases ho'
 rw [hd] at h2
 cases h2
 exact ⟨hm, vs, rel, o, es, ho, h1, hd, h3⟩
theorem M7 {P : Program} {w : World} {K : PySem.W.Frag} {tg : Expr} (a it : Addr) {o : Obj} {es : Array DictEntry} {ep : Nat} (hd : o.data = .dict es ep) (kvs : List (Key × V)) : Turn P w K tg (Itd a o kvs) [it] it (fun i h => h.IsKeyIter it a i kvs.length ep) where
 mem := by simp
 obj := fun i h st b hb => by
  have e : b = it := by simpa using hb
  subst e
  obtain ⟨o, e, c, d⟩ := st
  exact ⟨o, e, fun v z => by rw [d] at z; cases z⟩
 keep := fun i h h' st k => let ⟨o, e, c, d⟩ := st; ⟨o, k it (by simp) o e, c, d⟩
 item := by
  intro X hP hw hK hc i pins s σ H E I hf st hg
  subst hP hw hK
  obtain ⟨he, hi⟩ := hg
  obtain ⟨hm, vs, rel, dd⟩ := Kq I he hd
  have hl : kvs.length = vs.length := rel.length
  obtain ⟨f0, f1, f2, f3, f4, f5⟩ := hf it (by simp)
  have hv : vs[i]? = some (vs[i]'(by omega)) := by simp [show i < vs.length by omega]
  have hk : kvs[i]? = some (kvs[i]'hi) := by simp [hi]
  have hkk : (kvs[i]'hi).1 = (vs[i]'(by omega)).1 := (MF rel hk hv).1
  refine wpAny_pyNext_dict_item (knd := Bd X.prog X.w) (kvs := vs) (k := (vs[i]'(by omega)).1) (v := (vs[i]'(by omega)).2) (by rw [← hl]; exact st) dd hv fun key h' hkey st' sb => ?_
  rw [← hl] at st'
  have I1 : Inv X pins σ H { s with heap := h' } := I.turned (t' := s.toks) (fun b o hb e => (sb.2 b hb).trans e) f0 f1 f3 f4 f5
  obtain ⟨o1, e1, c1, d1⟩ := id st'
  exact ⟨key, rfl, Ky (s := { s with heap := h' }) e1 c1 d1 (by decide) ⟨kV (kvs[i]'hi).1, H, I1, by rw [hkk]; exact relK hkey, ⟨rfl, _, hk, rfl⟩, st', fun b hb => (hf b hb).1⟩⟩
 done := by
  intro X hP hw hK hc i pins s σ H E I hf st hg
  subst hP hw hK
  obtain ⟨he, hi⟩ := hg
  obtain ⟨hm, vs, rel, dd⟩ := Kq I he hd
  have hl : kvs.length = vs.length := rel.length
  obtain ⟨f0, f1, f2, f3, f4, f5⟩ := hf it (by simp)
  exact wpAny_pyNext_dict_end (I.ok.hd hc) (by rw [← hl]; exact st) dd (by rw [List.getElem?_eq_none]; omega) fun h' eb => ⟨rfl, I.turned (t' := s.toks) (fun b o hb e => eb b o hb e) f0 f1 f3 f4 f5⟩
 self := fun _ _ _ _ _ st h => wpAny_pyIter_keyiter st h
section
variable {X : Cx} {G : Gx} {a b c tg : Expr} {fa fb fc : FE} {pos p2 : Pos} {tl : TE}
def V8 (tl : TE) : TI := fun σ H R => tl σ H fun x H1 => ∃ a o kvs, x = .ref a ∧ H1 a = some (.frz o (.dK kvs)) ∧ R (Itd a o kvs) H1
theorem Rp {l : Expr} (hl : PE X l tl) : PI X tg l (V8 tl) := by
 intro pins s σ H R I h
 refine thn (hl pins s σ H _ I h) fun v s1 ⟨x, H1, I1, r1, q1⟩ => ?_
 obtain ⟨a, o, kvs, e, hq, q⟩ := q1
 subst e
 cases r1
 obtain ⟨_, _, _, _, _, o', es, ep, ho', h1, h2, _⟩ := (show Be X.prog X.w H1 s1.heap a (.frz o (.dK kvs)) from I1.hok a _ hq)
 obtain ⟨ho, _⟩ := (show Be X.prog X.w H1 s1.heap a (.frz o (.dK kvs)) from I1.hok a _ hq)
 rw [ho] at ho'
 cases ho'
 obtain ⟨hm, vs, rel, dd⟩ := Kq I1 hq h2
 have hl' : kvs.length = vs.length := rel.length
 refine wpAny_pyIter_dict hm dd ?_
 refine ⟨s1.heap.objs.size, [s1.heap.objs.size], _, _, H1, rfl, I1.kept (t' := s1.toks) fun b o e => Heap.get?_push_of_some _ e, M7 a _ h2 kvs, ⟨_, Heap.get?_push_size _ rfl, rfl, by rw [hl']; rfl⟩, fun b hb => ?_, q⟩
 have e : b = s1.heap.objs.size := by simpa using hb
 subst e
 exact I1.fpOk (Nat.le_refl _) (I1.hok.fresh (Nat.le_refl _))
def kDt : Key → D
 | .inl i => .int i
 | .inr x => .str x
theorem Rq {H : Hp} (k : Key) : Rep G H (kV k) (kDt k) := by
 cases k with
 | inl i => exact .int i
 | inr x => exact .str x
def seqE (f : FE) : FI := fun ρ => match f ρ with | some (.lst ds) => some ds | some (.tup ds) => some ds | some (.dk kds) => some (kds.map fun p => kDt p.1) | _ => none
theorem QF {F1 F2 : Hp} {p : Addr} {o : Obj} {kvs : List (Key × V)} {kds : List (Key × D)} (h : F1 p = some (.frz o (.dK kvs))) (e : kvs.map (·.1) = kds.map (·.1)) : Src G (Itd p o kvs) (kds.map fun p => kDt p.1) F1 F2 := by
 have hl : kvs.length = kds.length := by have := congrArg List.length e; rwa [List.length_map, List.length_map] at this
 refine ⟨fun i H s hi => ⟨s _ _ h, by rw [hl]; rwa [List.length_map] at hi⟩, fun i H x H' d s hd y => ?_, fun i H s hi => ⟨s _ _ h, by rw [hl]; rwa [List.length_map] at hi⟩⟩
 obtain ⟨y1, q, y2, y3⟩ := y
 refine JS ⟨y1, ?_⟩
 have e1 : (kvs.map (·.1))[i]? = some q.1 := by rw [List.getElem?_map, y2]; rfl
 rw [e, List.getElem?_map] at e1
 rw [List.getElem?_map] at hd
 cases e2 : kds[i]? with
 | none => rw [e2] at hd; cases hd
 | some z =>
  rw [e2] at e1 hd
  cases hd
  injection e1 with e1
  rw [y3, ← e1]
  exact Rq _
theorem QG (hG : G.K = X.K) (h : PF X G a fa) : PFI X G false tg a (seqE fa) := fun A => Ly (piOr (Lz hG h (A := A)) (Rp (@h A))) fun σ H R ⟨ρ, ds, o, e, k⟩ => by
 unfold seqE at e
 split at e
 ·rename_i ds' e1
  cases e
  exact .inl ⟨ρ, _, o, by unfold seqI; rw [e1], k⟩
 ·rename_i ds' e1
  cases e
  exact .inl ⟨ρ, _, o, by unfold seqI; rw [e1], k⟩
 ·rename_i kds e1
  cases e
  refine .inr ⟨ρ, _, o, e1, fun v H1 s1 r1 => ?_⟩
  cases r1 with
  | dk h l r => exact ⟨_, _, _, rfl, Am _ _ h, k _ H1 s1 (QF h l)⟩
 ·cases e
end
end PV
namespace PV
open PySem PySem.Spec L2
open PyProof.Rows hiding St
section
variable {prog : Program} {w : World} {A : Around} {E : Value → Shared → Prop}
end
end PV
namespace PV
open PySem PySem.Spec L2
open PyProof.Rows hiding St
section
variable {X : Cx} {G : Gx} {a b c tg : Expr} {fa fb fc : FE} {pos p2 : Pos} {es : List Expr}
theorem PG.or {t t' : TG} (h : PG X tg t) (h' : PG X tg t') : PG X tg (fun v σ H Q => t v σ H Q ∨ t' v σ H Q) := fun pins s σ H v u Q I r q => by
 rcases q with q | q
 ·exact h pins s σ H v u Q I r q
 ·exact h' pins s σ H v u Q I r q
theorem Hg : Ej X (.builtin "len") (fun xs H Q => ∃ a kvs, xs = [V.ref a] ∧ Rd H a (.dK kvs) ∧ Q (.int kvs.length) H) := by
 intro pins s σ H xs us Q I rs h
 obtain ⟨a, kvs, rfl, e, q⟩ := h
 obtain ⟨u, rfl, ru⟩ := rs.one
 cases ru
 exact V2 I e fun t s' I' => ⟨.int kvs.length, H, I', ⟨t, rfl⟩, q⟩
def lenE : D → Option D
 | .dk kds => some (.int kds.length)
 | d => lenD d
theorem Jz : SndC G (fun xs H Q => (∃ x n, xs = [x] ∧ LenV G.K x H n ∧ Q (.int n) H) ∨ ∃ a kvs, xs = [V.ref a] ∧ Rd H a (.dK kvs) ∧ Q (.int kvs.length) H) lenE := by
 intro A H x dx d Q lv rx h k
 unfold lenE at h
 split at h
 ·cases h
  obtain ⟨p, kvs, rfl, h1, h2, r⟩ := rx.dk
  have hl := congrArg List.length h2
  rw [List.length_map, List.length_map] at hl
  refine .inr ⟨p, kvs, rfl, h1, ?_⟩
  rw [hl]
  exact k _ H (Same.refl H) (.int _)
 ·exact .inl (Ez A H x dx d Q lv rx h k)
end
end PV
namespace PV
open PySem PySem.Spec L2
open PyProof.Rows hiding St
section
variable {X : Cx} {G : Gx} {a b c tg : Expr} {fa fb fc : FE} {pos p2 : Pos} {tl : TE}
theorem VL {α β : Type} {f : α → β} {l : List α} {i : Nat} {y : β} (h : (l.map f)[i]? = some y) : ∃ x, l[i]? = some x ∧ f x = y := by
 rw [List.getElem?_map] at h
 exact Option.map_eq_some_iff.mp h
end
end PV
namespace PV
open PySem PySem.Spec L2
open PyProof.Rows hiding St
section
variable {X : Cx} {G : Gx} {a b c tg : Expr} {fa fb fc : FE} {pos p2 : Pos} {es : List Expr} {fs : FA}
end
end PV
namespace PV
open PySem PySem.Spec L2
open PyProof.Rows hiding St
section
variable {X : Cx} {G : Gx} {a b c tg : Expr} {fa fb fc : FE} {pos p2 : Pos} {es : List Expr} {fs : FA} {src : FI}
theorem PFI.top (h : PFI X G false tg a src) : PFI X G true tg a src := fun A => Ly (@h A) fun σ H R ⟨ρ, ds, o, e, k⟩ =>
 ⟨ρ, ds, o, e, fun J H1 s1 sr => k J H1 s1 ⟨fun i H s hi => sr.go i H (Am.trans s) hi, fun i H x H' d s hd y => sr.yld i H x H' d (Am.trans s) hd y, fun i H s hi => sr.stop i H (Am.trans s) hi⟩⟩
theorem RepT.ob {A : List Addr} {H : Hp} {v : V} {c : Str} {gs : List (Str × D)} (r : RepT G A H v (.ob c gs)) : ∃ a C dx fs, v = .ref a ∧ G.cl c = some C ∧ H a = some (.ins C dx fs) ∧ fs.map (·.1) = gs.map (·.1) ∧ RepL G (hid A H) (fs.map (·.2)) (gs.map (·.2)) := by
 rcases r with r | ⟨a, e, C, dx, fs, h, k, r⟩
 ·cases r with
  | ob hc h l r =>
   have hl := congrArg List.length l
   rw [List.length_map, List.length_map] at hl
   exact ⟨_, _, _, _, rfl, hc, Am _ _ h, l, by rw [List.length_map, List.length_map]; exact hl, r⟩
 ·exact ⟨a, C, dx, fs, e, k.1, h, k.2, r⟩
def fldD (f : Str) : D → Option D
 | .ob _ gs => gs.lookup f
 | _ => none
theorem Il {H : Hp} {f : Str} {d : D} : ∀ {gs : List (Str × D)} {fs : List (Str × V)}, fs.map (·.1) = gs.map (·.1) → RepL G H (fs.map (·.2)) (gs.map (·.2)) → gs.lookup f = some d → ∃ v, fs.lookup f = some v ∧ Rep G H v d
 | [], fs, e, r, h => by simp at h
 | p :: gs, [], e, r, h => by simp at e
 | p :: gs, q :: fs, e, r, h => by
  rw [List.map_cons, List.map_cons] at e r
  injection e with e1 e2
  obtain ⟨x, ys, e3, r1, r2⟩ := r.uncons
  injection e3 with e4 e5
  subst e4 e5
  obtain ⟨p1, p2⟩ := p
  obtain ⟨q1, q2⟩ := q
  simp only at e1 r1
  subst e1
  by_cases hf : f = q1
  ·subst hf
   simp only [List.lookup_cons, beq_self_eq_true, Option.some.injEq] at h ⊢
   subst h
   exact ⟨q2, rfl, r1⟩
  ·have hb : (f == q1) = false := beq_eq_false_iff_ne.mpr hf
   simp only [List.lookup_cons, hb] at h ⊢
   exact Il e2 r2 h
theorem BX {f : Str} (hcl : ∀ c C, G.cl c = some C → Cls X.K C ∧ BW X.K C f) (he : PU X G a fa) (hb : attributeBase a f X.env (eval a X.env) = eval a X.env := by rfl) : PF X G (.Attribute a f pos) (uF (fldD f) fa) :=
 fun A => Bh (Ur (@he A) hb) fun σ H Q ⟨ρ, d, o, e, k⟩ => by
  obtain ⟨x0, e1, e2⟩ := Lx e
  unfold fldD at e2
  split at e2
  ·rename_i cn gs
   refine ⟨ρ, _, o, e1, fun v H1 s1 r1 => ?_⟩
   obtain ⟨p, C, dx, fs, rfl, hc, h, l, r⟩ := r1.ob
   obtain ⟨v, h1, h2⟩ := Il (f := f) (d := d) l r e2
   exact ⟨_, _, _, _, v, rfl, h, (hcl _ _ hc).1, (hcl _ _ hc).2, h1, k v H1 s1 h2⟩
  ·cases e2
end
end PV
namespace PV
open PySem PySem.Spec L2
open PyProof.Rows hiding St
def Its (x : Str) : It := ⟨fun i _ => i < x.cps.size, fun i H y H' => H' = H ∧ ∃ c, x.cps[i]? = some c ∧ y = .str ⟨#[c]⟩, fun i _ => x.cps.size ≤ i⟩
theorem J0 {P : Program} {w : World} {K : PySem.W.Frag} {tg : Expr} (it : Addr) (x : Str) (t : Tok) (ty : String) (W : ∀ A : Around, A.handled = none → Walks P w A it [it] [it] x.cps.size (SignAt x) (fun i h => h.IsStrIter it ty x t i))
  (hn : ["enumerate", "zip", "dict_itemiterator", "dict_reverseitemiterator", "odict_iterator", "itertools.zip_longest", "itertools.pairwise"].contains ty = false)
  (fin : ∀ (A : Around), A.handled = none → ∀ (i : Nat) (s : Shared) (Q : Option Value → Shared → Prop) (E : Value → Shared → Prop), s.heap.IsStrIter it ty x t i → x.cps[i]? = none → (∀ h', Heap.ExtBut it s.heap h' → Q none { s with heap := h' }) → wpAny (model P w) A (pyNext (.ref it)) Q E s)
  (self : ∀ (A : Around) (i : Nat) (s : Shared) (Q : Value → Shared → Prop) (E : Value → Shared → Prop), s.heap.IsStrIter it ty x t i → Q (.ref it) s → wpAny (model P w) A (pyIter (.ref it)) Q E s) :
  Turn P w K tg (Its x) [it] it (fun i h => h.IsStrIter it ty x t i) where
 mem := by simp
 obj := fun i h st b hb => by
  have e : b = it := by simpa using hb
  subst e
  obtain ⟨o, e, c, d⟩ := st
  exact ⟨o, e, fun v z => by rw [d] at z; cases z⟩
 keep := fun i h h' st k => let ⟨o, e, c, d⟩ := st; ⟨o, k it (by simp) o e, c, d⟩
 item := by
  intro X hP hw hK hc i pins s σ H E I hf st hg
  subst hP hw hK
  obtain ⟨f0, f1, f2, f3, f4, f5⟩ := hf it (by simp)
  refine (W X.A (I.ok.hd hc)).item i s _ _ hg st fun v h' tk hv st' kk => ?_
  obtain ⟨c, u, e1, rfl⟩ := hv
  have I1 : Inv X pins σ H { s with heap := h', toks := tk } := I.turned (fun b o hb e => kk b o (by simpa using hb) e) f0 f1 f3 f4 f5
  obtain ⟨o1, e2, c1, d1⟩ := id st'
  exact ⟨_, rfl, Ky (s := { s with heap := h', toks := tk }) e2 c1 d1 hn ⟨.str ⟨#[c]⟩, H, I1, ⟨u, rfl⟩, ⟨rfl, c, e1, rfl⟩, st', fun b hb => (hf b hb).1⟩⟩
 done := by
  intro X hP hw hK hc i pins s σ H E I hf st hg
  subst hP hw hK
  obtain ⟨f0, f1, f2, f3, f4, f5⟩ := hf it (by simp)
  exact fin X.A (I.ok.hd hc) i s _ _ st (by rw [Array.getElem?_eq_none_iff]; exact hg) fun h' eb => ⟨rfl, I.turned (t' := s.toks) (fun b o hb e => eb b o hb e) f0 f1 f3 f4 f5⟩
 self := fun A i s Q E st h => self A i s Q E st h
section
variable {X : Cx} {G : Gx} {a b c tg : Expr} {fa fb fc : FE} {pos p2 : Pos} {tl : TE}
def iStr (tl : TE) : TI := fun σ H R => tl σ H fun x H1 => ∃ y, x = .str y ∧ R (Its y) H1
theorem VM {l : Expr} (hl : PE X l tl) : PI X tg l (iStr tl) := by
 intro pins s σ H R I h
 refine thn (hl pins s σ H _ I h) fun v s1 ⟨x, H1, I1, r1, q1⟩ => ?_
 obtain ⟨y, e, q⟩ := q1
 subst e
 obtain ⟨t, e⟩ := (show ∃ t, v = Value.str y t from r1)
 subst e
 have fp : ∀ b ∈ [s1.heap.objs.size], FpOk X pins H1 b := fun b hb => by
  have e : b = s1.heap.objs.size := by simpa using hb
  subst e
  exact I1.fpOk (Nat.le_refl _) (I1.hok.fresh (Nat.le_refl _))
 cases ha : y.cps.all (· < 128)
 ·exact wpAny_pyIter_wide ha ⟨s1.heap.objs.size, [s1.heap.objs.size], _, _, H1, rfl, I1.kept (t' := s1.toks) fun b o e => Heap.get?_push_of_some _ e,
   J0 _ y t "str_iterator" (fun A hA => Walks.strWide hA _ y t) (by decide) (fun _ hh _ _ _ _ st hx k => wpAny_pyNext_wide_end hh st hx k) (fun _ _ _ _ _ st h => wpAny_pyIter_striter_wide st h), ⟨_, Heap.get?_push_size _ rfl, rfl, rfl⟩, fp, q⟩
 ·exact wpAny_pyIter_ascii ha ⟨s1.heap.objs.size, [s1.heap.objs.size], _, _, H1, rfl, I1.kept (t' := s1.toks) fun b o e => Heap.get?_push_of_some _ e,
   J0 _ y t "str_ascii_iterator" (fun A hA => Walks.strAscii hA _ y t) (by decide) (fun _ hh _ _ _ _ st hx k => wpAny_pyNext_ascii_end hh st hx k) (fun _ _ _ _ _ st h => wpAny_pyIter_striter_ascii st h), ⟨_, Heap.get?_push_size _ rfl, rfl, rfl⟩, fp, q⟩
def MJ (x : Str) : List D := x.cps.toList.map fun c => .str ⟨#[c]⟩
theorem Rr {F1 F2 : Hp} {x : Str} : Src G (Its x) (MJ x) F1 F2 := by
 have hl : (MJ x).length = x.cps.size := by unfold MJ; simp
 refine ⟨fun i H s hi => by rw [hl] at hi; exact hi, fun i H y H' d s hd q => ?_, fun i H s hi => by rw [hl] at hi; exact hi⟩
 obtain ⟨q1, c, q2, q3⟩ := q
 refine JS ⟨q1, ?_⟩
 obtain ⟨z, hz, rfl⟩ := VL hd
 have e : x.cps[i]? = some z := by simpa using hz
 rw [e] at q2
 cases q2
 rw [q3]
 exact .str _
def seqA (f : FE) : FI := fun ρ => match f ρ with | some (.str x) => some (MJ x) | _ => seqE f ρ
theorem QH (hG : G.K = X.K) (h : PF X G a fa) : PFI X G false tg a (seqA fa) := fun A => Ly (piOr (QG hG h (A := A)) (VM (@h A))) fun σ H R ⟨ρ, ds, o, e, k⟩ => by
 unfold seqA at e
 split at e
 ·rename_i x e1
  cases e
  refine .inr ⟨ρ, _, o, e1, fun v H1 s1 r1 => ?_⟩
  cases r1
  exact ⟨_, rfl, k _ H1 s1 Rr⟩
 ·exact .inl ⟨ρ, _, o, e, k⟩
def blsD : List D → Option (List Bool)
 | [] => some []
 | .bl i :: r => (blsD r).map (i :: ·)
 | _ :: _ => none
theorem MK {H : Hp} : ∀ {ds : List D} {xs : List V} {bs : List Bool}, RepL G H xs ds → blsD ds = some bs → xs = bs.map V.bl
 | [], xs, bs, r, h => by cases h; exact r.nil_inv
 | d :: ds, xs, bs, r, h => by
  obtain ⟨x, ys, rfl, r1, r2⟩ := r.uncons
  cases d with
  | bl i =>
   cases e : blsD ds with
   | none => simp [blsD, e] at h
   | some bs' =>
    simp [blsD, e] at h
    subst h
    cases r1
    rw [MK r2 e]
    rfl
  | _ => simp [blsD] at h
theorem M8 (hc : X.calm = true) : Ej X (.builtin "all") (fun xs H Q => ∃ (p : Addr) (bs : List Bool), xs = [.ref p] ∧ SqL X.K H p (bs.map V.bl) ∧ Q (.bl (bs.all id)) H) := by
 intro pins s σ H xs us Q I r h
 obtain ⟨p, bs, rfl, hs, k⟩ := h
 obtain ⟨u, rfl, ru⟩ := r.one
 cases ru
 obtain ⟨its, rv, pl, hz⟩ := I.list hs
 have hl := pl.isList
 have hlt : p ≠ s.heap.objs.size := by obtain ⟨o, ho, _⟩ := hl; exact Nat.ne_of_lt (Heap.lt_size ho)
 have hlen : bs.length = its.length := by have := rv.length; rwa [List.length_map] at this
 refine call_all_walk (wpAny_pyIter_list hl ?_)
 refine ⟨_, _, _, _, _, _, fun i => bs.getD i true, rfl, Walks.list (A := X.A.in1) (I.ok.hd hc) s.heap.objs.size p hlt its.toArray, ⟨⟨_, Heap.get?_push_size _ rfl, rfl, rfl⟩, hl.push _⟩, ?_, fun h' tk kk => ?_⟩
 ·intro i v s' Q' E' hv hq
  have hi : its[i]? = some v := by simpa using hv
  have hlt' : i < bs.length := by rw [hlen]; exact (List.getElem?_eq_some_iff.mp hi).1
  obtain ⟨u', hu, ru⟩ := rv.get (i := i) (x := .bl (bs[i]'hlt')) (by rw [List.getElem?_map]; simp [hlt'])
  rw [hi] at hu
  cases hu
  cases (show v = Value.bool (bs[i]'hlt') from ru)
  have e : bs.getD i true = bs[i]'hlt' := by simp [List.getD, hlt']
  have hq' : Q' (bs.getD i true) s' := hq
  rw [e] at hq'
  exact wpAny_truthy_bool hq'
 ·refine ⟨.bl (bs.all id), H, I.kept (fun b o e => kk b o ?_ (Heap.get?_push_of_some _ e)), ?_, k⟩
  ·intro hb
   have : b = s.heap.objs.size := by simpa using hb
   exact absurd (Heap.lt_size e) (by rw [this]; exact Nat.lt_irrefl _)
  ·show Value.bool _ = Value.bool _
   congr 1
   rw [List.size_toArray, ← hlen]
   rw [Bool.eq_iff_iff, List.all_eq_true, List.all_eq_true]
   constructor
   ·intro q b hb
    obtain ⟨i, hi, rfl⟩ := List.getElem_of_mem hb
    have := q i (List.mem_range.mpr hi)
    simpa [List.getD, hi] using this
   ·intro q i hi
    have hi' := List.mem_range.mp hi
    have := q (bs[i]'hi') (List.getElem_mem hi')
    simpa [List.getD, hi'] using this
def allD : D → Option D
 | .lst ds => (blsD ds).map fun bs => .bl (bs.all id)
 | _ => none
theorem Rt : SndC G (fun xs H Q => ∃ (p : Addr) (bs : List Bool), xs = [.ref p] ∧ SqL G.K H p (bs.map V.bl) ∧ Q (.bl (bs.all id)) H) allD := by
 intro A H x dx d Q lv rx h k
 unfold allD at h
 split at h
 ·rename_i ds
  cases e : blsD ds with
  | none => simp [e] at h
  | some bs =>
   rw [e] at h
   cases h
   obtain ⟨p, xs, rfl, h1, r⟩ := rx.lst
   have e2 := MK r e
   subst e2
   exact ⟨p, bs, rfl, h1, k _ H (Same.refl H) (.bl _)⟩
 ·cases h
theorem VN : bootBuiltins "all" = some (.builtin "all") := by decide +kernel
end
end PV
namespace PV
open PySem PySem.Spec L2
open PyProof.Rows hiding St
section
variable {X : Cx} {G : Gx} {a b c tg : Expr} {fa fb fc : FE} {pos p2 : Pos}
end
end PV
namespace PV
open PySem PySem.Spec L2
open PyProof.Rows hiding St
section
variable {X : Cx} {G : Gx} {a b c tg : Expr} {fa fb fc : FE} {pos p2 : Pos}
def eqTo (x d : D) : Bool := match eqK 62 d x with | some b => b | none => false
def knows (x d : D) : Bool := (eqK 62 d x).isSome
def rInP (G : Gx) (neg : Bool) : R2 := fun x y H Q => ∃ (A : List Addr) (as ds : List D), RepT G A H x (.tup as) ∧ RepT G A H y (.lst ds) ∧ ds.all (knows (.tup as)) = true ∧ Q (.bl (if neg then !ds.any (eqTo (.tup as)) else ds.any (eqTo (.tup as)))) H
open Classical in
theorem Ru (hG : G.K = X.K) (hu : X.A.units + 64 < cLine) {pins : List (Addr × Obj)} {s : Shared} {σ : St} {H : Hp} {A : List Addr} {x : V} {u : Value} {as ds : List D} {xs : List V} {its : List Value} (I : Inv X pins σ H s) (rx : RepT G A H x (.tup as)) (ru : RelV x u)
  (r : RepL G (hid A H) xs ds) (v : Vals xs its) (hk : ds.all (knows (.tup as)) = true) :
  ∃ e : Value → Bool, (∀ y, y ∈ its.toArray → SeqAt.EqAt X.A.in1 s y u (e y)) ∧ its.toArray.any e = ds.any (eqTo (.tup as)) := by
 have rx' : Rep G H x (.tup as) := by
  rcases rx with q | ⟨p, _, q⟩
  ·exact q.mono Am
  ·exact q.elim
 have one : ∀ (i : Nat) y, its[i]? = some y → ∃ d, ds[i]? = some d ∧ SeqAt.EqAt X.A.in1 s y u (eqTo (.tup as) d) := fun i y hy => by
  have hi : i < its.length := (List.getElem?_eq_some_iff.mp hy).1
  have hx : i < xs.length := by rw [v.length]; exact hi
  have hd : i < ds.length := by rw [← r.1]; exact hx
  obtain ⟨y', h1, h2⟩ := v.get (i := i) (x := xs[i]) (by simp [hx])
  rw [hy] at h1
  cases h1
  refine ⟨ds[i], by simp [hd], ?_⟩
  have kn : knows (.tup as) ds[i] = true := List.all_eq_true.mp hk _ (List.getElem_mem hd)
  unfold knows at kn
  obtain ⟨b, hb⟩ := Option.isSome_iff_exists.mp kn
  have eb : eqTo (.tup as) ds[i] = b := by unfold eqTo; rw [hb]
  rw [eb]
  exact Ha I hG 62 X.A.in1 (by show X.A.units + 1 + 62 < cLine; omega) hb ((r.2 i _ _ (by simp [hx]) (by simp [hd])).mono Am) rx' h2 ru
 refine ⟨fun y => decide (∃ (i : Nat) (d : D), its[i]? = some y ∧ ds[i]? = some d ∧ eqTo (.tup as) d = true), fun y hy => ?_, ?_⟩
 ·by_cases h : ∃ (i : Nat) (d : D), its[i]? = some y ∧ ds[i]? = some d ∧ eqTo (.tup as) d = true
  ·obtain ⟨i, d, h1, h2, h3⟩ := id h
   obtain ⟨d', h4, h5⟩ := one i y h1
   rw [h2] at h4
   cases h4
   rw [h3] at h5
   show SeqAt.EqAt X.A.in1 s y u (decide (∃ (i : Nat) (d : D), its[i]? = some y ∧ ds[i]? = some d ∧ eqTo (.tup as) d = true))
   rw [decide_eq_true h]
   exact h5
  ·obtain ⟨i, hi, rfl⟩ := List.getElem_of_mem (show y ∈ its by simpa using hy)
   have hii : its[i]? = some its[i] := List.getElem?_eq_getElem hi
   obtain ⟨d, h4, h5⟩ := one i _ hii
   have h6 : eqTo (.tup as) d = false := by
    cases q : eqTo (.tup as) d with
    | false => rfl
    | true => exact absurd ⟨i, d, hii, h4, q⟩ h
   rw [h6] at h5
   show SeqAt.EqAt X.A.in1 s its[i] u (decide (∃ (j : Nat) (d : D), its[j]? = some its[i] ∧ ds[j]? = some d ∧ eqTo (.tup as) d = true))
   rw [decide_eq_false h]
   exact h5
 ·rw [Bool.eq_iff_iff, List.any_eq_true]
  rw [show its.toArray.any (fun y => decide (∃ (i : Nat) (d : D), its[i]? = some y ∧ ds[i]? = some d ∧ eqTo (.tup as) d = true)) = its.any (fun y => decide (∃ (i : Nat) (d : D), its[i]? = some y ∧ ds[i]? = some d ∧ eqTo (.tup as) d = true)) by simp, List.any_eq_true]
  constructor
  ·rintro ⟨y, hy, h⟩
   obtain ⟨i, d, h1, h2, h3⟩ := of_decide_eq_true h
   exact ⟨d, List.mem_of_getElem? h2, h3⟩
  ·rintro ⟨d, hd, h⟩
   obtain ⟨i, hi, rfl⟩ := List.getElem_of_mem hd
   have hx : i < its.length := by rw [← v.length, r.1]; exact hi
   exact ⟨its[i], List.getElem_mem hx, decide_eq_true ⟨i, _, List.getElem?_eq_getElem hx, List.getElem?_eq_getElem hi, h⟩⟩
theorem QJ (hG : G.K = X.K) (hu : X.A.units + 64 < cLine) : OpR X (compareOp .In) (rInP G false) := by
 intro pins s σ H x y v u Q I rx ry h
 obtain ⟨A, as, ds, r1, r2, hk, k⟩ := h
 obtain ⟨c, ys, rfl, h2, q2⟩ := r2.lst
 cases ry
 obtain ⟨jts, v2, p2, _⟩ := I.list (by rw [← hG]; exact h2)
 obtain ⟨e, he, ea⟩ := Ru hG hu I r1 rx q2 v2 hk
 exact SeqAt.in_listAt e p2.isList he ⟨.bl _, H, I, rfl, by rw [ea]; exact k⟩
def inF (neg : Bool) (x y : D) : Option D := match x, y with
 | .tup as, .lst ds => if ds.all (knows (.tup as)) = true then some (.bl (if neg then !ds.any (eqTo (.tup as)) else ds.any (eqTo (.tup as)))) else none
 | x, y => inE neg x y
theorem MN (neg : Bool) : Cm G (fun x y H Q => (rInA G.K neg x y H Q ∨ rDIn neg x y H Q) ∨ rInP G neg x y H Q) (inF neg) := by
 intro A H x y dx dy d Q lv rx ry h k
 unfold inF at h
 split at h
 ·split at h
  ·rename_i hk
   cases h
   exact .inr ⟨A, _, _, rx, ry, hk, k _ H (Same.refl H) (.bl _)⟩
  ·cases h
 ·exact .inl (Ro neg A H x y _ _ d Q lv rx ry h k)
end
end PV
namespace PySem
open PySem.Spec
end PySem
namespace PySem
open PySem.Spec
end PySem
namespace PV
open PySem PySem.Spec L2
open PyProof.Rows hiding St
def Gx.lend (G : Gx) (x : Addr) : Gx := { G with lent := some x }
section
variable {G : Gx} {x : Addr} {H : Hp}
theorem Rep.lend {v : V} {d : D} (r : Rep G H v d) : Rep (G.lend x) H v d := by
 induction r with
 | non => exact .non
 | bl b => exact .bl b
 | int i => exact .int i
 | str x => exact .str x
 | tup h l _ ih => exact .tup h l ih
 | lst h l _ ih => exact .lst h l ih
 | dk h l _ ih => exact .dk h l ih
 | dt h l _ ih => exact .dt h l ih
 | adr a => exact .adr a
 | ob c h l _ ih => exact .ob c h l ih
 | err c h q f => exact .err c h q f
theorem Rep.unlend {v : V} {d : D} (r : Rep (G.lend x) H v d) : Rep G H v d := by
 induction r with
 | non => exact .non
 | bl b => exact .bl b
 | int i => exact .int i
 | str x => exact .str x
 | tup h l _ ih => exact .tup h l ih
 | lst h l _ ih => exact .lst h l ih
 | dk h l _ ih => exact .dk h l ih
 | dt h l _ ih => exact .dt h l ih
 | adr a => exact .adr a
 | ob c h l _ ih => exact .ob c h l ih
 | err c h q f => exact .err c h q f
theorem RepL.lend {xs : List V} {ds : List D} (r : RepL G H xs ds) : RepL (G.lend x) H xs ds := ⟨r.1, fun i y d a b => (r.2 i y d a b).lend⟩
theorem RepL.unlend {xs : List V} {ds : List D} (r : RepL (G.lend x) H xs ds) : RepL G H xs ds := ⟨r.1, fun i y d a b => (r.2 i y d a b).unlend⟩
theorem Top.lend {A : List Addr} {a : Addr} {d : D} (t : Top G A H a d) : Top (G.lend x) A H a d := by
 cases d with
 | lst ds => obtain ⟨xs, q1, q2⟩ := t; exact ⟨xs, q1, q2.lend⟩
 | dk ds => obtain ⟨xs, q1, q2, q3⟩ := t; exact ⟨xs, q1, q2, q3.lend⟩
 | dt ds => obtain ⟨xs, q1, q2, q3⟩ := t; exact ⟨xs, q1, q2, q3.lend⟩
 | ob c gs => obtain ⟨C, dx, xs, q1, q2, q3⟩ := t; exact ⟨C, dx, xs, q1, q2, q3.lend⟩
 | _ => exact t.elim
theorem Top.unlend {A : List Addr} {a : Addr} {d : D} (t : Top (G.lend x) A H a d) : Top G A H a d := by
 cases d with
 | lst ds => obtain ⟨xs, q1, q2⟩ := t; exact ⟨xs, q1, q2.unlend⟩
 | dk ds => obtain ⟨xs, q1, q2, q3⟩ := t; exact ⟨xs, q1, q2, q3.unlend⟩
 | dt ds => obtain ⟨xs, q1, q2, q3⟩ := t; exact ⟨xs, q1, q2, q3.unlend⟩
 | ob c gs => obtain ⟨C, dx, xs, q1, q2, q3⟩ := t; exact ⟨C, dx, xs, q1, q2, q3.unlend⟩
 | _ => exact t.elim
theorem Top.sub {A B : List Addr} {a : Addr} {d : D} (t : Top G B H a d) (h : ∀ a ∈ A, a ∈ B) : Top G A H a d := by
 cases d with
 | lst ds => obtain ⟨xs, q1, q2⟩ := t; exact ⟨xs, q1, q2.mono (Bl h)⟩
 | dk ds => obtain ⟨xs, q1, q2, q3⟩ := t; exact ⟨xs, q1, q2, q3.mono (Bl h)⟩
 | dt ds => obtain ⟨xs, q1, q2, q3⟩ := t; exact ⟨xs, q1, q2, q3.mono (Bl h)⟩
 | ob c gs => obtain ⟨C, dx, xs, q1, q2, q3⟩ := t; exact ⟨C, dx, xs, q1, q2, q3.mono (Bl h)⟩
 | _ => exact t.elim
def Gs (x : Addr) (H H' : Hp) : Prop := ∀ b o, b ≠ x → H b = some o → H' b = some o
theorem Bq {A : List Addr} {H' : Hp} (hx : x ∈ A) (s : Gs x H H') : Same (hid A H) (hid A H') := fun b o h => by
 unfold hid at h ⊢
 split at h
 ·cases h
 ·rename_i hb; rw [if_neg hb]; exact s b o (fun z => hb (z ▸ hx)) h
theorem Top.other {A : List Addr} {H' : Hp} {q : Addr} {d : D} (t : Top G A H q d) (nq : q ≠ x) (hx : x ∈ A) (s : Gs x H H') : Top G A H' q d := by
 have sm := Bq hx s
 cases d with
 | lst ds => obtain ⟨xs, q1, q2⟩ := t; exact ⟨xs, s _ _ nq q1, q2.mono sm⟩
 | dk ds => obtain ⟨xs, q1, q2, q3⟩ := t; exact ⟨xs, s _ _ nq q1, q2, q3.mono sm⟩
 | dt ds => obtain ⟨xs, q1, q2, q3⟩ := t; exact ⟨xs, s _ _ nq q1, q2, q3.mono sm⟩
 | ob c gs => obtain ⟨C, dx, xs, q1, q2, q3⟩ := t; exact ⟨C, dx, xs, s _ _ nq q1, q2, q3.mono sm⟩
 | _ => exact t.elim
end
theorem OkW.wrX {G : Gx} {A0 : List Addr} {He : Hp} {A : List Addr} {σ : St} {H H' : Hp} {ρ : Rho} {i : Nat} {d0 d : D} {p : Addr} (w : OkW G A0 He A σ H ρ) (hi : ρ[i]? = some (.ow d0)) (hs : σ[i]? = some (some (.ref p))) (sx : Gs p H H') (t : Top G A H' p d) : OkW G A0 He A σ H' (ρ.set i (.ow d)) := by
 obtain ⟨q, h1, hA, _⟩ := w.ok.ow i d0 hi
 rw [hs] at h1
 cases h1
 have hep : He p = none := by
  rcases w.fr p hA with z | z
  ·exact absurd z (w.ow0 i d0 p hi hs)
  ·exact z
 have sm := Bq hA sx
 refine ⟨fun b u h => sx b u (Af h hep) (w.same b u h), w.sub, w.fr, w.l0, ⟨by rw [List.length_set]; exact w.ok.len, fun b hb => ?_, fun j e h => ?_, fun j e h => ?_, fun j k e f q g1 g2 g3 g4 => ?_⟩, fun j e q g1 g2 => ?_, fun x e hx h0 => ?_⟩
 ·by_cases z : b = p
  ·rw [z]; exact t.live
  ·exact (w.ok.live b hb).mono fun u e => sx b u z e
 ·rcases Aq h with ⟨_, hz, _⟩ | ⟨hj, hz⟩
  ·cases hz
  ·obtain ⟨v, q1, q2⟩ := w.ok.fz j e hz
   exact ⟨v, q1, q2.mono sm⟩
 ·rcases Aq h with ⟨hj, hz, hl⟩ | ⟨hj, hz⟩
  ·cases hz
   subst hj
   exact ⟨p, hs, hA, t⟩
  ·obtain ⟨q, q1, q2, q3⟩ := w.ok.ow j e hz
   have nq : q ≠ p := fun z => hj (w.ok.inj j i e d0 p hz hi (z ▸ q1) hs)
   exact ⟨q, q1, q2, q3.other nq hA sx⟩
 ·have up : ∀ (m : Nat) (g : D), (ρ.set i (.ow d))[m]? = some (.ow g) → ∃ g', ρ[m]? = some (.ow g') := fun m g z => by
   rcases Aq z with ⟨hm, _, _⟩ | ⟨_, hz⟩
   ·exact ⟨d0, by rw [hm]; exact hi⟩
   ·exact ⟨g, hz⟩
  obtain ⟨e', z1⟩ := up j e g1
  obtain ⟨f', z2⟩ := up k f g2
  exact w.ok.inj j k e' f' q z1 z2 g3 g4
 ·rcases Aq g1 with ⟨hj, _, _⟩ | ⟨hj, hz⟩
  ·subst hj
   exact w.ow0 j d0 q hi g2
  ·exact w.ow0 j e q hz g2
 ·rcases Aq h0 with ⟨hj, _, _⟩ | ⟨_, hz⟩
  ·exact w.lt x d0 hx (by rw [hj]; exact hi)
  ·exact w.lt x e hx hz
def spS (G : Gx) (g : List D → Option (D × D)) : Sp := fun vs H Q _ => ∃ A x vs' so ds d so', vs = .ref x :: vs' ∧ (∀ a ∈ A, Nt (H a)) ∧ x ∈ A ∧ Top G A H x so ∧ RepL G (hid A H) vs' ds ∧ g (so :: ds) = some (d, so') ∧
 ∀ v H', Gs x H H' → Top G A H' x so' → Rep G (hid A H') v d → Q v H'
theorem GQ {P : Program} {w : World} {K : PySem.W.Frag} {mg : Str → Option Value} {base : Heap} {CX : CXT} {k : Nat} {f : Addr} {fd : FuncData} {ps : List Str} {G : Gx} {g : List D → Option D} {y : Addr} (F : FnOk P w K mg base CX k f fd ps (spD G g)) : FnOk P w K mg base CX k f fd ps (spD (G.lend y) g) :=
 F.imp fun vs H Q E ⟨A, ds, d, lv, r, e, q⟩ => ⟨A, ds, d, lv, r.unlend, e, fun v H' s r' => q v H' s r'.lend⟩
theorem V9 {P : Program} {w : World} {K : PySem.W.Frag} {mg : Str → Option Value} {base : Heap} {CX : CXT} {k : Nat} {f : Addr} {fd : FuncData} {ps : List Str} {G : Gx} {g : List D → Option (D × D)} {y : Addr} (F : FnOk P w K mg base CX k f fd ps (spS G g)) : FnOk P w K mg base CX k f fd ps (spS (G.lend y) g) :=
 F.imp fun vs H Q E ⟨A, x, vs', so, ds, d, so', e0, lv, hx, t, r, e, q⟩ => ⟨A, x, vs', so, ds, d, so', e0, lv, hx, t.unlend, r.unlend, e, fun v H' s t' r' => q v H' s t'.lend r'.lend⟩
theorem Im {G : Gx} {A : List Addr} {H : Hp} {N : List Str} {x : Addr} {vs : List V} {so : D} {ds : List D} (live : ∀ a ∈ A, Nt (H a)) (hx : x ∈ A) (t : Top G A H x so) (r : RepL G (hid A H) vs ds) (hn : vs.length + 1 ≤ N.length) :
  OkW (G.lend x) (A.filter fun b => decide (b ≠ x)) (hid [x] H) A (start N (.ref x :: vs)) H (Ek N.length (so :: ds)) := by
 have hmem : ∀ b, b ∈ A.filter (fun b => decide (b ≠ x)) ↔ b ∈ A ∧ b ≠ x := fun b => by simp [List.mem_filter]
 have key : ∀ (i : Nat) (z : Slot), (Ek N.length (so :: ds))[i]? = some z → (i = 0 ∧ z = .ow so) ∨ (∃ j d, i = j + 1 ∧ z = .fz d ∧ ds[j]? = some d) ∨ z = .un := fun i z h => by
  cases i with
  | zero => exact .inl ⟨rfl, (Option.some.inj h).symm⟩
  | succ j =>
   right
   have h : (ds.map Slot.fz ++ List.replicate (N.length - (ds.length + 1)) Slot.un)[j]? = some z := h
   by_cases hi : j < ds.length
   ·rw [List.getElem?_append_left (by simpa using hi), List.getElem?_map] at h
    cases e : ds[j]? with
    | none => rw [e] at h; cases h
    | some d => rw [e] at h; exact .inl ⟨j, d, rfl, (Option.some.inj h).symm, e⟩
   ·rw [List.getElem?_append_right (by simpa using Nat.not_lt.mp hi), List.getElem?_replicate] at h
    split at h
    ·exact .inr (Option.some.inj h).symm
    ·cases h
 have s0 : (start N (.ref x :: vs))[0]? = some (some (.ref x)) := rfl
 refine ⟨Am, fun a ha => ((hmem a).mp ha).1, fun a ha => ?_, fun a ha => ?_, ⟨?_, live, fun i d h => ?_, fun i d h => ?_, fun i j d e a h1 h2 _ _ => ?_⟩, fun i d a h h2 => ?_, fun y d hy _ => ?_⟩
 ·by_cases z : a = x
  ·right; unfold hid; rw [if_pos (by simp [z])]
  ·exact .inl ((hmem a).mpr ⟨ha, z⟩)
 ·obtain ⟨h1, h2⟩ := (hmem a).mp ha
  rw [BR (by simpa using h2)]
  exact (live a h1).ne
 ·unfold L2.start Ek
  simp only [List.length_append, List.length_map, List.length_replicate, List.length_cons]
  rw [← r.1]
  omega
 ·rcases key i _ h with ⟨_, e⟩ | ⟨j, d', rfl, e, hd⟩ | e
  ·cases e
  ·cases e
   obtain ⟨v, h1, h2⟩ := r.get hd
   refine ⟨v, ?_, h2.lend⟩
   have hj : j < vs.length := (List.getElem?_eq_some_iff.mp h1).1
   show ((V.ref x :: vs).map some ++ _)[j + 1]? = _
   rw [List.getElem?_append_left (by simp; omega), List.getElem?_map, List.getElem?_cons_succ, h1]
   rfl
  ·cases e
 ·rcases key i _ h with ⟨rfl, e⟩ | ⟨j, d', rfl, e, hd⟩ | e
  ·cases e
   exact ⟨x, s0, hx, t.lend⟩
  ·cases e
  ·cases e
 ·rcases key i _ h1 with ⟨rfl, e1⟩ | ⟨_, _, _, e1, _⟩ | e1
  ·rcases key j _ h2 with ⟨rfl, e2⟩ | ⟨_, _, _, e2, _⟩ | e2
   ·rfl
   ·cases e2
   ·cases e2
  ·cases e1
  ·cases e1
 ·rcases key i _ h with ⟨rfl, e⟩ | ⟨_, _, _, e, _⟩ | e
  ·rw [s0] at h2
   cases h2
   exact fun z => ((hmem _).mp z).2 rfl
  ·cases e
  ·cases e
 ·have hy : some x = some y := hy
  cases hy
  exact s0
theorem E_ {d d' so : D} {ρ : Rho} (h : endS d ρ = some (d', so)) : d' = d ∧ ρ[0]? = some (.ow so) := by
 unfold endS getW at h
 split at h
 ·rename_i e; simp at h; exact ⟨h.1.symm, by rw [e, h.2]⟩
 ·simp at h
theorem fn_S {P : Program} {w : World} {G : Gx} {mg : Str → Option Value} {base : Heap} {x qual : Str} {st : Stmt} {f : Addr} {fd : FuncData} {N ps : List Str} {k : Nat} {b : FS} (F : Fun G.K x qual st f fd) (S : FnScope N ps (Aa st)) (hl : ps.length ≤ N.length)
  (hb : ∀ (y : Addr) (cdv : Value) (A : Around) (outer : List Env) (s : Shared) (H : Hp) (E : XK), Room k (A.deeper (envOfC qual (Aa st) s.heap.objs.size f cdv)) → PSDs (cxOf CX0 P w G.K mg base N qual (Aa st) f cdv A outer s H E).nox (G.lend y) (Al st) b) :
  FnOk P w G.K mg base CX0 (k + 1) f fd ps (spS G (runS N.length ps.length b)) := by
 refine F.ok S (fun vs H Q E h => ?_) (fun cdv A outer s H vs Q E hr h => ?_)
 ·obtain ⟨A, x, vs', so, ds, d, so', rfl, lv, hx, t, r, e, _⟩ := h
  unfold runS at e
  split at e
  ·rename_i hz; rw [List.length_cons, r.1]; exact hz
  ·cases e
 ·obtain ⟨A1, x, vs', so, ds, d, so', rfl, lv, hx, t, r, e, k⟩ := h
  unfold runS at e
  split at e
  ·rename_i hz
   have hzz := hb x cdv A outer s H E hr
   refine ⟨_, @hzz (A1.filter fun b => decide (b ≠ x)) (hid [x] H), Ek N.length (so :: ds), ?_⟩
   have fin : ∀ (σ' : St) (H' : Hp) (A2 : List Addr) (ρ : Rho) (v : V) (d2 : D), OkW (G.lend x) (A1.filter fun b => decide (b ≠ x)) (hid [x] H) A2 σ' H' ρ → Rep (G.lend x) (hid A2 H') v d2 → endS d2 ρ = some (d, so') → Q v H' := fun σ' H' A2 ρ v d2 w rv he => by
    obtain ⟨rfl, h0⟩ := E_ he
    obtain ⟨a, q1, q2, q3⟩ := w.ok.ow 0 so' h0
    rw [w.lt x so' rfl h0] at q1
    cases q1
    have sub : ∀ a ∈ A1, a ∈ A2 := fun a ha => by
     by_cases z : a = x
     ·rw [z]; exact q2
     ·exact w.sub a (by simp [List.mem_filter, ha, z])
    exact k v H' (fun b o hb ho => w.same b o (by rw [BR (by simpa using hb)]; exact ho)) (q3.unlend.sub sub) (rv.unlend.mono (Bl sub))
   cases e1 : b (Ek N.length (so :: ds)) with
   | none => simp [e1] at e
   | some o =>
    refine ⟨o, ⟨_, Im lv hx t r (by rw [r.1]; simp at hz; omega)⟩, rfl, ?_⟩
    cases o with
    | nx ρ =>
     simp only [e1] at e
     exact fun σ H' ⟨A, w⟩ => fin σ H' A ρ .non .non w .non e
    | rt d' ρ' =>
     simp only [e1] at e
     exact fun v σ H' A w r' => fin σ H' A ρ' v d' w r' e
    | bk ρ => simp [e1] at e
    | ct ρ => simp [e1] at e
  ·cases e
def tX (G : Gx) (A0 : List Addr) (He : Hp) (h : FZ) : TE := fun σ H Q => ∃ ρ d ρ' A, OkW G A0 He A σ H ρ ∧ h ρ = some (d, ρ') ∧ ∀ v H' A', OkW G A0 He A' σ H' ρ' → Same (hid A H) (hid A' H') → Rep G (hid A' H') v d → Q v H'
def PX (X : Cx) (G : Gx) (e : Expr) (h : FZ) : Prop := ∀ ⦃A0⦄ He, PE X e (tX G A0 He h)
section
variable {X : Cx} {G : Gx} {a b c : Expr} {fa fb fc : FE} {pos p2 px rp p apos : Pos} {es : List Expr} {fs : FA} {h : FZ} {hs : FZA}
theorem Rv {i : Nat} {x : Str} (hp : ∀ te, PE X a te → PS X (.Assign [.Name x p] a pos) (tAsg te (FW i))) (ha : PX X G a h) : PSD X G (.Assign [.Name x p] a pos) (setX i h) := fun A0 He pins s σ H D I ⟨ρ, o, ⟨A, w⟩, e, k⟩ => by
 refine hp _ (@ha A0 He) pins s σ H D I ?_
 unfold setX at e
 cases e1 : h ρ with
 | none => simp [e1] at e
 | some r =>
  simp only [e1, Option.map_some] at e
  cases e
  exact ⟨ρ, _, _, A, w, e1, fun v H' A' w' sm rv => k _ _ ⟨A', w'.set rv i⟩⟩
theorem Hh {m : Str} : ∀ {gs : List (Str × D)} {fs : List (Str × V)}, fs.map (·.1) = gs.map (·.1) → gs.lookup m = none → fs.lookup m = none
 | [], fs, e, h => by
  cases fs with
  | nil => rfl
  | cons q r => simp at e
 | p :: gs, [], e, h => by simp at e
 | p :: gs, q :: fs, e, h => by
  rw [List.map_cons, List.map_cons] at e
  injection e with e1 e2
  obtain ⟨p1, p2⟩ := p
  obtain ⟨q1, q2⟩ := q
  simp only at e1
  subst e1
  by_cases hf : m = q1
  ·subst hf; simp [List.lookup_cons] at h
  ·have hb : (m == q1) = false := beq_eq_false_iff_ne.mpr hf
   simp only [List.lookup_cons, hb] at h ⊢
   exact Hh e2 h
theorem Ep {A : List Addr} {H : Hp} {y C : Addr} {c m : Str} {so : D} (hc : G.cl c = some C) (ho : isOb c m so = true) (t : Top G A H y so) : ∃ dx fs, H y = some (.ins C dx fs) ∧ fs.lookup m = none := by
 unfold isOb at ho
 split at ho
 ·rename_i c' gs
  rw [Bool.and_eq_true] at ho
  have hc' := of_decide_eq_true ho.1
  subst hc'
  obtain ⟨C', dx, xs, q1, q2, q3⟩ := t
  rw [hc] at q2
  cases q2.1
  exact ⟨dx, xs, q1, Hh q2.2 (Option.isNone_iff_eq_none.mp ho.2)⟩
 ·cases ho
theorem QK {pl : Sem Bool} {k i : Nat} {f C : Addr} {fd : FuncData} {ps : List Str} {g : List D → Option (D × D)} {cn m r : Str} (hcl : G.cl cn = some C) (hc : Cls X.K C) (hme : Meth X.K C m f) (F : FnOk X.prog X.w X.K X.mg X.base CX0 k f fd ps (spS G g)) (hr : Room k X.A)
  (hb : Binds X.K fd ps []) (hv : PE X (.Name r rp) (tVar i))
  (ht : eval (.Call (.Attribute (.Name r rp) m apos) [] [] pos) X.env = (do
   let ov ← eval (.Name r rp) X.env
   standAt apos.atName
   let (f, first) ← holding [ov] (getMethod ov m pl)
   callWith pos f first (backTo pos (starEach [] X.env)) (backToKw pos (keywordEach [] X.env))) := by rfl) :
  PX X G (.Call (.Attribute (.Name r rp) m apos) [] [] pos) (Bg cn m g i nilA) := fun A0 He pins s σ H Q I ⟨ρ, d, ρ', A, w, e, k⟩ => by
 refine Jj (pl := pl) hv hc hme F hr hb .nil Jo ht pins s σ H Q I ?_
 unfold Bg at e
 cases e2 : ownO ρ i with
 | none => simp [e2] at e
 | some so =>
  simp only [e2, Option.bind_some] at e
  split at e
  ·rename_i ho
   have e1 : nilA ρ = some [] := rfl
   cases e3 : g [so] with
   | none => simp [e1, e3] at e
   | some r =>
    simp only [e1, e3, Option.bind_some, Option.map_some] at e
    cases e
    have hi := Do e2
    obtain ⟨y, h1, hA, t⟩ := w.ok.ow i so hi
    obtain ⟨dx, xs, q1, q2⟩ := Ep hcl ho t
    refine ⟨_, h1, y, dx, xs, rfl, q1, q2, ?_⟩
    refine ⟨A, y, [], so, [], r.1, r.2, rfl, w.ok.live, hA, t, .nil, e3, fun v H' sx t' rv => k v H' A (w.wrX hi h1 sx t') (Bq hA sx) rv⟩
  ·cases e
theorem J1 {H H' : Hp} {v : V} {d d' : D} (h : Pg d = some d') (r : Rep G H v d) : d' = d ∧ Rep G H' v d := by
 cases d with
 | non => cases h; cases r; exact ⟨rfl, .non⟩
 | bl b => cases h; cases r; exact ⟨rfl, .bl b⟩
 | int b => cases h; cases r; exact ⟨rfl, .int b⟩
 | str b => cases h; cases r; exact ⟨rfl, .str b⟩
 | _ => cases h
theorem MP {A : List Addr} {H : Hp} {y : Addr} {c m : Str} {so : D} (ho : isOb c m so = true) (t : Top G A H y so) : Rep G (hid (A.filter fun b => decide (b ≠ y)) H) (.ref y) so := by
 have hmem : ∀ b, b ∈ A.filter (fun b => decide (b ≠ y)) ↔ b ∈ A ∧ b ≠ y := fun b => by simp [List.mem_filter]
 unfold isOb at ho
 split at ho
 ·obtain ⟨C', dx, xs, q1, q2, q3⟩ := t
  exact .ob q2.1 (by rw [BR (fun z => ((hmem y).mp z).2 rfl)]; exact q1) q2.2 (q3.mono (Bl fun b hb => ((hmem b).mp hb).1)).2
 ·cases ho
theorem Hi {c m : Str} {g : List D → Option D} {i : Nat} {ρ : Rho} {d : D} (e : Ei c m g i fs ρ = some d) : ∃ so ds d0, ρ[i]? = some (.ow so) ∧ isOb c m so = true ∧ fs ρ = some ds ∧ g (so :: ds) = some d0 ∧ Pg d0 = some d := by
 unfold Ei at e
 cases e2 : ownO ρ i with
 | none => simp [e2] at e
 | some so =>
  simp only [e2, Option.bind_some] at e
  split at e
  ·rename_i ho
   cases e1 : fs ρ with
   | none => simp [e1] at e
   | some ds =>
    cases e3 : g (so :: ds) with
    | none => simp [e1, e3] at e
    | some d0 =>
     simp only [e1, e3, Option.bind_some] at e
     exact ⟨so, ds, d0, Do e2, ho, rfl, e3, e⟩
  ·cases e
theorem Dp {pl : Sem Bool} {k i : Nat} {f C : Addr} {fd : FuncData} {ps : List Str} {g : List D → Option D} {cn m r : Str} (hcl : G.cl cn = some C) (hc : Cls X.K C) (hme : Meth X.K C m f) (F : FnOk X.prog X.w X.K X.mg X.base CX0 k f fd ps (spD G g)) (hr : Room k X.A)
  (hb : Binds X.K fd ps []) (hv : PE X (.Name r rp) (tVar i)) (ha : PFA X G (b :: es) fs) (hst : starEach (b :: es) X.env = (false, eval b X.env) :: starEach es X.env := by rfl) (hpl : (backTo pos (starEach es X.env)).any (·.1) = false := by rfl)
  (ht : eval (.Call (.Attribute (.Name r rp) m apos) (b :: es) [] pos) X.env = (do
   let ov ← eval (.Name r rp) X.env
   standAt apos.atName
   let (f, first) ← holding [ov] (getMethod ov m pl)
   callWith pos f first (backTo pos (starEach (b :: es) X.env)) (backToKw pos (keywordEach [] X.env))) := by rfl) :
  PF X G (.Call (.Attribute (.Name r rp) m apos) (b :: es) [] pos) (Ei cn m g i fs) := fun A => Bh (RB (pl := pl) hv hc hme F hr hb .nil Jo (@ha A) hst hpl ht) fun σ H Q ⟨ρ, d, o, e, k⟩ => by
 obtain ⟨so, ds, d0, hi, ho, e1, e3, e4⟩ := Hi e
 obtain ⟨y, h1, hA, t⟩ := o.ow i so hi
 obtain ⟨dx, xs, q1, q2⟩ := Ep hcl ho t
 refine ⟨_, h1, y, dx, xs, rfl, q1, q2, ρ, ds, o, e1, fun vs H1 s1 r1 => ?_⟩
 refine ⟨A.filter fun b => decide (b ≠ y), so :: ds, d0, fun a ha => (o.mono s1).live a (List.mem_filter.mp ha).1, ?_, e3, fun v H' s' r' => ?_⟩
 ·rw [List.append_nil]
  exact .cons (MP ho (t.mono s1)) (r1.mono (Bl fun b hb => (List.mem_filter.mp hb).1))
 ·obtain ⟨e5, r5⟩ := J1 (H' := hid A H') e4 r'
  exact k v H' (s1.trans s') (e5 ▸ r5)
theorem Io {pl : Sem Bool} {k i : Nat} {f C : Addr} {fd : FuncData} {ps : List Str} {g : List D → Option D} {cn m r : Str} (hcl : G.cl cn = some C) (hc : Cls X.K C) (hme : Meth X.K C m f) (F : FnOk X.prog X.w X.K X.mg X.base CX0 k f fd ps (spD G g)) (hr : Room k X.A)
  (hb : Binds X.K fd ps []) (hv : PE X (.Name r rp) (tVar i))
  (ht : eval (.Call (.Attribute (.Name r rp) m apos) [] [] pos) X.env = (do
   let ov ← eval (.Name r rp) X.env
   standAt apos.atName
   let (f, first) ← holding [ov] (getMethod ov m pl)
   callWith pos f first (backTo pos (starEach [] X.env)) (backToKw pos (keywordEach [] X.env))) := by rfl) :
  PF X G (.Call (.Attribute (.Name r rp) m apos) [] [] pos) (Ei cn m g i nilA) := fun A => Bh (Jj (pl := pl) hv hc hme F hr hb .nil Jo ht) fun σ H Q ⟨ρ, d, o, e, k⟩ => by
 obtain ⟨so, ds, d0, hi, ho, e1, e3, e4⟩ := Hi e
 cases e1
 obtain ⟨y, h1, hA, t⟩ := o.ow i so hi
 obtain ⟨dx, xs, q1, q2⟩ := Ep hcl ho t
 refine ⟨_, h1, y, dx, xs, rfl, q1, q2, ?_⟩
 refine ⟨A.filter fun b => decide (b ≠ y), [so], d0, fun a ha => o.live a (List.mem_filter.mp ha).1, .cons (MP ho t) .nil, e3, fun v H' s' r' => ?_⟩
 obtain ⟨e5, r5⟩ := J1 (H' := hid A H') e4 r'
 exact k v H' s' (e5 ▸ r5)
theorem J2 {H : Hp} {f : Str} {v : V} {d : D} (rv : Rep G H v d) : ∀ {gs : List (Str × D)} {fs : List (Str × V)}, fs.map (·.1) = gs.map (·.1) → RepL G H (fs.map (·.2)) (gs.map (·.2)) → (L2.putF f v fs).map (·.1) = (putG f d gs).map (·.1) ∧ RepL G H ((L2.putF f v fs).map (·.2)) ((putG f d gs).map (·.2))
 | [], fs, e, r => by
  cases fs with
  | nil => exact ⟨rfl, .cons rv .nil⟩
  | cons q r => simp at e
 | p :: gs, [], e, r => by simp at e
 | p :: gs, q :: fs, e, r => by
  rw [List.map_cons, List.map_cons] at e r
  injection e with e1 e2
  obtain ⟨x, ys, e3, r1, r2⟩ := r.uncons
  injection e3 with e4 e5
  subst e4 e5
  obtain ⟨p1, p2⟩ := p
  obtain ⟨q1, q2⟩ := q
  simp only at e1 r1
  subst e1
  unfold L2.putF putG
  by_cases hf : q1 = f
  ·rw [if_pos hf, if_pos hf]
   exact ⟨by simp only [List.map_cons]; rw [e2], .cons rv r2⟩
  ·rw [if_neg hf, if_neg hf]
   obtain ⟨i1, i2⟩ := J2 rv e2 r2
   exact ⟨by simp only [List.map_cons]; rw [i1], .cons r1 i2⟩
theorem Er {i : Nat} {x f : Str} {pos' : Pos} (hcl : ∀ c C, G.cl c = some C → Cls X.K C ∧ BW X.K C f) (hv : PE X (.Name x p) (tVar i)) (ha : PF X G a fa) (hsw : swapsWith a (some (.Attribute (.Name x p) f pos')) pos.line X.env = pure false := by rfl) :
  PSD X G (.Assign [.Attribute (.Name x p) f pos'] a pos) (fldS f i fa) := fun A0 He pins s σ H D I ⟨ρ, o, ⟨A, w⟩, e, k⟩ => by
 refine Us hv (@ha A) hsw pins s σ H D I ?_
 unfold fldS at e
 cases e1 : fa ρ with
 | none => simp [e1] at e
 | some v =>
  cases e2 : ownO ρ i with
  | none => simp [e1, e2] at e
  | some so =>
   cases e3 : Ph f so v with
   | none => simp [e1, e2, e3] at e
   | some so' =>
    simp only [e1, e2, e3, Option.bind_some, Option.map_some] at e
    cases e
    have hi := Do e2
    obtain ⟨y, h1, hA, t⟩ := w.ok.ow i so hi
    unfold Ph at e3
    split at e3
    ·rename_i c gs
     split at e3
     ·rename_i hz
      cases e3
      obtain ⟨C, dx, xs, q1, q2, q3⟩ := t
      have hl := congrArg List.length q2.2
      rw [List.length_map, List.length_map] at hl
      refine ⟨ρ, v, w.ok, e1, fun u H1 s1 r1 => ⟨_, h1, y, C, dx, xs, rfl, s1 _ _ q1, (hcl _ _ q2.1).1, (hcl _ _ q2.1).2, by rw [hl]; exact hz, ?_⟩⟩
      obtain ⟨n1, n2⟩ := J2 (f := f) r1 q2.2 (q3.mono (An s1))
      refine k _ _ ⟨A, (w.mono s1).wr hi h1 ⟨C, dx, _, Ag, ⟨q2.1, n1⟩, ?_⟩⟩
      rw [Fw hA]
      exact n2
     ·cases e3
    ·cases e3
theorem Rw {k : Nat} {f C : Addr} {fd : FuncData} {ps : List Str} {g : List D → Option (D × D)} {cn x : Str} (hcl : G.cl cn = some C) (M : Mk X.K C f) (F : FnOk X.prog X.w X.K X.mg X.base CX0 k f fd ps (spS G g)) (hr : Room (k + 1) X.A) (hg : Gl X x) (hm : X.mg x = some (.ref C)) (hb : Binds X.K fd ps [])
  (ha : PFA X G (a :: es) fs) (hdb : (x == ("__debug__" : Str)) = false := by decide) (he : starEach (a :: es) X.env = (false, eval a X.env) :: starEach es X.env := by rfl) (hpl : (backTo pos (starEach es X.env)).any (·.1) = false := by rfl) :
  PN X G (.Call (.Name x p) (a :: es) [] pos) (mkF cn g fs) := fun A => Bh (RC M F hr hg hm hb .nil Jo (@ha A) hdb he hpl) fun σ H Q ⟨ρ, d, o, e, k⟩ => by
 unfold mkF at e
 cases e1 : fs ρ with
 | none => simp [e1] at e
 | some ds =>
  cases e3 : g (.ob cn [] :: ds) with
  | none => simp [e1, e3] at e
  | some r =>
   simp only [e1, e3, Option.bind_some] at e
   obtain ⟨r1, r2⟩ := r
   cases r1 with
   | non =>
    cases e
    refine ⟨ρ, ds, o, e1, fun vs H1 s1 rv => fun y dx hy hdx hne => ?_⟩
    have sm : Same H1 (upd (upd H1 dx (.own y)) y (.ins C dx [])) := (Bc hdx _).trans (Bc (by rw [Ad (Ne.symm hne)]; exact hy) _)
    refine ⟨y :: A, y, vs, .ob cn [], ds, .non, _, by rw [List.append_nil], fun b hb => ?_, List.mem_cons_self, ⟨C, dx, [], Ag, ⟨hcl, rfl⟩, .nil⟩, rv.mono (Ik sm hy), e3, fun v H' sx t' rv' => ?_⟩
    ·rcases List.mem_cons.mp hb with z | z
     ·rw [z, Ag]; exact Nt.ins
     ·exact ((o.mono s1).live b z).mono fun u e => sm _ _ e
    ·cases rv'
     refine ⟨rfl, k y H' (fun b u hb => sx b u (fun z => ?_) (sm _ _ (s1 _ _ hb))) (s1.free hy) t'⟩
     have := s1 _ _ hb
     rw [z, hy] at this
     cases this
   | _ => cases e
end
end PV
namespace PV
open PySem L2
abbrev Ef := List (Str × Bool × D)
abbrev FEs := Rho → Ef → Option (Rho × Ef)
abbrev FTE := Rho → Ef → Option Bool
def noOw (ρ : Rho) : Bool := ρ.all fun z => match z with | .ow _ => false | _ => true
def repE (f : Str) (d : D) : Ef → Ef
 | [] => []
 | (g, b, x) :: r => if g = f then (g, b, d) :: r else (g, b, x) :: repE f d r
def finE (c : Str) (ε : Ef) : D := .ob c (ε.map fun p => (p.1, p.2.2))
end PV
namespace PV
open PySem PySem.Spec L2
open PyProof.Rows hiding St
theorem Dq {ρ : Rho} (h : noOw ρ = true) (i : Nat) (d : D) : ρ[i]? ≠ some (.ow d) := fun e => by
 unfold noOw at h
 rw [List.all_eq_true] at h
 have := h _ (List.mem_of_getElem? e)
 cases this
inductive FsOk (G : Gx) (A0 A : List Addr) (H : Hp) (x : Addr) : List (Str × V) → Ef → List Addr → Prop
 | nil : FsOk G A0 A H x [] [] []
 | pl {f : Str} {v : V} {d : D} {fs : List (Str × V)} {ε : Ef} {as : List Addr} : Rep G (hid A H) v d → FsOk G A0 A H x fs ε as → FsOk G A0 A H x ((f, v) :: fs) ((f, false, d) :: ε) as
 | ow {f : Str} {a : Addr} {d : D} {fs : List (Str × V)} {ε : Ef} {as : List Addr} : a ∈ A → a ∉ A0 → a ≠ x → a ∉ as → Top G A H a d → FsOk G A0 A H x fs ε as → FsOk G A0 A H x ((f, .ref a) :: fs) ((f, true, d) :: ε) (a :: as)
section
variable {G : Gx} {A0 A A' : List Addr} {H H' : Hp} {x : Addr} {fs : List (Str × V)} {ε : Ef} {as : List Addr}
theorem FsOk.mp (h : FsOk G A0 A H x fs ε as) (r : ∀ v d, Rep G (hid A H) v d → Rep G (hid A' H') v d) (t : ∀ a ∈ as, ∀ d, Top G A H a d → Top G A' H' a d) (s : ∀ a ∈ as, a ∈ A → a ∈ A') : FsOk G A0 A' H' x fs ε as := by
 induction h with
 | nil => exact .nil
 | pl rv _ ih => exact .pl (r _ _ rv) (ih t s)
 | ow h1 h2 h3 h4 h5 _ ih => exact .ow (s _ List.mem_cons_self h1) h2 h3 h4 (t _ List.mem_cons_self _ h5) (ih (fun a ha => t a (List.mem_cons_of_mem _ ha)) (fun a ha => s a (List.mem_cons_of_mem _ ha)))
theorem FsOk.names (h : FsOk G A0 A H x fs ε as) : fs.map (·.1) = ε.map (·.1) := by
 induction h with
 | nil => rfl
 | pl _ _ ih => simp [ih]
 | ow _ _ _ _ _ _ ih => simp [ih]
theorem FsOk.len (h : FsOk G A0 A H x fs ε as) : fs.length = ε.length := by
 have := congrArg List.length h.names
 simpa using this
theorem FsOk.ne (h : FsOk G A0 A H x fs ε as) : ∀ a ∈ as, a ∈ A ∧ a ∉ A0 ∧ a ≠ x := by
 induction h with
 | nil => intro a ha; cases ha
 | pl _ _ ih => exact ih
 | ow h1 h2 h3 _ _ _ ih =>
  intro a ha
  rcases List.mem_cons.mp ha with z | z
  ·subst z; exact ⟨h1, h2, h3⟩
  ·exact ih a z
theorem FsOk.none {f : Str} (h : FsOk G A0 A H x fs ε as) (e : ε.lookup f = none) : fs.lookup f = none := by
 induction h with
 | nil => rfl
 | @pl g v d fs ε as _ _ ih =>
  by_cases hf : f = g
  ·subst hf; simp [List.lookup_cons] at e
  ·have hb : (f == g) = false := beq_eq_false_iff_ne.mpr hf
   simp only [List.lookup_cons, hb] at e ⊢
   exact ih e
 | @ow g a d fs ε as _ _ _ _ _ _ ih =>
  by_cases hf : f = g
  ·subst hf; simp [List.lookup_cons] at e
  ·have hb : (f == g) = false := beq_eq_false_iff_ne.mpr hf
   simp only [List.lookup_cons, hb] at e ⊢
   exact ih e
theorem FsOk.get {f : Str} {d : D} (h : FsOk G A0 A H x fs ε as) (e : ε.lookup f = some (true, d)) : ∃ a, fs.lookup f = some (.ref a) ∧ a ∈ as ∧ a ∈ A ∧ a ∉ A0 ∧ a ≠ x ∧ Top G A H a d := by
 induction h with
 | nil => cases e
 | @pl g v d' fs ε as _ _ ih =>
  by_cases hf : f = g
  ·subst hf; simp [List.lookup_cons] at e
  ·have hb : (f == g) = false := beq_eq_false_iff_ne.mpr hf
   simp only [List.lookup_cons, hb] at e ⊢
   exact ih e
 | @ow g a d' fs ε as h1 h2 h3 _ h5 _ ih =>
  by_cases hf : f = g
  ·subst hf
   simp only [List.lookup_cons, beq_self_eq_true, Option.some.injEq, Prod.mk.injEq, true_and] at e ⊢
   subst e
   exact ⟨a, rfl, List.mem_cons_self, h1, h2, h3, h5⟩
  ·have hb : (f == g) = false := beq_eq_false_iff_ne.mpr hf
   simp only [List.lookup_cons, hb] at e ⊢
   obtain ⟨a', q1, q2, q3⟩ := ih e
   exact ⟨a', q1, List.mem_cons_of_mem _ q2, q3⟩
theorem FsOk.wr {f : Str} {d d' : D} {a : Addr} (h : FsOk G A0 A H x fs ε as) (e : ε.lookup f = some (true, d)) (ea : fs.lookup f = some (.ref a)) (sx : Gs a H H') (hA : a ∈ A) (t : Top G A H' a d') : FsOk G A0 A H' x fs (repE f d' ε) as := by
 have sm := Bq hA sx
 induction h with
 | nil => cases e
 | @pl g v d2 fs ε as rv hr ih =>
  by_cases hf : f = g
  ·subst hf; simp [List.lookup_cons] at e
  ·have hb : (f == g) = false := beq_eq_false_iff_ne.mpr hf
   simp only [List.lookup_cons, hb] at e ea
   unfold repE
   rw [if_neg (fun z => hf z.symm)]
   exact .pl (rv.mono sm) (ih e ea)
 | @ow g b d2 fs ε as h1 h2 h3 h4 h5 hr ih =>
  by_cases hf : f = g
  ·subst hf
   simp only [List.lookup_cons, beq_self_eq_true, Option.some.injEq, V.ref.injEq] at ea
   subst ea
   unfold repE
   rw [if_pos rfl]
   refine .ow h1 h2 h3 h4 t (hr.mp (fun v d r => r.mono sm) (fun c hc d t' => t'.other (fun z => h4 (by rw [← z]; exact hc)) hA sx) fun _ _ z => z)
  ·have hb : (f == g) = false := beq_eq_false_iff_ne.mpr hf
   simp only [List.lookup_cons, hb] at e ea
   obtain ⟨a', q1, q2, _⟩ := hr.get e
   rw [ea] at q1
   cases q1
   unfold repE
   rw [if_neg (fun z => hf z.symm)]
   exact .ow h1 h2 h3 h4 (h5.other (fun z => h4 (z ▸ q2)) hA sx) (ih e ea)
end
structure EOk (G : Gx) (c : Str) (A0 : List Addr) (He : Hp) (x : Addr) (A : List Addr) (σ : St) (H : Hp) (ρ : Rho) (ε : Ef) : Prop where
 w : OkW G A0 He A σ H ρ
 no : noOw ρ = true
 xA : x ∈ A
 x0 : x ∉ A0
 s0 : ρ[0]? = some (.fz (.adr x))
 ob : ∃ C dx fs as, H x = some (.ins C dx fs) ∧ G.cl c = some C ∧ FsOk G A0 A H x fs ε as
section
variable {G : Gx} {c : Str} {A0 : List Addr} {He : Hp} {x : Addr} {A : List Addr} {σ : St} {H H' : Hp} {ρ : Rho} {ε : Ef}
theorem EOk.at0 (o : EOk G c A0 He x A σ H ρ ε) : σ[0]? = some (some (.ref x)) := by
 obtain ⟨v, h1, h2⟩ := o.w.ok.fz 0 _ o.s0
 cases h2
 exact h1
theorem EOk.mono (o : EOk G c A0 He x A σ H ρ ε) (s : Same H H') : EOk G c A0 He x A σ H' ρ ε := by
 obtain ⟨C, dx, fs, as, h1, h2, h3⟩ := o.ob
 exact ⟨o.w.mono s, o.no, o.xA, o.x0, o.s0, C, dx, fs, as, s _ _ h1, h2, h3.mp (fun v d r => r.mono (An s)) (fun a ha d t => t.mono s) fun _ _ z => z⟩
theorem Top.plain {B : List Addr} {a : Addr} {d : D} (t : Top G A H a d) (s : Same H H') (p : Same (hid A H) (hid B H')) : Top G B H' a d := by
 cases d with
 | lst ds => obtain ⟨xs, q1, q2⟩ := t; exact ⟨xs, s _ _ q1, q2.mono p⟩
 | dk ds => obtain ⟨xs, q1, q2, q3⟩ := t; exact ⟨xs, s _ _ q1, q2, q3.mono p⟩
 | dt ds => obtain ⟨xs, q1, q2, q3⟩ := t; exact ⟨xs, s _ _ q1, q2, q3.mono p⟩
 | ob c gs => obtain ⟨C, dx, xs, q1, q2, q3⟩ := t; exact ⟨C, dx, xs, s _ _ q1, q2, q3.mono p⟩
 | _ => exact t.elim
theorem EOk.frame (o : EOk G c A0 He x A σ H ρ ε) : OkS G A H σ H ρ := ⟨A, Same.refl H, fun _ h => h, fun a h => .inl h, fun a ha => (o.w.ok.live a ha).ne, o.w.ok, fun i d a h _ => absurd h (Dq o.no i d), fun y d _ h => absurd h (Dq o.no 0 d)⟩
theorem EOk.wr {p : Addr} {ε' : Ef} (o : EOk G c A0 He x A σ H ρ ε) (hp : p ∈ A) (h0 : p ∉ A0) (sx : Gs p H H') (lv : Nt (H' p)) (ob : ∃ C dx fs as, H' x = some (.ins C dx fs) ∧ G.cl c = some C ∧ FsOk G A0 A H' x fs ε' as) : EOk G c A0 He x A σ H' ρ ε' := by
 have hep : He p = none := (o.w.fr p hp).resolve_left h0
 have sm := Bq hp sx
 refine ⟨⟨fun b u h => sx b u (Af h hep) (o.w.same b u h), o.w.sub, o.w.fr, o.w.l0, ⟨o.w.ok.len, fun b hb => ?_, fun j e h => ?_, fun j e h => absurd h (Dq o.no j e), fun i j d e a h _ _ _ => absurd h (Dq o.no i d)⟩, fun i d a h _ => absurd h (Dq o.no i d), fun y d _ h => absurd h (Dq o.no 0 d)⟩, o.no, o.xA, o.x0, o.s0, ob⟩
 ·by_cases z : b = p
  ·rw [z]; exact lv
  ·exact (o.w.ok.live b hb).mono fun u e => sx b u z e
 ·obtain ⟨v, q1, q2⟩ := o.w.ok.fz j e h
  exact ⟨v, q1, q2.mono sm⟩
end
def tTE (G : Gx) (c : Str) (A0 : List Addr) (He : Hp) (x : Addr) (t : FTE) : TT := fun σ H Q => ∃ A ρ ε b, EOk G c A0 He x A σ H ρ ε ∧ t ρ ε = some b ∧ ∀ H', Same H H' → Q b H'
def PTE (X : Cx) (G : Gx) (c : Str) (e : Expr) (t : FTE) : Prop := ∀ ⦃A0⦄ He x, PT X e (tTE G c A0 He x t)
def PWE (X : Cx) (G : Gx) (c : Str) (e : Expr) (t : FTE) : Prop := ∀ ⦃A0⦄ He x, PW X e (tTE G c A0 He x t)
section
variable {X : Cx} {G : Gx} {c : Str} {a b e k it tg : Expr} {fa fb fk : FE} {pos p2 p px : Pos} {st : Stmt} {rest body : List Stmt} {g gs : FEs} {gp : FS} {ta tb : FTE} {tp : FT}
theorem PWE.pt (h : PWE X G c a ta) : PTE X G c a ta := fun A0 He x => (@h A0 He x).pt
end
end PV
namespace PV
open PySem PySem.Spec L2
open PyProof.Rows hiding St
theorem Hj {A : List Addr} {p b : Addr} : b ∈ A.filter (fun b => decide (b ≠ p)) ↔ b ∈ A ∧ b ≠ p := by simp [List.mem_filter]
theorem Ry {X : Cx} {G : Gx} {A : List Addr} {pins : List (Addr × Obj)} {s : Shared} {σ : St} {H : Hp} {a : Addr} {d : D} (I : Inv X pins σ H s) (hA : a ∈ A) (t : Top G A H a d) :
  ∃ H', Inv X pins σ H' s ∧ (∀ b, b ≠ a → H' b = H b) ∧ Same (hid A H) (hid (A.filter fun b => decide (b ≠ a)) H') ∧ Rep G (hid (A.filter fun b => decide (b ≠ a)) H') (.ref a) d := by
 have key : ∀ H' : Hp, (∀ b, b ≠ a → H' b = H b) → Same (hid A H) (hid (A.filter fun b => decide (b ≠ a)) H') := fun H' hh b u h => by
  unfold hid at h
  split at h
  ·cases h
  ·rename_i hb
   rw [BR (fun z => hb (Hj.mp z).1), hh b (fun z => hb (z ▸ hA))]
   exact h
 have at0 : ∀ H' : Hp, hid (A.filter fun b => decide (b ≠ a)) H' a = H' a := fun H' => BR (fun z => (Hj.mp z).2 rfl)
 cases d with
 | lst ds =>
  obtain ⟨xs, a1, a2⟩ := t
  have sm := key H fun _ _ => rfl
  exact ⟨H, I, fun _ _ => rfl, sm, .lst (.of (by rw [at0]; exact a1)) (a2.mono sm).1 (a2.mono sm).2⟩
 | dk ds =>
  obtain ⟨xs, a1, a2, a3⟩ := t
  obtain ⟨o, I'⟩ := Inv.frzK I a1
  have sm := key _ fun b hb => Ad (o := .frz o (.dK xs)) hb
  exact ⟨_, I', fun b hb => Ad hb, sm, .dk (by rw [at0]; exact Ag) a2 (a3.mono sm).2⟩
 | dt ds =>
  obtain ⟨xs, a1, a2, a3⟩ := t
  obtain ⟨o, I'⟩ := Inv.frzT I a1
  have sm := key _ fun b hb => Ad (o := .frz o (.dT xs)) hb
  exact ⟨_, I', fun b hb => Ad hb, sm, .dt (by rw [at0]; exact Ag) a2 (a3.mono sm).2⟩
 | ob c gs =>
  obtain ⟨C, dx, xs, a1, a2, a3⟩ := t
  have sm := key H fun _ _ => rfl
  exact ⟨H, I, fun _ _ => rfl, sm, .ob a2.1 (by rw [at0]; exact a1) a2.2 (a3.mono sm).2⟩
 | _ => exact t.elim
theorem FsOk.frz {X : Cx} {G : Gx} {A0 A : List Addr} {pins : List (Addr × Obj)} {s : Shared} {σ : St} {H : Hp} {x : Addr} {fs : List (Str × V)} {ε : Ef} {as : List Addr} (h : FsOk G A0 A H x fs ε as) (I : Inv X pins σ H s) :
  ∃ H' A', Inv X pins σ H' s ∧ (∀ b, b ∉ as → H' b = H b) ∧ (∀ b, b ∈ A' ↔ b ∈ A ∧ b ∉ as) ∧ Same (hid A H) (hid A' H') ∧ RepL G (hid A' H') (fs.map (·.2)) (ε.map fun p => p.2.2) := by
 induction h with
 | nil => exact ⟨H, A, I, fun _ _ => rfl, fun b => by simp, Same.refl _, .nil⟩
 | pl rv _ ih =>
  obtain ⟨H', A', i1, i2, i3, i4, i5⟩ := ih
  exact ⟨H', A', i1, i2, i3, i4, .cons (rv.mono i4) i5⟩
 | @ow f a d fs ε as h1 h2 h3 h4 t _ ih =>
  obtain ⟨H1, A1, i1, i2, i3, i4, i5⟩ := ih
  have ha : a ∈ A1 := (i3 a).mpr ⟨h1, h4⟩
  have e1 : H1 a = H a := i2 a h4
  have t1 : Top G A1 H1 a d := by
   cases d with
   | lst ds => obtain ⟨xs, q1, q2⟩ := t; exact ⟨xs, by rw [e1]; exact q1, q2.mono i4⟩
   | dk ds => obtain ⟨xs, q1, q2, q3⟩ := t; exact ⟨xs, by rw [e1]; exact q1, q2, q3.mono i4⟩
   | dt ds => obtain ⟨xs, q1, q2, q3⟩ := t; exact ⟨xs, by rw [e1]; exact q1, q2, q3.mono i4⟩
   | ob c gs => obtain ⟨C, dx, xs, q1, q2, q3⟩ := t; exact ⟨C, dx, xs, by rw [e1]; exact q1, q2, q3.mono i4⟩
   | _ => exact t.elim
  obtain ⟨H2, j1, j2, j3, j4⟩ := Ry i1 ha t1
  refine ⟨H2, A1.filter fun b => decide (b ≠ a), j1, fun b hb => ?_, fun b => ?_, i4.trans j3, .cons j4 (i5.mono j3)⟩
  ·rw [j2 b (fun z => hb (by simp [z])), i2 b (fun z => hb (List.mem_cons_of_mem _ z))]
  ·rw [Hj, i3 b]
   simp only [List.mem_cons, not_or]
   exact ⟨fun ⟨⟨p1, p2⟩, p3⟩ => ⟨p1, p3, p2⟩, fun ⟨p1, p3, p2⟩ => ⟨⟨p1, p2⟩, p3⟩⟩
theorem EOk.whole {X : Cx} {G : Gx} {c : Str} {A0 : List Addr} {He : Hp} {x : Addr} {A : List Addr} {pins : List (Addr × Obj)} {s : Shared} {σ : St} {H : Hp} {ρ : Rho} {ε : Ef} (o : EOk G c A0 He x A σ H ρ ε) (I : Inv X pins σ H s) :
  ∃ H', Inv X pins σ H' s ∧ Same He H' ∧ Rep G (hid A0 H') (.ref x) (finE c ε) := by
 obtain ⟨C, dx, fs, as, h1, h2, h3⟩ := o.ob
 obtain ⟨H', A', i1, i2, i3, i4, i5⟩ := h3.frz I
 have nx : x ∉ as := fun z => (h3.ne x z).2.2 rfl
 refine ⟨H', i1, fun b u hb => ?_, ?_⟩
 ·rw [i2 b (fun z => ?_)]
  ·exact o.w.same b u hb
  ·obtain ⟨q1, q2, _⟩ := h3.ne b z
   rw [(o.w.fr b q1).resolve_left q2] at hb
   cases hb
 ·have sb : ∀ a ∈ A0, a ∈ A' := fun a ha => (i3 a).mpr ⟨o.w.sub a ha, fun z => (h3.ne a z).2.1 ha⟩
  have en : fs.map (·.1) = (ε.map fun p => (p.1, p.2.2)).map (·.1) := by
   rw [h3.names, List.map_map]
   rfl
  have es : (ε.map fun p => (p.1, p.2.2)).map (·.2) = ε.map fun p => p.2.2 := by rw [List.map_map]; rfl
  refine .ob h2 (by rw [BR o.x0, i2 x nx]; exact h1) en ?_
  rw [es]
  exact (i5.mono (Bl sb)).2
section
variable {X : Cx} {G : Gx} {a b : Expr} {fa fb : FE} {pos p2 p : Pos} {es : List Expr} {fs : FA}
end
end PV
namespace PV
open PySem PySem.W PySem.Calls PyProof.Rows L2
end PV
namespace PySem
open PySem.Spec
section
variable {prog : Program} {w : World} {A : Around} {I d : Addr} {ep : Nat} {es : Array DictEntry} {od : Obj}
end
end PySem
namespace PV
open PySem PySem.Spec L2
open PyProof.Rows hiding St
section
variable {X : Cx} {G : Gx}
theorem RepT.dt {A : List Addr} {H : Hp} {v : V} {kds : List (List Key × D)} (r : RepT G A H v (.dt kds)) : ∃ a kvs, v = .ref a ∧ Rd H a (.dT kvs) ∧ kvs.map (·.1) = kds.map (·.1) ∧ RepL G (hid A H) (kvs.map (·.2)) (kds.map (·.2)) := by
 rcases r with r | ⟨a, e, kvs, h, k, r⟩
 ·cases r with
  | dt h k r =>
   refine ⟨_, _, rfl, .inr ⟨_, Am _ _ h⟩, k, ?_, r⟩
   have := congrArg List.length k
   rw [List.length_map, List.length_map] at this ⊢
   exact this
 ·exact ⟨a, kvs, e, .of h, k, r⟩
end
end PV
namespace PV
open PySem PySem.Spec L2
open PyProof.Rows hiding St
section
variable {X : Cx} {G : Gx}
end
end PV
namespace PV
open PySem PySem.Spec L2
open PyProof.Rows hiding St
structure FunD (K : PySem.W.Frag) (x qual : Str) (st : Stmt) (f : Addr) (fd : FuncData) : Prop where
 ex : ∃ (oc : Value) (od : Option Addr) (dV kV doc pm : Value) (an : Option Addr) (cdv ct : Value) (osl : Array (Option Value)),
  fd = PySem.W.fnOf x qual (Ba st) (Al st) (Aa st) dV kV doc pm an cdv ct ∧ K.lookup f = some ⟨oc, od, .func fd, osl⟩ ∧ PySem.W.codeIn K cdv qual = true
 kp : PySem.W.keepIn K (.ref f) = true
theorem R0 {K : PySem.W.Frag} {x qual : Str} {st : Stmt} {f : Addr} {oc : Value} {od an : Option Addr} {osl : Array (Option Value)} {dV kV doc pm cdv ct : Value} (l : K.lookup f = some ⟨oc, od, .func (PySem.W.fnOf x qual (Ba st) (Al st) (Aa st) dV kV doc pm an cdv ct), osl⟩)
  (c : PySem.W.codeIn K cdv qual = true) (k : PySem.W.keepIn K (.ref f) = true) : FunD K x qual st f (PySem.W.fnOf x qual (Ba st) (Al st) (Aa st) dV kV doc pm an cdv ct) := ⟨⟨oc, od, dV, kV, doc, pm, an, cdv, ct, osl, rfl, l, c⟩, k⟩
theorem FunD.binds {K : PySem.W.Frag} {x qual : Str} {st : Stmt} {f : Addr} {fd : FuncData} {ps : List Str} (F : FunD K x qual st f fd)
  (h : ∀ (dV kV doc pm : Value) (an : Option Addr) (cdv ct : Value) (us : List Value), us.length = ps.length → bindArgs (PySem.W.fnOf x qual (Ba st) (Al st) (Aa st) dV kV doc pm an cdv ct) ⟨us, []⟩ = pure (ps.zip us)) : Binds K fd ps [] := by
 obtain ⟨oc, od, dV, kV, doc, pm, an, cdv, ct, osl, rfl, lk, hcd⟩ := F.ex
 exact .all (h dV kV doc pm an cdv ct)
theorem V_ {P : Program} {w : World} {G : Gx} {mg : Str → Option Value} {base : Heap} {x qual : Str} {st : Stmt} {f : Addr} {fd : FuncData} {N ps : List Str} {k : Nat} {b : FS} (F : FunD G.K x qual st f fd) (S : FnScope N ps (Aa st)) (hl : ps.length ≤ N.length)
  (hb : ∀ (cdv : Value) (A : Around) (outer : List Env) (s : Shared) (H : Hp) (E : XK), Room k (A.deeper (envOfC qual (Aa st) s.heap.objs.size f cdv)) → PSDs (cxOf CX0 P w G.K mg base N qual (Aa st) f cdv A outer s H E).nox G (Al st) b) :
  FnOk P w G.K mg base CX0 (k + 1) f fd ps (spD G (runF N.length ps.length b)) := by
 obtain ⟨oc, od, dV, kV, doc, pm, an, cdv, ct, osl, rfl, lk, hcd⟩ := F.ex
 refine K6 lk hcd S (fun vs H Q E h => ?_) (fun A outer s H vs Q E hr h => ?_)
 ·obtain ⟨A, ds, d, lv, r, e, _⟩ := h
  unfold runF at e
  split at e
  ·rename_i hz; rw [r.1]; exact hz
  ·cases e
 ·obtain ⟨A0, ds, d, lv, r, e, k⟩ := h
  unfold runF at e
  split at e
  ·rename_i hz
   have hzz := hb cdv A outer s H E hr
   refine ⟨_, (@hzz A0 H).nox, Ca N.length ds, ?_⟩
   cases e1 : b (Ca N.length ds) with
   | none => simp [e1] at e
   | some o =>
    refine ⟨o, Hd lv r (by rw [r.1, hz]; exact hl), rfl, ?_⟩
    cases o with
    | nx ρ =>
     simp only [e1] at e
     cases e
     exact fun σ H' ⟨A, w⟩ => k _ H' w.same .non
    | rt d' ρ' =>
     simp only [e1] at e
     cases e
     exact fun v σ H' A w r' => k v H' w.same (r'.mono (Bl w.sub))
    | bk ρ => simp [e1] at e
    | ct ρ => simp [e1] at e
  ·cases e
end PV
namespace PV
open PySem L2
end PV
namespace PV
open PySem L2
end PV
namespace PV
open PySem PySem.Spec L2
open PyProof.Rows hiding St
section
variable {X : Cx} {G : Gx} {a b c : Expr} {fa fb fc : FE} {pos p2 px : Pos}
theorem RepL.set {G : Gx} {H : Hp} {xs : List V} {ds : List D} (r : RepL G H xs ds) {v : V} {d : D} (q : Rep G H v d) (j : Nat) : RepL G H (xs.set j v) (ds.set j d) := by
 refine ⟨by rw [List.length_set, List.length_set]; exact r.1, fun i x e h1 h2 => ?_⟩
 by_cases h : j = i
 ·subst h
  rw [List.getElem?_set] at h1 h2
  simp only [if_true] at h1 h2
  split at h1
  ·split at h2
   ·cases h1; cases h2; exact q
   ·cases h2
  ·cases h1
 ·rw [List.getElem?_set_ne h] at h1 h2
  exact r.2 i x e h1 h2
end
end PV
namespace PV
open PySem PySem.Spec L2
open PyProof.Rows hiding St
section
variable {X : Cx} {G : Gx} {a b c : Expr} {fa fb fc : FE} {pos p2 : Pos} {es : List Expr} {fs : FA}
theorem vr (i : Nat) {x : Str} (hN : X.N[i]? = some x := by rfl) (hv : Vis X.env.scope x := by first | exact Or.inl rfl | exact Or.inr (Or.inl rfl) | exact Or.inr (Or.inr rfl)) (hd : (x == ("__debug__" : Str)) = false := by decide) (hcd : (x == ("__classdict__" : Str)) = false := by decide) : PF X G (.Name x pos) (vF i) := U0 i (pv i hN hv hd hcd)
theorem vp (i : Nat) {x : Str} (hN : X.N[i]? = some x := by rfl) (hv : Vis X.env.scope x := by first | exact Or.inl rfl | exact Or.inr (Or.inl rfl) | exact Or.inr (Or.inr rfl)) (hd : (x == ("__debug__" : Str)) = false := by decide) (hcd : (x == ("__classdict__" : Str)) = false := by decide) : PU X G (.Name x pos) (vF i) := PF.pu (vr i hN hv hd hcd)
theorem vq (i : Nat) {x : Str} (hN : X.N[i]? = some x := by rfl) (hv : Vis X.env.scope x := by first | exact Or.inl rfl | exact Or.inr (Or.inl rfl) | exact Or.inr (Or.inr rfl)) (hd : (x == ("__debug__" : Str)) = false := by decide) (hcd : (x == ("__classdict__" : Str)) = false := by decide) : PU X G (.Name x pos) (vU i) := U3 i (pv i hN hv hd hcd)
theorem pU {e : Expr} {f : FE} (h : PF X G e f) : PU X G e f := PF.pu h
theorem iP {i j} : PU X G (.Constant (.int i) j pos) (kF (.int i)) := PF.pu Kg
theorem sP {x j} : PU X G (.Constant (.str x) j pos) (kF (.str x)) := PF.pu Gh
theorem iD (ha : PU X G a fa) (hb : PU X G b fb) (hG : G.K = X.K := by rfl) (hs : JC b := by exact fun _ _ => rfl) : PF X G (.Subscript a b pos) (bF ixD fa fb) := V5 hG ha hb hs
theorem bAdd (ha : PU X G a fa) (hb : PU X G b fb) (hG : G.K = X.K := by rfl) : PF X G (.BinOp a .Add b pos) (bF addD fa fb) := JL Rc (by rw [← hG]; exact Rf) ha hb
theorem bSub (ha : PU X G a fa) (hb : PU X G b fb) : PF X G (.BinOp a .Sub b pos) (bF subD fa fb) := JL Uo RZ ha hb
theorem bDiv (ha : PU X G a fa) (hb : PU X G b fb) : PF X G (.BinOp a .FloorDiv b pos) (bF K_ fa fb) := JL Q5 Pq ha hb
theorem bMod (ha : PU X G a fa) (hb : PU X G b fb) : PF X G (.BinOp a .Mod b pos) (bF modD fa fb) := JL Up Ra ha hb
theorem cEq {k : Nat} (hr : Room k X.A) (ha : PU X G a fa) (hb : PU X G b fb) (hG : G.K = X.K := by rfl) : PF X G (.Compare a [.Eq] [b] pos) (bF (eqD false) fa fb) := JM (Py hG hr.units) (Kp false) ha hb (Gb _)
theorem tEq {k : Nat} (hr : Room k X.A) (ha : PU X G a fa) (hb : PU X G b fb) (hG : G.K = X.K := by rfl) : PFT X G (.Compare a [.Eq] [b] pos) (blF (bF (eqD false) fa fb)) := Dm (Py hG hr.units) (Kp false) ha hb (Gb _)
theorem tNe {k : Nat} (hr : Room k X.A) (ha : PU X G a fa) (hb : PU X G b fb) (hG : G.K = X.K := by rfl) : PFT X G (.Compare a [.NotEq] [b] pos) (blF (bF (eqD true) fa fb)) := Dm (VG hG hr.units) (Kp true) ha hb (Gb _)
theorem cIn {k : Nat} (hr : Room k X.A) (ha : PU X G a fa) (hb : PU X G b fb) (hG : G.K = X.K := by rfl) (hm : behindInMarks .In b = false := by with_unfolding_all rfl) : PF X G (.Compare a [.In] [b] pos) (bF (inF false) fa fb) := JM ((JP.or (QD (S9 hr))).or (QJ hG hr.units)) (by rw [← hG]; exact MN false) ha hb hm
theorem tIn {k : Nat} (hr : Room k X.A) (ha : PU X G a fa) (hb : PU X G b fb) (hG : G.K = X.K := by rfl) (hm : behindInMarks .In b = false := by with_unfolding_all rfl) : PFT X G (.Compare a [.In] [b] pos) (blF (bF (inF false) fa fb)) := Dm ((JP.or (QD (S9 hr))).or (QJ hG hr.units)) (by rw [← hG]; exact MN false) ha hb hm
theorem tLt (ha : PU X G a fa) (hb : PU X G b fb) : PFT X G (.Compare a [.Lt] [b] pos) (blF (bF ltD fa fb)) := Dm Sy Pr ha hb (Gb _)
theorem tGt (ha : PU X G a fa) (hb : PU X G b fb) : PFT X G (.Compare a [.Gt] [b] pos) (blF (bF gtD fa fb)) := Dm Vu U5 ha hb (Gb _)
theorem sF (hN : X.N.Nodup) (i : Nat) {x : Str} {p : Pos} (ha : PF X G a fa) (hi : X.N[i]? = some x := by rfl) (hx : Loc X.env.scope x := by first | exact Or.inl rfl | exact Or.inr rfl) (hs : swapsWith a (some (.Name x p)) pos.line X.env = pure false := by rfl)
  (hf : X.fn x = true ∨ X.env.scope.names.lookup x = some .local := by first | exact .inl rfl | exact .inr rfl | assumption) : PSD X G (.Assign [.Name x p] a pos) (setF i fa) := Ri (fun _ h => Iz hN hi hx h hs hf) ha
theorem sW (hN : X.N.Nodup) (i : Nat) {x : Str} {p : Pos} (ha : PN X G a fa) (hi : X.N[i]? = some x := by rfl) (hx : Loc X.env.scope x := by first | exact Or.inl rfl | exact Or.inr rfl) (hs : swapsWith a (some (.Name x p)) pos.line X.env = pure false := by rfl)
  (hf : X.fn x = true ∨ X.env.scope.names.lookup x = some .local := by first | exact .inl rfl | exact .inr rfl | assumption) (hi0 : i ≠ 0 := by decide) : PSD X G (.Assign [.Name x p] a pos) (setW i fa) := P_ (fun _ h => Iz hN hi hx h hs hf) ha hi0
theorem gN (hN : X.N.Nodup) (i : Nat) {x : Str} (hi : X.N[i]? = some x := by rfl) (hx : Loc X.env.scope x := by first | exact Or.inl rfl | exact Or.inr rfl) (hf : X.fn x = true ∨ X.env.scope.names.lookup x = some .local := by first | exact .inl rfl | exact .inr rfl | assumption) : PG X (.Name x pos) (FW i) := Q3 hN hi hx hf
theorem cO {N : List Str} {sc scope : Scope} {t : Str} (hN : X.N = N) (hs : X.env.scope = sc) (h : JT N sc scope t = true := by decide +kernel) : CompOk X scope t := M6 hN hs h
abbrev nT (N : List Str) (t : Str) : List Str := N ++ [t]
structure Dx (K : PySem.W.Frag) (mg : Str → Option Value) (x : Str) (st : Stmt) (ps : List Str) where
 f : Addr
 fd : FuncData
 F : FunD K x x st f fd
 B : Binds K fd ps []
 m : mg x = some (.ref f)
abbrev DOk (P : Program) (w : World) (base : Heap) {K : PySem.W.Frag} {mg : Str → Option Value} {x : Str} {st : Stmt} {ps : List Str} (d : Dx K mg x st ps) (k : Nat) (sp : Sp) : Prop := FnOk P w K mg base CX0 k d.f d.fd ps sp
theorem fX {k k' : Nat} {x : Str} {st : Stmt} {ps : List Str} {p : Pos} {d : Dx X.K X.mg x st ps} {g : List D → Option D} (F : FnOk X.prog X.w X.K X.mg X.base CX0 k d.f d.fd ps (spD G g)) (hr : Room k' X.A) (ha : PFA X G (a :: es) fs) (hle : k ≤ k' := by omega) (hg : Gl X x := by rfl) (hdb : (x == ("__debug__" : Str)) = false := by decide)
  (he : starEach (a :: es) X.env = (false, eval a X.env) :: starEach es X.env := by rfl) (hpl : (backTo pos (starEach es X.env)).any (·.1) = false := by rfl) : PF X G (.Call (.Name x p) (a :: es) [] pos) (Dk g fs) := V6 F (hr.mono hle) hg d.m d.F.kp d.B ha hdb he hpl
end
section
variable {K : PySem.W.Frag} {h : Heap} {mg : Str → Option Value} {x qual : Str} {st : Stmt} {ps : List Str} {f C : Addr} {oc : Value} {od an : Option Addr} {osl : Array (Option Value)} {dV kV doc pm cdv ct : Value}
theorem fnX {P : Program} {w : World} {G : Gx} {base : Heap} {N : List Str} {k : Nat} {b : FS} (d : Dx G.K mg x st ps) (S : FnScope N ps (Aa st))
  (hb : ∀ (cdv : Value) (A : Around) (outer : List Env) (s : Shared) (H : Hp) (E : XK), Room k (A.deeper (envOfC x (Aa st) s.heap.objs.size d.f cdv)) → PSDs (cxOf CX0 P w G.K mg base N x (Aa st) d.f cdv A outer s H E).nox G (Al st) b) (hl : ps.length ≤ N.length := by decide) :
  FnOk P w G.K mg base CX0 (k + 1) d.f d.fd ps (spD G (runF N.length ps.length b)) := V_ d.F S hl hb
def dx (X : K.In h) (N : h.Ns mainGlobals mg) (a : PySem.W.nsIn K mainGlobals x = some (some (.ref f))) (l : K.lookup f = some ⟨oc, od, .func (PySem.W.fnOf x x (Ba st) (Al st) (Aa st) .none kV doc pm an cdv ct), osl⟩) (c : PySem.W.codeIn K cdv x = true) (k : PySem.W.keepIn K (.ref f) = true)
  (b : ∀ (kV doc pm : Value) (an : Option Addr) (cdv ct : Value) (us : List Value), us.length = ps.length → bindArgs (PySem.W.fnOf x x (Ba st) (Al st) (Aa st) .none kV doc pm an cdv ct) ⟨us, []⟩ = pure (ps.zip us)) : Dx K mg x st ps := ⟨f, _, R0 l c k, (Fq l c k).binds b, PySem.W.mg_of X N a⟩
structure Ix (K : PySem.W.Frag) (C : Addr) (qual : Str) (st : Stmt) (ps : List Str) where
 f : Addr
 fd : FuncData
 F : Fun K "__init__" qual st f fd
 B : Binds K fd ps []
 mM : Mk K C f
def ix (X : K.In h) (m : PySem.W.makesIn K C = true) (kc : PySem.W.keepIn K (.ref C) = true) (a : PySem.W.findIn K (.ref C) "__init__" = some (some (.ref f))) (i : PySem.W.isFn K (.ref f) = true) (l : K.lookup f = some ⟨oc, od, .func (PySem.W.fnOf "__init__" qual (Ba st) (Al st) (Aa st) .none kV doc pm an cdv ct), osl⟩) (c : PySem.W.codeIn K cdv qual = true) (k : PySem.W.keepIn K (.ref f) = true)
  (b : ∀ (kV doc pm : Value) (an : Option Addr) (cdv ct : Value) (us : List Value), us.length = ps.length → bindArgs (PySem.W.fnOf "__init__" qual (Ba st) (Al st) (Aa st) .none kV doc pm an cdv ct) ⟨us, []⟩ = pure (ps.zip us)) : Ix K C qual st ps := ⟨f, _, Fq l c k, (Fq l c k).binds b, m, a, i, kc⟩
structure Sx (mg : Str → Option Value) (x : Str) (f : Tok → Value) where
 t : Tok
 m : mg x = some (f t)
structure Kx (G : Gx) (mg : Str → Option Value) (x : Str) (c : D) where
 a : Addr
 m : mg x = some (.ref a)
 r : Rep G (fun _ => none) (.ref a) c
def sx {t : Tok} {f : Tok → Value} (X : K.In h) (N : h.Ns mainGlobals mg) (a : PySem.W.nsIn K mainGlobals x = some (some (f t))) : Sx mg x f := ⟨t, PySem.W.mg_of X N a⟩
def gx1 (K : PySem.W.Frag) (cn : Str) (C : Addr) : Gx := { K := K, cl := fun c => if c = cn then some C else none }
theorem cls (X : K.In h) (pg : PySem.W.plainGet K C Str.empty = true) (hd : PySem.W.hasDictIn K C = true) (po : PySem.W.plainOver K C = true) (sa : PySem.W.findIn K (.ref C) "__setattr__" = some (some (.builtin "object.__setattr__"))) : Cls K C := ⟨pg, hd, po, sa⟩
theorem rtx {cn : Str} {g : Addr} {n : Nat} {its : Array Value} {xs : List Str} (X : K.In h) (l : K.lookup g = some ⟨.type "tuple", od, .seq its n, osl⟩) (hz : its.size ≤ sizeLine) (r : Vals (xs.map V.str) its.toList) : Rep (gx1 K cn C) (fun _ => none) (.ref g) (.tup (xs.map .str)) := Ij l hz r
def kx {cn : Str} {g : Addr} {n : Nat} {its : Array Value} {xs : List Str} (X : K.In h) (N : h.Ns mainGlobals mg) (a : PySem.W.nsIn K mainGlobals x = some (some (.ref g))) (l : K.lookup g = some ⟨.type "tuple", od, .seq its n, osl⟩) (hz : its.size ≤ sizeLine) (r : Vals (xs.map V.str) its.toList) : Kx (gx1 K cn C) mg x (.tup (xs.map .str)) := ⟨g, PySem.W.mg_of X N a, rtx X l hz r⟩
end
end PV
namespace PV
open PySem L2
end PV
namespace PV
open PySem PySem.Spec L2
open PyProof.Rows hiding St
section
variable {X : Cx} {G : Gx} {a : Expr} {fa : FE} {pos : Pos} {es : List Expr} {fs : FA}
end
end PV
namespace PV
open PySem L2
end PV
namespace PV
open PySem PySem.Spec L2
open PyProof.Rows hiding St
section
variable {X : Cx} {G : Gx} {a b c : Expr} {fa fb fc : FE} {pos p2 : Pos}
end
end PV
namespace PV
open PySem PySem.Spec L2 EX
open PyProof.Rows hiding St
def CX1 (P : Program) (w : World) : CXT := fun outer H s E v s' => ∃ (e : Addr) (H' : Hp), v = .ref e ∧ s'.os = s.os ∧ AllBare s'.gens ∧ Un (frs outer) [] H H' s.heap s'.heap ∧ HOk P w H' s'.heap ∧ E v none H'
structure Exc (G : Gx) (He H : Hp) (e : Addr) (tb : Option Addr) (c : Str) (gs : List (Str × D)) : Prop where
 ex : ∃ C dx fs, G.xcl c = some C ∧ H e = some (excO e C (some dx) tb) ∧ H dx = some (.xd fs) ∧ FsV fs gs ∧ He dx = none
 same : Same He H
 new : He e = none
 tbk : ∀ T, tb = some T → H T = some (tbO T .none) ∧ He T = none
theorem Exc.base {G : Gx} {He Hf H : Hp} {e : Addr} {tb : Option Addr} {c : Str} {gs : List (Str × D)} (x : Exc G Hf H e tb c gs) (s : Same He Hf) : Exc G He H e tb c gs :=
 ⟨let ⟨C, dx, fs, q1, q2, q3, q4, q5⟩ := x.ex; ⟨C, dx, fs, q1, q2, q3, q4, s.free q5⟩, s.trans x.same, s.free x.new, fun T h => ⟨(x.tbk T h).1, s.free (x.tbk T h).2⟩⟩
section
variable {X : Cx} {pins : List (Addr × Obj)} {σ : St} {G : Gx} {He H : Hp} {s : Shared} {e : Addr} {tb : Option Addr} {c : Str} {gs : List (Str × D)}
theorem Hk {E : Value → Shared → Prop} {Q : Unit → Shared → Prop} {M : Model} {L : Addr} (hst : X.stack = X.env :: X.outer) (hf : X.env.frame = some L) (I : Inv X pins σ H s) (x : Exc G He H e tb c gs)
  (k : ∀ T H' s', Inv X pins σ H' s' → Exc G He H' e (some T) c gs → Q () s') :
  wpAny M X.A (noteFrame (.ref e) X.env) (fun _ s₂ => wpAny M X.A (setFlight (.ref e) none) Q E s₂) E s := by
 obtain ⟨C, dx, fs, q1, q2, q3, q4, q5⟩ := x.ex
 refine RT hst hf I q2 (fun T h => (x.tbk T h).1) fun T H' s' n => k T H' s' n.inv ?_
 have ncb : ∀ b u, H b = some u → (∀ φ, u ≠ .ext φ) → b ≠ e ∧ tb ≠ some b := fun b u q z => ⟨fun w => by subst w; rw [q2] at q; cases q; exact z _ rfl, fun w => by
  have := (x.tbk b w).1; rw [this] at q; cases q; exact z _ rfl⟩
 refine ⟨⟨C, dx, fs, q1, n.exc, n.rest dx _ (ncb dx _ q3 fun _ z => nomatch z).1 (ncb dx _ q3 fun _ z => nomatch z).2 q3, q4, q5⟩, fun b u h => n.rest b u (fun z => by rw [z, x.new] at h; cases h) (fun z => by rw [(x.tbk b z).2] at h; cases h) (x.same b u h), x.new, fun T' h => ?_⟩
 cases h
 exact ⟨n.tbk, x.same.free n.new⟩
end
def Rz (X : Cx) (G : Gx) (A0 : List Addr) (He : Hp) (c : Str) (gs : List (Str × D)) (ρ : Rho) : Prop := ∀ pins σ H1 H s e tb, Inv X pins σ H s → OkS G A0 He σ H1 ρ → Exc G H1 H e tb c gs → X.xe (.ref e) s
def excOf : D → Option (Str × List (Str × D))
 | .exc c gs => some (c, gs)
 | _ => none
def RzO (X : Cx) (G : Gx) (A0 : List Addr) (He : Hp) (d : D) (ρ : Rho) : Prop := ∀ c gs, excOf d = some (c, gs) → Rz X G A0 He c gs ρ
def OutX (X : Cx) (G : Gx) (A0 : List Addr) (He : Hp) : Out → Prop
 | .rt d ρ => RzO X G A0 He d ρ
 | _ => True
def tSZ (X : Cx) (G : Gx) (A0 : List Addr) (He : Hp) (g : FS) : TS := fun D σ H => ∃ ρ o, OkS G A0 He σ H ρ ∧ g ρ = some o ∧ Hb G A0 He D o ∧ OutX X G A0 He o
def PSZ (X : Cx) (G : Gx) (st : Stmt) (g : FS) : Prop := ∀ ⦃A0⦄ He, PS X st (tSZ X G A0 He g)
def PSZs (X : Cx) (G : Gx) (st : List Stmt) (g : FS) : Prop := ∀ ⦃A0⦄ He, PSs X st (tSZ X G A0 He g)
def tFZ (X : Cx) (G : Gx) (A0 : List Addr) (He : Hp) (f : FE) : TE := fun σ H Q => ∃ ρ d A, OkW G A0 He A σ H ρ ∧ f ρ = some d ∧ (∀ v H', Same H H' → Rep G (hid A H') v d → Q v H') ∧ RzO X G A0 He d ρ
def PFZ (X : Cx) (G : Gx) (e : Expr) (f : FE) : Prop := ∀ ⦃A0⦄ He, PE X e (tFZ X G A0 He f)
def QL (f : FE) : FS := fun ρ => (f ρ).map fun d => match excOf d with | some _ => .rt d ρ | none => .nx ρ
section
variable {X : Cx} {G : Gx} {a b c tg : Expr} {fa fb fc : FE} {ga : FT} {pos p2 : Pos} {st : Stmt} {rest body : List Stmt} {g gs gb : FS}
theorem PSD.x (h : PSD X G st g) : PSZ X G st g := fun A0 He pins s σ H D I ⟨ρ, o, ok, e, k, _⟩ => @h A0 He pins s σ H D I ⟨ρ, o, ok, e, k⟩
theorem PF.x (h : PF X G a fa) : PFZ X G a fa := fun A0 He pins s σ H Q I ⟨ρ, d, A, w, e, k, _⟩ => @h A pins s σ H Q I ⟨ρ, d, w.ok, e, k⟩
theorem Bu : PSZs X G [] nxF := fun A0 He pins s σ H D I ⟨ρ, o, ok, e, k, _⟩ => DW He pins s σ H D I ⟨ρ, o, ok, e, k⟩
theorem Ay (h1 : PSZ X G st g) : PSZs X G [st] g := fun A0 He => Iv (@h1 A0 He)
theorem Ae (h1 : PSZ X G st g) (h2 : PSZs X G rest gs) : PSZs X G (st :: rest) (seqF g gs) := fun A0 He pins s σ H D I ⟨ρ, o, ok, e, k, kx⟩ => by
 refine G8 (@h1 A0 He) (@h2 A0 He) pins s σ H D I ?_
 unfold seqF at e
 split at e
 ·rename_i ρ' e1
  exact ⟨ρ, _, ok, e1, fun σ' H' ok' => ⟨ρ', o, ok', e, k, kx⟩, trivial⟩
 ·rename_i hno
  refine ⟨ρ, o, ok, e, ?_, kx⟩
  cases o with
  | nx ρ' => exact absurd e (hno ρ')
  | rt d ρ' => exact k
  | bk ρ' => exact k
  | ct ρ' => exact k
theorem Cu {s1 s2 : List Stmt} (ht : PFT X G c ga) (h1 : PSZs X G s1 g) (h2 : PSZs X G s2 gs) : PSZ X G (.If c s1 s2 pos) (ifS ga g gs) := fun A0 He pins s σ H D I ⟨ρ, o, ⟨A, w⟩, e, k, kx⟩ => by
 refine Sw (@ht A) (@h1 A0 He) (@h2 A0 He) pins s σ H D I ?_
 unfold ifS at e
 split at e
 ·rename_i e1
  exact ⟨ρ, _, w.ok, e1, fun H1 s1 => iteT ⟨ρ, o, ⟨A, w.mono s1⟩, e, k, kx⟩⟩
 ·rename_i e1
  exact ⟨ρ, _, w.ok, e1, fun H1 s1 => iteF ⟨ρ, o, ⟨A, w.mono s1⟩, e, k, kx⟩⟩
 ·cases e
theorem Gj {H : Hp} {v : V} {d : D} (r : Rep G H v d) : excOf d = none := by cases r <;> rfl
theorem QM (ha : PFZ X G a fa) (hs : swapsWith a none pos.line X.env = pure false := by rfl) : PSZ X G (.Expr a pos) (QL fa) := fun A0 He pins s σ H D I ⟨ρ, o, ⟨A, w⟩, e, k, kx⟩ => by
 refine Iw (@ha A0 He) hs pins s σ H D I ?_
 unfold QL at e
 cases e1 : fa ρ with
 | none => simp [e1] at e
 | some d =>
  simp only [e1, Option.map_some] at e
  cases e2 : excOf d with
  | none =>
   simp only [e2] at e
   cases e
   exact ⟨ρ, d, A, w, e1, fun v H1 s1 r1 => k _ _ ⟨A, w.mono s1⟩, fun c gs z => by rw [e2] at z; cases z⟩
  | some q =>
   simp only [e2] at e
   cases e
   exact ⟨ρ, d, A, w, e1, fun v H1 s1 r1 => absurd e2 (by rw [Gj r1]; simp), kx⟩
end
def J3 (X : Cx) (σ : St) : XK := fun v _ H' => ∀ pins s', Inv X pins σ H' s' → X.xe v s'
def XW (G : Gx) (He : Hp) (d : D) (E : XK) : Prop := ∀ c gs, excOf d = some (c, gs) → ∀ e T H', Exc G He H' e (some T) c gs → E (.ref e) none H'
def spZ (G : Gx) (g : List D → Option D) : Sp := fun vs H Q E => ∃ A ds d, (∀ a ∈ A, Nt (H a)) ∧ RepL G (hid A H) vs ds ∧ g ds = some d ∧ (∀ v H', Same H H' → Rep G (hid A H') v d → Q v H') ∧ XW G H d E
section
variable {X : Cx} {k : Nat} {f C : Addr} {fd : FuncData} {ps : List Str} {sp : Sp} {x m : Str} {p pos apos : Pos} {e o : Expr} {es : List Expr} {ta : TE} {t : TA}
theorem JV {pins : List (Addr × Obj)} {σ : St} {H : Hp} {s : Shared} {Q : VK} {us : List Value} {vs : List V} (F : FnOk X.prog X.w X.K X.mg X.base (CX1 X.prog X.w) k f fd ps sp) (hr : Room k X.A) (hb : Binds X.K fd ps [])
  (I : Inv X pins σ H s) (r : Vals vs us) (h : sp vs H Q (J3 X σ)) : wpAny (model X.prog X.w) X.A (call (.ref f) us) (EP X pins σ Q) X.xe s := by
 have hl : us.length = ps.length := by rw [← r.length]; exact F.len _ _ _ _ h
 have hb' := hb s us I.kIn (by rw [List.append_nil]; exact hl)
 rw [List.append_nil] at hb'
 refine wpAny_call (codeAny_mono (F.run X.A X.stack s H ⟨us, []⟩ us vs Q _ hr I.env0 hb' r h) fun r s' hq => ?_)
 cases r with
 | error v =>
  obtain ⟨e, H', rfl, q1, q2, q3, q4, q5⟩ := hq
  exact q5 pins s' (I.call' q1 q3 q4 q2 fun _ z => nomatch z)
 | ok fl =>
  cases fl with
  | ret u => exact I.after hq
  | next => exact False.elim hq
  | brk => exact False.elim hq
  | cont => exact False.elim hq
def VP (X : Cx) (sp : Sp) (t : TA) : TE := fun σ H Q => t σ H fun vs H1 => sp vs H1 Q (J3 X σ)
theorem J4 (F : FnOk X.prog X.w X.K X.mg X.base (CX1 X.prog X.w) k f fd ps sp) (hr : Room k X.A) (hg : Gl X x) (hm : X.mg x = some (.ref f)) (hk : PySem.W.keepIn X.K (.ref f) = true) (hb : Binds X.K fd ps [])
  (ha : PA X (e :: es) t) (hdb : (x == ("__debug__" : Str)) = false := by decide) (he : starEach (e :: es) X.env = (false, eval e X.env) :: starEach es X.env := by rfl) (hpl : (backTo pos (starEach es X.env)).any (·.1) = false := by rfl) :
  PE X (.Call (.Name x p) (e :: es) [] pos) (VP X sp t) := by
 intro pins s σ H Q I h
 refine wpAny_Call_Name_kw (Dv I hg hm ?_ hdb)
 refine PySem.W.callWith_K (h₀ := X.base) I.ok.mod.kin hk (thn (ha pos pins s σ H _ I h) fun us s1 ⟨vs, H1, I1, r, q⟩ => ⟨I1.kIn, ?_⟩) he hpl
 exact JV F hr hb I1 r q
def QQ (X : Cx) (C : Addr) (m : Str) (sp : Sp) (ta : TE) (t : TA) : TE := fun σ H Q => ta σ H fun x H1 => ∃ a dx fs, x = .ref a ∧ H1 a = some (.ins C dx fs) ∧ fs.lookup m = none ∧ t σ H1 fun vs H2 => sp (x :: vs) H2 Q (J3 X σ)
theorem QR {pl : Sem Bool} (he : PE X o ta) (c : Cls X.K C) (hm : Meth X.K C m f) (F : FnOk X.prog X.w X.K X.mg X.base (CX1 X.prog X.w) k f fd ps sp) (hr : Room k X.A) (hb : Binds X.K fd ps []) (ha : PA X (e :: es) t)
  (hst : starEach (e :: es) X.env = (false, eval e X.env) :: starEach es X.env := by rfl) (hpl : (backTo pos (starEach es X.env)).any (·.1) = false := by rfl)
  (ht : eval (.Call (.Attribute o m apos) (e :: es) [] pos) X.env = (do
   let ov ← eval o X.env
   standAt apos.atName
   let (f, first) ← holding [ov] (getMethod ov m pl)
   callWith pos f first (backTo pos (starEach (e :: es) X.env)) (backToKw pos (keywordEach [] X.env))) := by rfl) :
  PE X (.Call (.Attribute o m apos) (e :: es) [] pos) (QQ X C m sp ta t) := by
 intro pins s σ H Q I h
 refine PySem.W.methodCall_KW (pl := pl) (thn (he pins s σ H _ I h) fun u s1 ⟨x, H1, I1, rx, a, dx, fs, ex, ea, l, q⟩ => ?_) ht
 subst ex
 obtain rfl : u = Value.ref a := rx
 refine Dy I1 ea c hm l ?_
 refine PySem.W.callWith_K (first := [.ref a]) (h₀ := X.base) I.ok.mod.kin hm.kp (thn (ha pos pins s1 σ H1 _ I1 q) fun us s2 ⟨vs, H2, I2, r, q2⟩ => ⟨I2.kIn, ?_⟩) hst hpl
 exact JV (us := .ref a :: us) (vs := .ref a :: vs) F hr hb I2 (.cons rfl r) q2
end
section
variable {X : Cx} {G : Gx} {a ob : Expr} {es : List Expr} {fs : FA} {fo : FE} {pos p apos : Pos} {A0 : List Addr} {He : Hp}
theorem WD {σ : St} {H1 : Hp} {A : List Addr} {ρ : Rho} {d : D} (w : OkW G A0 He A σ H1 ρ) (kx : RzO X G A0 He d ρ) : XW G H1 d (J3 X σ) := fun c gs z e T H' x pins s' I => kx c gs z pins σ H1 H' s' e (some T) I ⟨A, w⟩ x
theorem VR {k : Nat} {f : Addr} {fd : FuncData} {ps : List Str} {g : List D → Option D} {x : Str} (F : FnOk X.prog X.w X.K X.mg X.base (CX1 X.prog X.w) k f fd ps (spZ G g)) (hr : Room k X.A) (hg : Gl X x) (hm : X.mg x = some (.ref f)) (hk : PySem.W.keepIn X.K (.ref f) = true)
  (hb : Binds X.K fd ps []) (ha : PFA X G (a :: es) fs) (hdb : (x == ("__debug__" : Str)) = false := by decide) (he : starEach (a :: es) X.env = (false, eval a X.env) :: starEach es X.env := by rfl) (hpl : (backTo pos (starEach es X.env)).any (·.1) = false := by rfl) :
  PFZ X G (.Call (.Name x p) (a :: es) [] pos) (Dk g fs) := fun A0 He pins s σ H Q I ⟨ρ, d, A, w, e, k, kx⟩ => by
 refine J4 F hr hg hm hk hb (@ha A) hdb he hpl pins s σ H Q I ?_
 unfold Dk at e
 cases e1 : fs ρ with
 | none => simp [e1] at e
 | some ds =>
  have e' : g ds = some d := by simpa [e1] using e
  exact ⟨ρ, ds, w.ok, e1, fun vs H1 s1 r1 => ⟨A, ds, d, (w.mono s1).ok.live, r1, e', fun v H2 s2 r2 => k v H2 (s1.trans s2) r2, WD (w.mono s1) kx⟩⟩
end
theorem VV {P : Program} {w : World} {G : Gx} {mg : Str → Option Value} {base : Heap} {N : List Str} {qual : Str} {scope : Scope} {f : Addr} {cd : Value} {A : Around} {outer : List Env} {s : Shared} {H : Hp} {E : XK} {A0 : List Addr} {d : D} {ρ : Rho} (h : XW G H d E) :
  RzO (cxOf (CX1 P w) P w G.K mg base N qual scope f cd A outer s H E) G A0 H d ρ := fun c gs z pins σ H1 H2 s2 e tb I ⟨A1, ok⟩ x => by
 show wpAny _ _ (leaving _ _) _ _ _
 unfold leaving
 refine wpAny_bind (Hk (X := cxOf (CX1 P w) P w G.K mg base N qual scope f cd A outer s H E) rfl rfl I (x.base ok.same) fun T H' s' I' x' => ?_)
 exact ⟨e, H', rfl, I'.os, I'.bare, I'.base, I'.hok, h c gs z e T H' x'⟩
end PV
namespace EX
open PySem PySem.W PyProof.Rows PySem.Calls
section
variable {prog : Program} {w : World} {A : Around} {E : Value → Shared → Prop} {h : Heap} {g : Array GenState} {d : Drawn} {t : Nat} {os : OsState} {R : Result → Shared → Prop}
variable {nm q : Str} {C N : Addr} {bs bm bmB : List Value} {hdct : Bool} {sn : List Str} {sub : List Value} {ab : Bool} {col : Option Bool} {dd : Option Addr} {k0 k1 k2 k3 k5 : Option Value} {B newId initId : String}
abbrev EY (C a : Addr) : Obj := { cls := .ref C, data := .fields #[.ref a, .none, .none, .none, .bool false, .none] }
abbrev Di (rest : List Value) : Obj := { cls := .type "tuple", data := .seq rest.toArray }
theorem Hl (F : ExcBaseFacts B newId initId bmB) (T : OwnTail h bmB bm) {rest : List Value} {init : Value} {Q : Fin → Shared → Prop}
  (hC : h.get? C = some (excClassObj nm q C N bs bm hdct sn sub ab col dd k0 k1 k2 k3 k5 newId)) (hi : Looks (model prog w) h (typeLookup (.ref C) "__init__") (some init)) (hb : ∀ self, Looks (model prog w) h (bindSpecial init self) (init, [self]))
  (hq : codeAny (model prog w) A (.call init ⟨.ref (h.objs.size + 1) :: rest, []⟩) (fun r s' => match r with
   | .ok (.ret v) => v = .none ∧ Q (.done (.ret (.ref (h.objs.size + 1)))) s'
   | .ok _ => False
   | .error e => E e s') ⟨(h.push (Di rest)).push (EY C h.objs.size), g, d, t, os⟩) (hrest : rest.length ≤ sizeLine := by size_fits) :
  wpAny (model prog w) A (Builtin.«type.__call__» ⟨.ref C :: rest, []⟩) Q E ⟨h, g, d, t, os⟩ := by
 repeat (first | with_reducible refine wpAny_loadPart_at hC ?_ | with_reducible refine wpAny_madeBy_exc hC ?_ | wp_step)
 refine codeAny_call_builtin_code (Code.quiet_builtin _ F.quiet) (wpAny_check_new_subT F T hC ?_)
 refine codeAny_exc_new_subT F T hC ?_ hrest
 show wpAny _ _ _ _ _ _
 have k : ∀ b o, h.get? b = some o → ((h.push (Di rest)).push (EY C h.objs.size)).get? b = some o := fun b o e => Heap.get?_push_of_some _ (Heap.get?_push_of_some _ e)
 have hC₁ := k _ _ hC
 have hget : ((h.push (Di rest)).push (EY C h.objs.size)).get? (h.objs.size + 1) = some (EY C h.objs.size) := by heap_get
 have hcC : (Value.ref C :: bm).contains (.ref C) = true := by simp
 have i1 := hi.keeps k
 have b1 := (hb (.ref (h.objs.size + 1))).keeps k
 unfold isInstance
 repeat (first | with_reducible refine wpAny_loadPart_at hget ?_ | (with_reducible refine wpAny_isSubtype_exc hC₁ ?_; rw [hcC]) | wp_step)
 show wpAny _ _ (typeLookup (.ref C) _) _ _ _
 refine i1.at ?_
 dsimp only
 refine wpAny_holding (wpAny_bind (b1.at ?_))
 dsimp only
 refine wpAny_bind (wpAny_call (codeAny_mono hq fun r s' z => ?_))
 rcases r with e | (v | _ | _ | _) <;> first | exact z | exact z.elim | skip
 obtain ⟨rfl, z⟩ := z
 exact wpAny_pure (wpAny_pure z)
theorem QS (F : ExcBaseFacts B newId initId bmB) (T : OwnTail h bmB bm) {rest : List Value} {init : Value}
  (hC : h.get? C = some (excClassObj nm q C N bs bm hdct sn sub ab col dd k0 k1 k2 k3 k5 newId)) (hi : Looks (model prog w) h (typeLookup (.ref C) "__init__") (some init)) (hb : ∀ self, Looks (model prog w) h (bindSpecial init self) (init, [self]))
  (hq : codeAny (model prog w) (A.under (.builtin "type.__call__" ⟨.ref C :: rest, []⟩)) (.call init ⟨.ref (h.objs.size + 1) :: rest, []⟩) (InitBack (h.objs.size + 1) R) ⟨(h.push (Di rest)).push (EY C h.objs.size), g, d, t, os⟩) (hrest : rest.length ≤ sizeLine) :
  codeAny (model prog w) A (.call (.ref C) ⟨rest, []⟩) R ⟨h, g, d, t, os⟩ := by
 have f1 := tc_lookup
 have f2 := tc_bind (.ref C)
 have hT : (⟨h, g, d, t, os⟩ : Shared).TypeIs (.ref C) "type" := ⟨_, hC, rfl⟩
 refine codeAny_of_tree ?_
 show wpAny _ _ (callAny (.ref C) _) _ _ _
 repeat (any_goals (first | assumption | with_reducible refine wpAny_loadPart_at hC ?_ | wp_step))
 refine ⟨rfl, ?_⟩
 refine codeAny_call_builtin_at (Code.quiet_builtin _ (by decide +kernel)) entry_typeCall (wpAny_check_type_call_sub hC (Hl F T hC hi hb (codeAny_mono hq fun r s' z => ?_) hrest))
 rcases r with e | (v | _ | _ | _) <;> first | exact z | exact z.elim
end
end EX
namespace EX
open PySem PySem.W PySem.Spec PyProof.Rows PySem.Calls
section
variable {prog : Program} {w : World} {A : Around} {E : Value → Shared → Prop} {s : Shared} {K : Frag} {x C : Addr} {ox : Obj} {od : Option Obj} {name : Str} {v : Value}
theorem R1 {expr : Bool} {Q : Value → Shared → Prop} (X : K.In s.heap) (I : InstAt s.heap x ox C od) (hga : findIn K (.ref C) "__getattribute__" = some (some (.builtin "BaseException.__getattribute__"))) (hgt : findIn K (.ref C) "__getattr__" = some none)
  (hsub : subIn K (.ref C) (.type "BaseException") = some true) (hf : findObj K C od name = some (.value v)) (hh : handedIn v = true) (h : Q v { s with toks := s.toks + 1 }) : wpAny (model prog w) A (getAttr (.ref x) name expr) Q E s := by
 obtain ⟨hp, g, d, t, os⟩ := s
 have L0 := I.type (M := model prog w)
 have L1 := looks_findIn (M := model prog w) X hga
 have L2 := looks_findIn (M := model prog w) X hgt
 have L3 := looks_find (M := model prog w) X I hf
 have L4 := looks_subIn (M := model prog w) X hsub
 have f3 := F.attr_ValueError.ga.bind (.ref x)
 have hk : builtinKind "BaseException.__getattribute__" = some .slot := by decide +kernel
 have hsplit : splitId "BaseException.__getattribute__" = some ("BaseException", "__getattribute__") := by decide +kernel
 have hx2 : (Value.builtin "BaseException.__getattribute__" == Value.builtin "object.__getattribute__") = false := by decide +kernel
 have hx1 : (onTheHeap (Value.ref C) && Value.builtin "BaseException.__getattribute__" == Value.builtin "object.__getattribute__") = false := by rw [hx2]; rfl
 have hx0 : (expr && onTheHeap (Value.builtin "BaseException.__getattribute__")) = false := by cases expr <;> rfl
 unfold getAttr getAttrBy
 refine wpAny_bind (wpAny_mkText (wpAny_holding (wpAny_bind (L0.at (wpAny_bind (L1.at ?_))))))
 dsimp only
 rw [hx1, if_neg (by decide)]
 have ck : ∀ (Q : Unit → Shared → Prop) (B : Around) (E' : Value → Shared → Prop), Q () ⟨hp, g, d, t + 1, os⟩ → wpAny (model prog w) B (checkBuiltinCall "BaseException.__getattribute__" ⟨[.ref x, .str name t], []⟩) Q E' ⟨hp, g, d, t + 1, os⟩ := fun Q B E' hq => by
  have ha := F.args_bexc_ga (.ref x) (.str name t)
  simp only [checkBuiltinCall, hk, hsplit]
  refine wpAny_bind ?_
  unfold isInstance
  refine wpAny_bind (L0.at (L4.at ?_))
  repeat (any_goals (first | assumption | wp_step))
 have run : ∀ (B : Around) (R : Result → Shared → Prop), R (.ok (.ret v)) ⟨hp, g, d, t + 1, os⟩ → codeAny (model prog w) B (.call (.builtin "BaseException.__getattribute__") ⟨[.ref x, .str name t], []⟩) R ⟨hp, g, d, t + 1, os⟩ := fun B R hq =>
  codeAny_call_builtin F.attr_ValueError.ga.plain F.entry_bexc_ga (ck _ _ _ (by
   unfold Builtin.«object.__getattribute__»
   repeat (any_goals (first | assumption | with_reducible refine L0.at ?_ | with_reducible refine L3.at ?_ | wp_step))))
 repeat (any_goals (first | assumption | with_reducible refine L2.at ?_ | wp_step))
 refine run _ _ ?_
 show wpAny _ _ (handedOut v) _ _ _
 rw [handedOut_of hh]
 exact wpAny_pure h
open Builtin Builtin.ObjectAttr in
theorem R3 {R : Addr} {cd : ClassData} {vs : Array Value} {Q : Unit → Shared → Prop} (X : K.In s.heap) (I : InstAt s.heap x ox C none) (hfl : ox.data = .fields vs) (hs : findIn K (.ref C) "__setattr__" = some (some (.builtin "object.__setattr__"))) (hc : clsIn K C = some cd)
  (hm : cd.mro = [.ref C, .ref R, .type "ValueError", .type "Exception", .type "BaseException", .type "object"]) (hd : cd.hasDict = true) (ht : findIn K (.ref C) name = some none)
  (h : ∀ h' : Heap, h'.get? x = some { ox with dict := some s.heap.objs.size } → h'.Ns1 s.heap.objs.size (fun y => if y = name then some v else none) → (∀ b o, b ≠ x → s.heap.get? b = some o → h'.get? b = some o) → Q () { s with heap := h', toks := s.toks + 2 }) :
  wpAny (model prog w) A (setAttr (.ref x) name v) Q E s := by
 obtain ⟨hp, g, d, t, os⟩ := s
 have SF := F.store_object
 have VF := F.store_ValueError
 have hpass : refuseLoop (.ref x) "__setattr__" cd.mro = pure () := by rw [hm, refuseLoop_ref, refuseLoop_ref]; exact VF.passes _
 have sub : Looks (model prog w) hp (isInstance (.ref x) (.type "object")) true := I.type.andThen (looks_mroIn X (by unfold mroIn; rw [hc, Option.bind_some, hm]; rfl))
 have lm : Looks (model prog w) hp (mroOf (.ref C)) cd.mro := (looks_clsIn X hc).andThen .now
 have la := looks_findIn (M := model prog w) X ht
 have lt := I.type (M := model prog w)
 have lc := looks_clsIn (M := model prog w) X hc
 refine set_plain X I hs (codeAny_call_builtin SF.slot.plain SF.entry ?_)
 refine @check_slot (model prog w) _ _ ⟨hp, g, d, t + 1, os⟩ "object.__setattr__" "object" "__setattr__" (.ref x) [.str name t, v] [] _ SF.kind SF.split sub (SF.args (.ref x) (.str name t) v) ?_
 rw [osa_eq, refuse_eq]
 refine wpAny_bind (wpAny_bind (lt.at (wpAny_bind (lm.at ?_))))
 rw [hpass]
 refine wpAny_pure (wpAny_bind (lt.at (wpAny_bind (la.at (wpAny_bind (wpAny_pure ?_))))))
 dsimp only
 obtain ⟨hx, hcl, hn, hdi⟩ := I
 obtain ⟨oc, odi, oda, osl⟩ := ox
 dsimp only at hcl hdi hfl
 subst hcl hfl
 have hdn : odi = none := by
  cases odi with
  | none => rfl
  | some z => exact hdi.elim
 subst hdn
 have hxs : x ≠ hp.objs.size := Nat.ne_of_lt (Heap.lt_size hx)
 have hx1 : (hp.push { cls := .type "dict", data := .dict #[] }).get? x = some ⟨.ref C, none, .fields vs, osl⟩ := Heap.get?_push_of_some _ hx
 unfold storeInOwnDict
 refine wpAny_bind (wpAny_pure (wpAny_bind (wpAny_bind (wpAny_loadPart hx (wpAny_bind (lc.at ?_))))))
 rw [hd]
 refine wpAny_bind (wpAny_alloc' (wpAny_bind (wpAny_update' hx1 (wpAny_pure ?_))))
 have hgd : ((hp.push { cls := .type "dict", data := .dict #[] }).update x fun o => { cls := o.cls, dict := some hp.objs.size, data := o.data, slots := o.slots }).get? hp.objs.size = some { cls := .type "dict", data := .dict #[] } := (Heap.get?_update_other _ _ hxs).trans (Heap.get?_push_size _ rfl)
 have hgx : ((hp.push { cls := .type "dict", data := .dict #[] }).update x fun o => { cls := o.cls, dict := some hp.objs.size, data := o.data, slots := o.slots }).get? x = some ⟨.ref C, some hp.objs.size, .fields vs, osl⟩ := Heap.get?_update_self _ hx1 rfl
 have ho : ∀ b o, b ≠ x → hp.get? b = some o → ((hp.push { cls := .type "dict", data := .dict #[] }).update x fun o => { cls := o.cls, dict := some hp.objs.size, data := o.data, slots := o.slots }).get? b = some o := fun b o nb z => (Heap.get?_update_other _ _ (Ne.symm nb)).trans (Heap.get?_push_of_some _ z)
 generalize (hp.push { cls := .type "dict", data := .dict #[] }).update x (fun o => { cls := o.cls, dict := some hp.objs.size, data := o.data, slots := o.slots }) = h2 at hgd hgx ho ⊢
 have hnd : h2.Ns hp.objs.size (fun _ => none) := ⟨_, #[], _, hgd, rfl, fun e he => absurd he (by simp), fun _ => rfl⟩
 show wpAny _ _ (storeInDict hp.objs.size (.str name t) name v) _ _ _
 unfold storeInDict newKeyGuard
 refine wpAny_bind (wpAny_pure (wpAny_bind (wpAny_nsSet1 (Heap.Ns1.of_empty hnd) fun h' hn' hs' => ?_)))
 obtain ⟨oD, esD, epD, hoD, hdD, hcD⟩ := hn'.count (Within.cons name v Within.nil)
 refine wpAny_bind (wpAny_lookBehind hoD (by rw [hdD]; exact pastItsLine_dict (Nat.le_trans hcD (by rw [List.length_cons, List.length_nil, sizeLine_eq]; omega))) ?_)
 exact wpAny_pure (h h' ((hs'.2 x hxs).trans hgx) hn' fun b o nb z => (hs'.2 b (Nat.ne_of_lt (Heap.lt_size z))).trans (ho b o nb z))
end
end EX
namespace EX
open PySem PySem.Spec L2
open PyProof.Rows hiding St
abbrev bmV : List Value := [.type "ValueError", .type "Exception", .type "BaseException", .type "object"]
def excX (K : PySem.W.Frag) (C : Addr) : Bool := match K.lookup C with
 | some ⟨.type "type", _, .cls cd, sl⟩ => (match cd.mro, sl.toList with
  | .ref C' :: bm, [_, _, _, _, some (.builtin n), _] => C' == C && n == "ValueError.__new__" && !cd.hasDel && PySem.W.tailIn K bmV bm
  | _, _ => false)
 | _ => false
theorem GR {K : PySem.W.Frag} {h : Heap} {C : Addr} (X : K.In h) (q : excX K C = true) : ∃ nm qn N bs bm hdct sn sub ab col dd k0 k1 k2 k3 k5, h.get? C = some (excClassObj nm qn C N bs bm hdct sn sub ab col dd k0 k1 k2 k3 k5 "ValueError.__new__") ∧ OwnTail h bmV bm := by
 unfold excX at q
 split at q
 ·rename_i dd cd sl ho
  split at q
  ·rename_i C' bm k0 k1 k2 k3 n k5 hm hs
   simp only [Bool.and_eq_true, beq_iff_eq, Bool.not_eq_true'] at q
   obtain ⟨⟨⟨e1, e2⟩, e3⟩, e4⟩ := q
   subst e1 e2
   obtain ⟨nm, bs, mro, ns, qn, hd, sn, sub, ab, col, del⟩ := cd
   obtain ⟨l⟩ := sl
   simp only at hm hs e3
   subst hm e3 hs
   exact ⟨nm, qn, ns, bs, bm, hd, sn, sub, ab, col, dd, k0, k1, k2, k3, k5, X _ _ ho, PySem.W.tail_of_in X e4⟩
  ·cases q
 ·cases q
structure XC (K : PySem.W.Frag) (C R : Addr) : Prop where
 obj : excX K C = true
 sa : PySem.W.findIn K (.ref C) "__setattr__" = some (some (.builtin "object.__setattr__"))
 ga : PySem.W.findIn K (.ref C) "__getattribute__" = some (some (.builtin "BaseException.__getattribute__"))
 gt : PySem.W.findIn K (.ref C) "__getattr__" = some none
 cd : (PySem.W.clsIn K C).any (fun cd => cd.mro == [.ref C, .ref R, .type "ValueError", .type "Exception", .type "BaseException", .type "object"] && cd.hasDict) = true
theorem XC.cls {K : PySem.W.Frag} {C R : Addr} (x : XC K C R) : ∃ cd, PySem.W.clsIn K C = some cd ∧ cd.mro = [.ref C, .ref R, .type "ValueError", .type "Exception", .type "BaseException", .type "object"] ∧ cd.hasDict = true := by
 obtain ⟨cd, h1, h2⟩ := PySem.W.any_some x.cd
 simp only [Bool.and_eq_true, beq_iff_eq] at h2
 exact ⟨cd, h1, h2.1, h2.2⟩
theorem J5 {H : Hp} {a : Addr} {o : HO} (h : H a = some o) : upd H a o = H := by
 funext b
 unfold upd
 split
 ·rename_i e; rw [e, h]
 ·rfl
section
variable {X : Cx} {pins : List (Addr × Obj)} {σ : St} {H : Hp} {s : Shared} {e C R dx : Addr} {od tb : Option Addr} {A : Around} {E : Value → Shared → Prop} {f : Str}
theorem QT {u : Value} {Q : Value → Shared → Prop} (I : Inv X pins σ H s) (he : H e = some (excO e C od tb)) (x : XC X.K C R) (hQ : ∀ s', Inv X pins σ H s' → Q .none s') :
  wpAny (model X.prog X.w) A (call (.builtin "ValueError.__init__") [.ref e, u]) Q E s := by
 have F := PySem.F.excBase_ValueError
 obtain ⟨⟨o, vs, q1, q2, q3, q4, q5, q6⟩, _⟩ := I.hok e _ he
 obtain ⟨nm, qn, N, bs, bm, hdct, sn, sub, ab, col, dd, k0, k1, k2, k3, k5, hC, T⟩ := GR I.kIn x.obj
 have I1 := I.kept (h' := s.heap.push { cls := .type "tuple", data := .seq [u].toArray }) (t' := s.toks) fun b v z => Heap.get?_push_of_some _ z
 have g1 := Heap.get?_push_of_some (h := s.heap) { cls := .type "tuple", data := .seq [u].toArray } q1
 have I2 := GK (u' := excO e C od tb) (i := 0) (v := .ref s.heap.objs.size) I1 he trivial g1 q4 fun h' o' r1 r2 r3 r4 => ExcP.ok ⟨o', _, r1, r2.trans q2, r3.trans q3, r4, by simpa using q5, by rw [Array.getElem?_setIfInBounds_ne (by decide)]; exact q6⟩
 rw [J5 he] at I2
 obtain ⟨hp, g, d, t, os⟩ := s
 have h0 : ∃ v0, vs[0]? = some v0 := ⟨vs[0]'(by omega), by simp⟩
 obtain ⟨v0, h0⟩ := h0
 refine wpAny_call (codeAny_call_builtin F.init.plain F.initEntry (wpAny_check_init_subT F T hC q1 q2 ?_))
 unfold Builtin.«BaseException.__init__»
 dsimp only
 rw [if_neg (by simp)]
 unfold newTuple Builtin.BaseException.bexcPut
 refine wpAny_bind (wpAny_newObj_type (wpAny_bind (wpAny_bind (wpAny_field g1 q4 h0 (wpAny_bind (wpAny_setField g1 q4 (by omega) ?_))))) (by show 1 ≤ sizeLine; decide))
 have z := hQ _ I2
 cases v0 <;> first | exact wpAny_letGo (wpAny_pure z) | exact wpAny_pure (wpAny_pure z)
theorem R4 {y : V} {u : Value} {Q : Unit → Shared → Prop} (I : Inv X pins σ H s) (he : H e = some (excO e C none tb)) (x : XC X.K C R) (n : BW X.K C f) (ry : RelV y u)
  (h : ∀ dx s', H dx = none → Inv X pins σ (upd (upd H dx (.xd [(f, y)])) e (excO e C (some dx) tb)) s' → Q () s') : wpAny (model X.prog X.w) A (setAttr (.ref e) f u) Q E s := by
 obtain ⟨⟨o, vs, q1, q2, q3, q4, q5, q6⟩, _⟩ := I.hok e _ he
 obtain ⟨cd, c1, c2, c3⟩ := x.cls
 have ia : PySem.W.InstAt s.heap e o C none := ⟨q1, q2, by unfold PySem.W.notCls; rw [q4], by rw [q3]; trivial⟩
 refine R3 I.kIn ia q4 x.sa c1 c2 c3 n fun h' r1 r2 r3 => h s.heap.objs.size _ I.fresh ?_
 have hf := I.fresh
 have ne : e ≠ s.heap.objs.size := Af he hf
 have hs : ∃ o', h'.get? s.heap.objs.size = some o' := let ⟨o', _, _, z, _⟩ := r2; ⟨o', z⟩
 have nx : ∀ b v, H b = some v → (∀ φ, v ≠ .ext φ) → b ≠ e ∧ b ≠ s.heap.objs.size := fun b v q z => ⟨fun w => by rw [w, he] at q; cases q; exact z _ rfl, Af q hf⟩
 have ot : ∀ b v, H b = some v → (∀ φ, v ≠ .ext φ) → upd (upd H s.heap.objs.size (.xd [(f, y)])) e (excO e C (some s.heap.objs.size) tb) b = some v := fun b v q z => by rw [Ad (nx b v q z).1, Ad (nx b v q z).2]; exact q
 refine I.un ⟨fun b ob z nb _ _ => r3 b ob (Ne.symm (Af he nb)) z, fun b ob z nb _ _ => ⟨ob.slots, r3 b ob (Ne.symm (Af he nb)) z⟩, fun b ob z nb _ => ?_, fun b ob z _ => ?_, fun b xs z => ot b _ z (fun _ z => nomatch z), fun b o' u' z => ot b _ z (fun _ z => nomatch z), fun b ps z => ⟨#[], by rw [ot b _ z (fun _ z => nomatch z)]; simp⟩⟩ fun b v z => ?_
 ·rw [Ad (Ne.symm (Af he nb)), Ad (Nat.ne_of_lt (Heap.lt_size z))]; exact nb
 ·by_cases hb : b = e
  ·rw [hb]; exact ⟨_, r1⟩
  ·exact ⟨ob, r3 b ob hb z⟩
 ·by_cases hb : b = e
  ·subst hb
   rw [Ag] at z
   cases z
   exact ExcP.ok ⟨_, vs, r1, q2, rfl, q4, q5, q6⟩
  ·rw [Ad hb] at z
   by_cases hb2 : b = s.heap.objs.size
   ·subst hb2
    rw [Ag] at z
    cases z
    refine ⟨_, r2, fun g => ?_⟩
    by_cases hg : g = f
    ·subst hg; simp [List.lookup]; exact ry
    ·have : (g == f) = false := beq_eq_false_iff_ne.mpr hg
     simp [List.lookup, this, hg]; trivial
   ·rw [Ad hb2] at z
    refine (I.hok b v z).stay (fun c w hc k => r3 c w ?_ k) (fun c q => ot c _ q (fun _ z => nomatch z)) (fun c xs q => ot c _ q (fun _ z => nomatch z))
    rcases hc with hc | hc
    ·rw [hc]; exact hb
    ·exact (nx c _ hc (fun _ z => nomatch z)).1
theorem R5 {b : Bool} {fs : List (Str × V)} {v : V} {Q : Value → Shared → Prop} (I : Inv X pins σ H s) (he : H e = some (excO e C (some dx) tb)) (hd : H dx = some (.xd fs)) (x : XC X.K C R) (n : BW X.K C f) (l : fs.lookup f = some v)
  (h : ∀ u s', Inv X pins σ H s' → RelV v u → Q u s') : wpAny (model X.prog X.w) A (getAttr (.ref e) f b) Q E s := by
 obtain ⟨⟨o, vs, q1, q2, q3, q4, q5, q6⟩, _⟩ := I.hok e _ he
 obtain ⟨mA, ns, r⟩ := I.hok dx _ hd
 obtain ⟨u, hu, ru⟩ := RelO.some_of (v := v) (o := mA f) (by rw [← l]; exact r f)
 obtain ⟨oD, g1, g2⟩ := Gd ns
 obtain ⟨cd, c1, c2, c3⟩ := x.cls
 have ia : PySem.W.InstAt s.heap e o C (some oD) := ⟨q1, q2, by unfold PySem.W.notCls; rw [q4], by rw [q3]; exact g1⟩
 have hh : PySem.W.hasDictIn X.K C = true := by unfold PySem.W.hasDictIn; rw [c1]; exact c3
 refine R1 I.kIn ia x.ga x.gt ?_ (PySem.W.findObj_own hh n rfl (by rw [g2, hu])) (H_ ru) (h u _ (I.tok _) ru)
 show PySem.W.mroIn X.K C _ = _
 unfold PySem.W.mroIn
 rw [c1, Option.bind_some, c2]
 rfl
end
end EX
namespace EX
open PySem PySem.Spec L2
open PyProof.Rows hiding St
section
variable {X : Cx} {a b : Expr} {es : List Expr} {t : TA} {p pos apos : Pos} {x : Str} {R : Addr}
def PP (X : Cx) (c : St → Prop) (e : Expr) : Prop := ∀ (pins : List (Addr × Obj)) (s : Shared) (σ : St) (H : Hp), Inv X pins σ H s → c σ →
 wpAny (model X.prog X.w) X.A (eval e X.env) (fun v s' => ∃ y t, v = .str y t ∧ y.length ≤ 2000000 ∧ Inv X pins σ H s') X.xe s
theorem Va {c : St → Prop} {z : Str} {j} (h : z.length ≤ 2000000 := by decide) : PP X c (.Constant (.str z) j pos) := fun pins s σ H I _ => Calls.Constant_str ⟨z, _, rfl, h, I.tok _⟩
def QV (i : Nat) (σ : St) : Prop := ∃ z : Str, σ[i]? = some (some (.str z)) ∧ z.length ≤ 100000 ∧ ∀ c ∈ z.cps.toList, c < 16 ^ 8
theorem R6 {i : Nat} {e : Expr} (h : PE X e (tVar i)) : PP X (QV i) (.FormattedValue e 114 none pos) := fun pins s σ H I ⟨z, h1, h2, h3⟩ => by
 refine wpAny_FormattedValue_repr (thn (h pins s σ H (fun v H' => v = .str z ∧ H' = H) I ⟨_, h1, rfl, rfl⟩) fun u s1 ⟨v, H1, I1, r1, q1, q2⟩ => ?_)
 subst q1 q2
 obtain ⟨t, rfl⟩ := (show ∃ t, u = Value.str z t from r1)
 have hl : (reprText z).length ≤ 2000000 := by have := PySem.StrLaws.reprText_len z h3; omega
 refine wpAny_pyReprObj_str ?_ (PV.Dz (by omega))
 exact wpAny_formatField_str ⟨_, _, rfl, hl, I1.tok _⟩ ⟨_, _, rfl, hl, (I1.tok _).tok _⟩ (PV.Dz (by omega))
theorem MT (y : Str) : (Str.empty ++ y).length = y.length := by rw [PV.HR]; simp [Str.length, Str.empty]
def tTxt (c : St → Prop) : TE := fun σ H Q => c σ ∧ ∀ y, Q (.str y) H
theorem QW {c : St → Prop} {e1 e2 : Expr} (h1 : PP X c e1) (h2 : PP X c e2) : PE X (.JoinedStr [e1, e2] pos) (tTxt c) := fun pins s σ H Q I ⟨hc, q⟩ => by
 refine wpAny_JoinedStr ?_
 refine thn (h1 pins s σ H I hc) fun v s1 ⟨y, t, e, l, I1⟩ => ⟨y, t, e, PV.Dz (by rw [MT]; omega), ?_⟩
 have b2 : ∀ y2 : Str, y2.length ≤ 2000000 → (Str.empty ++ y ++ y2).length ≤ sizeLine := fun y2 l2 => PV.Dz (by rw [PV.HR, MT]; omega)
 exact thn (h2 pins s1 σ H I1 hc) fun v s2 ⟨y2, t2, e2, l2, I2⟩ => ⟨y2, t2, e2, b2 y2 l2, b2 y2 l2, ⟨.str _, H, I2.tok _, ⟨_, rfl⟩, q _⟩⟩
def tSup (K : PySem.W.Frag) (t : TA) : TE := fun σ H Q => t σ H fun vs H1 => ∃ e y C R od tb, vs = [.ref e, .str y] ∧ H1 e = some (excO e C od tb) ∧ XC K C R ∧ Q .non H1
theorem QX {pl : Sem Bool} (hg : Gl X x) (hm : X.mg x = some (.ref R)) (h1 : PySem.W.specialIn X.K (.ref R) "__getattribute__" = some (some (.builtin "type.__getattribute__"))) (h2 : PySem.W.readsIn X.K R (.type "type") = true)
  (h3 : PySem.W.findCls X.K (.ref R) (.type "type") "__init__" = some (.val (.builtin "ValueError.__init__"))) (ha : PA X (a :: es) t) (hdb : (x == ("__debug__" : Str)) = false := by decide)
  (hst : starEach (a :: es) X.env = (false, eval a X.env) :: starEach es X.env := by rfl) (hpl : (backTo pos (starEach es X.env)).any (·.1) = false := by rfl)
  (ht : eval (.Call (.Attribute (.Name x p) "__init__" apos) (a :: es) [] pos) X.env = (do
   let ov ← eval (.Name x p) X.env
   standAt apos.atName
   let (f, first) ← holding [ov] (getMethod ov "__init__" pl)
   callWith pos f first (backTo pos (starEach (a :: es) X.env)) (backToKw pos (keywordEach [] X.env))) := by rfl) :
  PE X (.Call (.Attribute (.Name x p) "__init__" apos) (a :: es) [] pos) (tSup X.K t) := by
 intro pins s σ H Q I h
 refine PySem.W.methodCall_KW (pl := pl) (Dv I hg hm ?_ hdb) ht
 refine PySem.W.method_cls I.kIn h1 (PySem.W.cls_value I.kIn h2 h3 rfl ?_)
 refine callWith_builtin1 (thn (ha pos pins _ σ H _ (I.tok _) h) fun us s1 ⟨vs, H1, I1, r, e, y, C, R', od, tb, ev, he, xc, q⟩ => ?_) hst hpl
 subst ev
 cases r with
 | cons r1 r =>
  cases r with
  | cons r2 r =>
   cases r
   obtain rfl := (show _ = Value.ref e from r1)
   exact QT I1 he xc fun s' I' => ⟨.non, H1, I', rfl, q⟩
end
end EX
namespace EX
open PySem PySem.Spec L2
open PyProof.Rows hiding St
section
variable {X : Cx} {o value : Expr} {ta tv : TE} {pos pos' : Pos} {f : Str}
def sXf (K : PySem.W.Frag) (ta tv : TE) (f : Str) : TS := fun D σ H => tv σ H fun y H1 => ta σ H1 fun x H2 => ∃ e C R tb, x = .ref e ∧ H2 e = some (excO e C none tb) ∧ XC K C R ∧ BW K C f ∧
 ∀ dx, H2 dx = none → D.nx σ (upd (upd H2 dx (.xd [(f, y)])) e (excO e C (some dx) tb))
theorem R7 (ha : PE X o ta) (hv : PE X value tv) (hs : swapsWith value (some (.Attribute o f pos')) pos.line X.env = pure false) : PS X (.Assign [.Attribute o f pos'] value pos) (sXf X.K ta tv f) := by
 intro pins s σ H D I h
 refine plainObj_wpAny_Assign_Attribute (thn (hv pins s σ H _ I h) fun u s1 ⟨y, H1, I1, ry, q⟩ => thn (ha pins s1 σ H1 _ I1 q) fun ov s2 ⟨x, H2, I2, rx, e, C, R, tb, ex, ea, c, n, q2⟩ => ?_) hs
 subst ex
 obtain rfl : ov = Value.ref e := rx
 exact R4 I2 ea c n ry fun dx s3 hd I3 => ⟨σ, _, I3, q2 dx hd⟩
end
def spE (K : PySem.W.Frag) (f : Str) (c : V → Prop) : Sp := fun vs H Q _ => ∃ e y C R, vs = [.ref e, y] ∧ H e = some (excO e C none none) ∧ XC K C R ∧ BW K C f ∧ c y ∧ ∀ dx, H dx = none → Q .non (upd (upd H dx (.xd [(f, y)])) e (excO e C (some dx) none))
theorem M9 {K : PySem.W.Frag} {f : Str} {c : V → Prop} {cs : St → Prop} {vs : List V} {H : Hp} {Q : VK} {E : XK} {N : List Str} (h : spE K f c vs H Q E) (hN : N.length = 2) (hc : ∀ e y, c y → cs [some (.ref e), some y]) :
  tSeq (Sv (tSup K (K5 (tVar 0) (K5 (tTxt cs) tNil)))) (sXf K (tVar 0) (tVar 1) f) { nx := fun _ H' => Q .non H', rt := Q } (start N vs) H := by
 obtain ⟨e, y, C, R, rfl, he, xc, n, cy, q⟩ := h
 have st : start N [.ref e, y] = [some (.ref e), some y] := by unfold L2.start; rw [hN]; rfl
 rw [st]
 exact ⟨_, rfl, hc e y cy, fun z => ⟨e, z, C, R, none, none, rfl, he, xc, _, rfl, _, rfl, e, C, R, none, rfl, he, xc, n, q⟩⟩
theorem R8 {K : PySem.W.Frag} {f : Str} {c : V → Prop} {vs : List V} {H : Hp} {Q : VK} {E : XK} (h : spE K f c vs H Q E) : vs.length = 2 := by
 obtain ⟨e, y, C, R, rfl, _⟩ := h
 rfl
def okS (y : V) : Prop := ∃ z : Str, y = .str z ∧ z.length ≤ 100000 ∧ ∀ c ∈ z.cps.toList, c < 16 ^ 8
theorem Vb (e : Addr) (y : V) (h : okS y) : QV 1 [some (.ref e), some y] := by obtain ⟨n, rfl, h⟩ := h; exact ⟨n, rfl, h⟩
section
variable {X : Cx} {pins : List (Addr × Obj)} {σ : St} {H : Hp} {s : Shared} {C R fi : Addr} {k : Nat} {fd : FuncData} {ps : List Str} {f : Str} {c : V → Prop}
theorem Inv.exc {us : List Value} (I : Inv X pins σ H s) : Inv X pins σ (upd H (s.heap.objs.size + 1) (excO (s.heap.objs.size + 1) C none none)) { s with heap := (s.heap.push (Di us)).push (EY C s.heap.objs.size) } := by
 have I1 := I.kept (h' := s.heap.push (Di us)) (t' := s.toks) fun b v z => Heap.get?_push_of_some _ z
 have hs : (s.heap.push (Di us)).objs.size = s.heap.objs.size + 1 := by simp [Heap.size_push]
 refine I1.laid (a := s.heap.objs.size + 1) (h' := (s.heap.push (Di us)).push (EY C s.heap.objs.size)) (t' := s.toks) (fun b v z => Heap.get?_push_of_some _ z) (Nat.le_of_eq hs) ?_
 have g := Heap.get?_push_size (s.heap.push (Di us)) (o := EY C s.heap.objs.size) rfl
 rw [hs] at g
 exact ExcP.ok ⟨_, _, g, rfl, rfl, rfl, rfl, rfl⟩
theorem R9 {Q : VK} {us : List Value} {y : V} (x : XC X.K C R) (hi : PySem.W.findIn X.K (.ref C) "__init__" = some (some (.ref fi))) (hf : PySem.W.isFn X.K (.ref fi) = true) (n : BW X.K C f)
  (F : FnOk X.prog X.w X.K X.mg X.base CX0 k fi fd ps (spE X.K f c)) (hr : Room (k + 1) X.A) (hb : Binds X.K fd ps []) (I : Inv X pins σ H s) (r : Vals [y] us) (cy : c y)
  (h : ∀ e dx, H e = none → H dx = none → dx ≠ e → Q (.ref e) (upd (upd H dx (.xd [(f, y)])) e (excO e C (some dx) none))) : wpAny (model X.prog X.w) X.A (call (.ref C) us) (EP X pins σ Q) X.xe s := by
 have I2 := Inv.exc (C := C) (us := us) I
 have hfe : H (s.heap.objs.size + 1) = none := I.hok.fresh (Nat.le_succ _)
 have sp : spE X.K f c [.ref (s.heap.objs.size + 1), y] (upd H (s.heap.objs.size + 1) (excO (s.heap.objs.size + 1) C none none)) (fun v H2 => v = .non ∧ Q (.ref (s.heap.objs.size + 1)) H2) E0 := by
  refine ⟨_, y, C, R, rfl, Ag, x, n, cy, fun dx hd => ⟨rfl, ?_⟩⟩
  have ne : dx ≠ s.heap.objs.size + 1 := fun z => by rw [z, Ag] at hd; cases hd
  rw [Ad ne] at hd
  have := h _ dx hfe hd ne
  have e : upd (upd (upd H (s.heap.objs.size + 1) (excO (s.heap.objs.size + 1) C none none)) dx (.xd [(f, y)])) (s.heap.objs.size + 1) (excO (s.heap.objs.size + 1) C (some dx) none) = upd (upd H dx (.xd [(f, y)])) (s.heap.objs.size + 1) (excO (s.heap.objs.size + 1) C (some dx) none) := by
   funext b
   unfold upd
   split <;> rfl
  rw [e]
  exact this
 have r2 : Vals [V.ref (s.heap.objs.size + 1), y] (Value.ref (s.heap.objs.size + 1) :: us) := .cons rfl r
 have hl : (Value.ref (s.heap.objs.size + 1) :: us).length = ps.length := by rw [← r2.length]; exact F.len _ _ _ _ sp
 have hb' := hb { s with heap := (s.heap.push (Di us)).push (EY C s.heap.objs.size) } (Value.ref (s.heap.objs.size + 1) :: us) I2.kIn (by rw [List.append_nil]; exact hl)
 rw [List.append_nil] at hb'
 have hus : us.length ≤ sizeLine := by rw [← r.length]; exact PV.Dz (by show 1 ≤ _; decide)
 obtain ⟨nm, qn, N, bs, bm, hdct, sn, sub, ab, col, dd, k0, k1, k2, k3, k5, hC, T⟩ := GR I.kIn x.obj
 have KI := I.kIn
 have run := F.run _ X.stack _ _ ⟨Value.ref (s.heap.objs.size + 1) :: us, []⟩ (Value.ref (s.heap.objs.size + 1) :: us) _ _ E0 (hr.make C us []) (I2.env0.make C us []) hb' r2 sp
 obtain ⟨hp, g, d, t, os⟩ := s
 refine wpAny_call (QS PySem.F.excBase_ValueError T hC (PySem.W.looks_findIn KI hi) (fun self => PySem.W.bind_fn KI self (beq_iff_eq.mp hf)) (codeAny_mono run fun r s' hq' => ?_) hus)
 cases r with
 | error e => exact hq'.elim
 | ok fl =>
  cases fl with
  | ret u =>
   obtain ⟨v, H', I3, rv, ev, q3⟩ := I2.after hq'
   subst ev
   exact ⟨rv, ⟨V.ref (hp.objs.size + 1), H', I3, rfl, q3⟩⟩
  | next => exact False.elim hq'
  | brk => exact False.elim hq'
  | cont => exact False.elim hq'
end
end EX
namespace EX
open PySem PySem.Spec L2
open PyProof.Rows hiding St
section
variable {M : Model} {A : Around} {E : Value → Shared → Prop} {env : Env} {K : PySem.W.Frag}
theorem QZ {s : Shared} {x : Sem Value} {Q : Flow → Shared → Prop} (hh : A.handled = none)
  (h : wpAny M A x (fun v s₁ => ∃ e C od, v = .ref e ∧ ExcP e C od none s₁.heap ∧ K.In s₁.heap ∧ excX K C = true ∧ E (.ref e) s₁) E s) : wpAny M A (raiseStmt env (some x) none) Q E s := by
 unfold raiseStmt
 refine wpAny_bind (wpAny_mono h (fun v s₁ h₁ => ?_) fun _ _ x => x)
 obtain ⟨e, C, od, rfl, ⟨o, vs, q1, q2, q3, q4, q5, q6⟩, KI, hx, hE⟩ := h₁
 obtain ⟨nm, qn, N, bs, bm, hdct, sn, sub, ab, col, dd, k0, k1, k2, k3, k5, hC, T⟩ := GR KI hx
 have hcB : (Value.ref C :: bm).contains (.type "BaseException") = true := by rw [List.contains_cons, T.hasType (by decide +kernel : bmV.contains (.type "BaseException") = true), Bool.or_true]
 obtain ⟨hp, g, d, tk, os⟩ := s₁
 obtain ⟨oc, odi, oda, osl⟩ := o
 dsimp only at q2 q3 q4
 subst q2 q4
 have h6 : vs[1]? = some Value.none := q6
 repeat (first | with_reducible refine wpAny_loadPart_at q1 ?_ | with_reducible refine wpAny_loadPart_at hC ?_ | (with_reducible refine wpAny_isSubtype_exc hC ?_; rw [hcB]) | with_reducible refine wpAny_field q1 rfl h6 ?_ | wp_step)
 exact wpAny_raiseNew_none hh hE
end
end EX
namespace PV
open PySem PySem.Spec L2 EX
open PyProof.Rows hiding St
def excF (c f : Str) (ok : D → Bool) (fa : FE) : FE := fun ρ => (fa ρ).bind fun d => if ok d = true then some (.exc c [(f, d)]) else none
section
variable {X : Cx} {G : Gx} {a : Expr} {fa : FE} {np cpos pos : Pos} {C R fi : Addr} {k : Nat} {fd : FuncData} {ps : List Str} {f cx cn : Str} {c : V → Prop} {ok : D → Bool}
theorem Qa {H : Hp} {v y : V} {d : D} (r : Rep G H v d) (h : flV d = some y) : v = y := by
 cases r <;> first | (cases h; rfl) | (cases h)
theorem M_ (x : XC X.K C R) (hi : PySem.W.findIn X.K (.ref C) "__init__" = some (some (.ref fi))) (hf : PySem.W.isFn X.K (.ref fi) = true) (kp : PySem.W.keepIn X.K (.ref C) = true) (n : BW X.K C f)
  (F : FnOk X.prog X.w X.K X.mg X.base CX0 k fi fd ps (spE X.K f c)) (hr : Room (k + 1) X.A) (hb : Binds X.K fd ps []) (hg : Gl X cx) (hm : X.mg cx = some (.ref C)) (hcl : G.xcl cn = some C) (hc : X.calm = true) (hok : ∀ d, ok d = true → ∃ y, flV d = some y ∧ c y)
  (ha : PF X G a fa) (hdb : (cx == ("__debug__" : Str)) = false := by decide) (he : starEach [a] X.env = [(false, eval a X.env)] := by rfl) (hpl : (backTo cpos (starEach [] X.env)).any (·.1) = false := by rfl) :
  PSZ X G (.Raise (some (.Call (.Name cx np) [a] [] cpos)) none pos) (retF (excF cn f ok fa)) := fun A0 He pins s σ H D I ⟨ρ, o, ⟨A, w⟩, e, k, kx⟩ => by
 unfold retF excF at e
 cases e1 : fa ρ with
 | none => simp [e1] at e
 | some d =>
  rw [e1] at e
  by_cases hd : ok d = true
  ·simp only [Option.bind_some, hd, if_true, Option.map_some] at e
   cases e
   obtain ⟨y, hy, cy⟩ := hok d hd
   have kx : Rz X G A0 He cn [(f, d)] ρ := kx cn [(f, d)] rfl
   have call : wpAny (model X.prog X.w) X.A (eval (.Call (.Name cx np) [a] [] cpos) X.env) (fun v s₁ => ∃ e C od, v = .ref e ∧ ExcP e C od none s₁.heap ∧ X.K.In s₁.heap ∧ excX X.K C = true ∧ X.xe (.ref e) s₁) X.xe s := by
    refine wpAny_Call_Name_kw (Dv I hg hm ?_ hdb)
    have pa := Bs (@ha A) Fo he cpos pins s σ H (fun vs H1 => vs = [y] ∧ OkW G A0 He A σ H1 ρ) I ⟨ρ, d, w.ok, e1, fun v H1 s1 r1 => ⟨by rw [Qa r1 hy], w.mono s1⟩⟩
    refine PySem.W.callWith_K (h₀ := X.base) I.ok.mod.kin kp (thn pa fun us s1 ⟨vs, H1, I1, r, ev, w1⟩ => ⟨I1.kIn, ?_⟩) he hpl
    ·subst ev
     refine thn (R9 (Q := fun v H2 => ∃ e dx, v = .ref e ∧ H1 e = none ∧ H1 dx = none ∧ dx ≠ e ∧ H2 = upd (upd H1 dx (.xd [(f, y)])) e (excO e C (some dx) none)) x hi hf n F hr hb I1 r cy fun e dx h1 h2 h3 => ⟨e, dx, rfl, h1, h2, h3, rfl⟩) fun u s2 ⟨v2, H2, I2, r2, e, dx, ev, h1, h2, h3, eH⟩ => ?_
     subst ev eH
     obtain rfl : u = Value.ref e := r2
     refine ⟨e, C, some dx, rfl, (I2.hok e _ Ag).1, I2.kIn, x.obj, ?_⟩
     refine kx pins σ H1 _ s2 e none I2 ⟨A, w1⟩ ⟨⟨C, dx, [(f, y)], hcl, Ag, by rw [Ad h3]; exact Ag, ?_, h2⟩, fun b u q => ?_, h1, fun T z => nomatch z⟩
     ·simp [FsV, hy]
     ·rw [Ad (Af q h1), Ad (Af q h2)]; exact q
   show wpAny _ _ (exec (.Raise (some (.Call (.Name cx np) [a] [] cpos)) none pos) X.env) _ _ _
   rw [arm_exec_Raise]
   refine wpAny_bind (wpAny_standAt (QZ (K := X.K) (I.ok.hd hc) ?_))
   exact wpAny_bind (thn call fun v s1 q => wpAny_bind (wpAny_standAt (wpAny_pure q)))
  ·simp [hd] at e
end
end PV
namespace EX
open PySem PySem.Spec L2
open PyProof.Rows hiding St
abbrev Cx.mk2 (X : Cx) (e : Addr) : Cx := { X with A := X.A.mark (some (.ref e)), calm := false, xe := fun _ _ => False }
section
variable {X : Cx} {pins : List (Addr × Obj)} {σ : St} {H : Hp} {s : Shared} {e C R : Addr} {K : PySem.W.Frag}
theorem J6 (I : Inv X pins σ H s) : Inv (Cx.mk2 X e) pins σ H s :=
 ⟨⟨I.ok.mod, I.ok.kind, I.ok.glob, I.ok.blt, I.ok.above, I.ok.inj, I.ok.has, I.ok.cab, (fun z => nomatch z), I.ok.frames, I.ok.stk, I.ok.exf, I.ok.bs, I.ok.bsz, I.ok.noex, I.ok.exfs, I.ok.funs, I.ok.frf⟩, I.os, I.bare, I.base, I.loc, I.cell, I.free, I.freeC, I.pin, I.hok, I.len⟩
theorem Hm (ok : X.Ok) (I : Inv (Cx.mk2 X e) pins σ H s) : Inv X pins σ H s := ⟨ok, I.os, I.bare, I.base, I.loc, I.cell, I.free, I.freeC, I.pin, I.hok, I.len⟩
abbrev Cx.tr (X : Cx) (E : Value → Shared → Prop) (pn : List (Addr × Obj)) : Cx := { X with xe := E, pn := pn }
theorem WF {E : Value → Shared → Prop} {pn : List (Addr × Obj)} (ok : X.Ok) : (Cx.tr X E pn).Ok := ⟨ok.mod, ok.kind, ok.glob, ok.blt, ok.above, ok.inj, ok.has, ok.cab, ok.hd, ok.frames, ok.stk, ok.exf, ok.bs, ok.bsz, ok.noex, ok.exfs, ok.funs, ok.frf⟩
theorem Vc {E : Value → Shared → Prop} (I : Inv X pins σ H s) : Inv (Cx.tr X E (X.pn ++ pins)) [] σ H s := ⟨WF I.ok, I.os, I.bare, I.base, I.loc, I.cell, I.free, I.freeC, fun p hp => I.pin p (by simpa using hp), I.hok, I.len⟩
theorem Es {E : Value → Shared → Prop} {pins' : List (Addr × Obj)} (ok : X.Ok) (I : Inv (Cx.tr X E (X.pn ++ pins)) pins' σ H s) : Inv X pins σ H s := ⟨ok, I.os, I.bare, I.base, I.loc, I.cell, I.free, I.freeC, fun p hp => I.pin p (List.mem_append_left _ hp), I.hok, I.len⟩
theorem G6 {E : Value → Shared → Prop} {pins' : List (Addr × Obj)} {D : Ends} {f : Flow} {s' : Shared} (ok : X.Ok) (h : SP (Cx.tr X E (X.pn ++ pins)) pins' D f s') : SP X pins D f s' := by
 cases f with
 | next => obtain ⟨σ', H', I, q⟩ := h; exact ⟨σ', H', Es ok I, q⟩
 | brk => obtain ⟨σ', H', I, q⟩ := h; exact ⟨σ', H', Es ok I, q⟩
 | cont => obtain ⟨σ', H', I, q⟩ := h; exact ⟨σ', H', Es ok I, q⟩
 | ret u => obtain ⟨v, σ', H', I, r, q⟩ := h; exact ⟨v, σ', H', Es ok I, r, q⟩
theorem Qc {M : Model} {A : Around} {E : Value → Shared → Prop} {Q : Unit → Shared → Prop} {od : Option Addr} {T : Addr} (I : Inv X pins σ H s) (he : H e = some (excO e C od (some T))) (ht : H T = some (tbO T .none)) (k : ∀ s', Inv X pins σ H s' → Q () s') : wpAny M A (setFlight (.ref e) none) Q E s := by
 obtain ⟨⟨o, vs, q1, q2, q3, q4, q5, q6⟩, _⟩ := I.hok e _ he
 obtain ⟨⟨oT, ts, r1, r2, r3, r4⟩, _⟩ := I.hok T _ ht
 have z3 : 3 < ts.size := (Array.getElem?_eq_some_iff.mp r3).1
 unfold setFlight
 refine wpAny_bind (wpAny_field q1 q4 q6 ?_)
 rw [if_pos (show (tbV (some T) != Value.none) = true from by simp [tbV])]
 refine wpAny_setField r1 r2 z3 (k _ ?_)
 have I1 := GK (u' := tbO T .none) (i := 3) (v := (none : Option Addr).elim Value.none fun f => rawInt f) I ht trivial r1 r2 fun h' o' y1 y2 y3 y4 => TbP.ok ⟨o', _, y1, y4, by simp [z3], y2.trans r4⟩
 rwa [J5 ht] at I1
theorem Ma {M : Model} {A : Around} {E : Value → Shared → Prop} {Q : Unit → Shared → Prop} {i : Nat} {n : Str} {pos : Pos} (I : Inv X pins σ H s) (hN : X.N.Nodup) (hi : X.N[i]? = some n) (hk : X.env.kindOf n = some .local)
  (h : ∀ s', Inv X pins (σ.set i none) H s' → Q () s') : wpAny M A (do bindName X.env n .none; unbindBehindTheSuite X.env n pos) Q E s := by
 obtain ⟨m, hn, hl⟩ := I.loc
 have hcls : (X.env.scope.kind == .class || (X.env.scope.kind == .module && X.env.locals != X.env.globals)) = false := by rw [I.ok.kind]; rfl
 have cne := I.cne
 obtain ⟨oL, _, _, hoL, _⟩ := id hn
 refine wpAny_nameGoes_keeps hk hn hcls fun h' v hn' hs => h _ ?_
 have ne : ∀ b o, X.s₀.heap.get? b = some o → b ≠ X.env.locals := fun b o z => Nat.ne_of_lt (Nat.lt_of_lt_of_le (Heap.lt_size z) I.ok.above)
 refine ⟨I.ok, I.os, I.bare, ⟨fun b o z n hb hx => (hs.2 b (ne b o z)).trans (I.base.keep b o z n hb hx), fun b o z n hb hx => ?_, I.base.free, fun b o z hx => ?_, I.base.tups, I.base.frzs, I.base.tbls⟩, ⟨_, hn', fun j y v' e1 e2 e3 => ?_⟩, fun y c z => ?_, I.free, I.freeC, fun p hp => ?_, fun b ob z => ?_, by simpa using I.len⟩
 ·obtain ⟨sl, e1⟩ := I.base.slot b o z n hb hx
  exact ⟨sl, (hs.2 b (ne b o z)).trans e1⟩
 ·obtain ⟨o', e1⟩ := I.base.there b o z hx
  exact ⟨o', (hs.2 b (ne b o z)).trans e1⟩
 ·by_cases hj : j = i
  ·subst hj
   rw [List.getElem?_set] at e2
   split at e2
   ·split at e2 <;> cases e2
   ·rename_i z; exact absurd rfl z
  ·rw [List.getElem?_set_ne (Ne.symm hj)] at e2
   obtain ⟨u', r', q⟩ := hl j y v' e1 e2 e3
   refine ⟨u', r', ?_⟩
   rcases q with ⟨k, z⟩ | ⟨k, c, z, z'⟩
   ·refine .inl ⟨k, ?_⟩
    have : y ≠ n := fun w => hj (G7 hN e1 (w ▸ hi))
    simp [this, z]
   ·exact .inr ⟨k, c, z, z'.sameBut hs (cne y c z)⟩
 ·obtain ⟨w', z'⟩ := I.cell y c z
  exact ⟨w', z'.sameBut hs (cne y c z)⟩
 ·obtain ⟨z, n, ne, nf, d⟩ := I.pin p hp
  exact ⟨(hs.2 p.1 ne).trans z, n, ne, nf, d⟩
 ·refine (I.hok b ob z).stay (fun c w' hc q => (hs.2 c ?_).trans q) (fun _ q => q) fun _ _ q => q
  rintro rfl
  rcases hc with hc | hc
  ·rw [← hc, I.free] at z; cases z
  ·rw [I.free] at hc; cases hc
theorem JW {M : Model} {A : Around} {E : Value → Shared → Prop} {Q : Bool → Shared → Prop} {oe : Obj} (KI : K.In s.heap) {R' : Addr} (hR : excX K R = true) (xc : XC K C R') (hRR : R = R' ∨ R = C) (he : s.heap.get? e = some oe) (hcls : oe.cls = .ref C) (hq : Q true s) :
  wpAny M A (excMatches (.ref e) (.ref R)) Q E s := by
 obtain ⟨nm, qn, N, bs, bm, hdct, sn, sub, ab, col, dd, k0, k1, k2, k3, k5, hC, T⟩ := GR KI hR
 obtain ⟨cd, c1, c2, c3⟩ := xc.cls
 have L : PySem.W.Looks M s.heap (isSubtype (.ref C) (.ref R)) true := PySem.W.looks_subIn KI (by show PySem.W.mroIn K C _ = _; unfold PySem.W.mroIn; rw [c1, Option.bind_some, c2]; rcases hRR with rfl | rfl <;> simp)
 have hcB : (Value.ref R :: bm).contains (.type "BaseException") = true := by rw [List.contains_cons, T.hasType (by decide +kernel : bmV.contains (.type "BaseException") = true), Bool.or_true]
 have f := tc_notTuple
 obtain ⟨hp, g, d, t, os⟩ := s
 unfold excMatches
 repeat (first | (with_reducible refine wpAny_loadPart_at he ?_; rw [hcls]) | with_reducible refine wpAny_loadPart_at hC ?_ | (with_reducible refine wpAny_isSubtype_exc hC ?_; rw [hcB]) | with_reducible refine L.at ?_ | wp_step)
 exact hq
end
end EX
namespace PV
open PySem PySem.Spec L2 EX
open PyProof.Rows hiding St
def offO (i : Nat) (o : Option Out) : Option Out := match o with
 | some (.nx ρ) => some (.nx (ρ.set i .un))
 | some (.rt d ρ) => some (.rt d (ρ.set i .un))
 | _ => none
def tryO (cs : List Str) (i : Nat) (h : FS) (o : Option Out) : Option Out := match o with
 | some (.rt d ρ) => (match excOf d with
  | some (c, gs) => if cs.contains c = true then offO i (h (ρ.set i (.fz (.err c gs)))) else none
  | none => some (.rt d ρ))
 | o => o
def tryF (cs : List Str) (i : Nat) (g h : FS) : FS := fun ρ => tryO cs i h (g ρ)
section
variable {X : Cx} {G : Gx} {A0 A : List Addr} {He H : Hp} {σ : St} {ρ : Rho}
theorem OkW.unset (w : OkW G A0 He A σ H ρ) (i : Nat) : OkW G A0 He A (σ.set i none) H (ρ.set i .un) := by
 have key : ∀ (j : Nat) (z : Slot), z ≠ .un → (ρ.set i .un)[j]? = some z → j ≠ i ∧ ρ[j]? = some z := fun j z nz h => by
  by_cases hj : j = i
  ·subst hj
   rw [List.getElem?_set] at h
   split at h
   ·split at h
    ·cases h; exact absurd rfl nz
    ·cases h
   ·rename_i q; exact absurd rfl q
  ·rw [List.getElem?_set_ne (Ne.symm hj)] at h; exact ⟨hj, h⟩
 have ks : ∀ (j : Nat), j ≠ i → (σ.set i none)[j]? = σ[j]? := fun j hj => List.getElem?_set_ne (Ne.symm hj)
 refine ⟨w.same, w.sub, w.fr, w.l0, ⟨by rw [List.length_set, List.length_set]; exact w.ok.len, w.ok.live, fun j d h => ?_, fun j d h => ?_, fun j k d e a h1 h2 h3 h4 => ?_⟩, fun j d a h1 h2 => ?_, fun x d hx h0 => ?_⟩
 ·obtain ⟨hj, h⟩ := key j _ (by simp) h; rw [ks j hj]; exact w.ok.fz j d h
 ·obtain ⟨hj, h⟩ := key j _ (by simp) h; rw [ks j hj]; exact w.ok.ow j d h
 ·obtain ⟨hj, h1⟩ := key j _ (by simp) h1
  obtain ⟨hk, h2⟩ := key k _ (by simp) h2
  rw [ks j hj] at h3
  rw [ks k hk] at h4
  exact w.ok.inj j k d e a h1 h2 h3 h4
 ·obtain ⟨hj, h1⟩ := key j _ (by simp) h1
  rw [ks j hj] at h2
  exact w.ow0 j d a h1 h2
 ·obtain ⟨hj, h0⟩ := key 0 _ (by simp) h0
  rw [ks 0 hj]
  exact w.lt x d hx h0
theorem R_ {cs : List Str} {i : Nat} {n rx : Str} {R : Addr} {body suite : List Stmt} {b0 : Stmt} {np hpos pos : Pos} {g h : FS} (hst : X.stack = X.env :: X.outer) (hf : X.env.frame = some X.env.locals) (hN : X.N.Nodup) (hi : X.N[i]? = some n) (hk : X.env.kindOf n = some .local) (hg : Gl X rx) (hm : X.mg rx = some (.ref R)) (hR : excX X.K R = true)
  (hcl : ∀ c C, cs.contains c = true → G.xcl c = some C → ∃ R', XC X.K C R' ∧ (R = R' ∨ R = C)) (hb : ∀ E pn, PSZs (Cx.tr X E pn) G body g) (hs : ∀ e, PSDs (Cx.mk2 X e) G (b0 :: suite) h) (hdb : (rx == ("__debug__" : Str)) = false := by decide) :
  PSD X G (.Try body [.ExceptHandler (some (.Name rx np)) (some n) (b0 :: suite) hpos] [] [] pos) (tryF cs i g h) := fun A0 He pins s σ H D I ⟨ρ, o, ok, e, k⟩ => by
 refine wpAny_Try_except ?_
 unfold tryF at e
 cases e1 : g ρ with
 | none => rw [e1] at e; cases e
 | some o1 =>
  rw [e1] at e
  have fin : ∀ {E' : Value → Shared → Prop} (f : Flow) (s1 : Shared), SP (Cx.tr X E' (X.pn ++ pins)) [] D f s1 → (match f with | .next => wpAny (model X.prog X.w) X.A (execs [] X.env) (SP X pins D) X.xe s1 | f => SP X pins D f s1) := fun f s1 q => by
   cases f with
   | next => exact wpAny_execs_nil (G6 I.ok q)
   | brk => exact G6 I.ok q
   | cont => exact G6 I.ok q
   | ret u => exact G6 I.ok q
  refine wpAny_mono (hb (fun e s1 => wpAny (model X.prog X.w) X.A (noteFrame e X.env) (fun _ s2 => wpAny (model X.prog X.w) X.A (setFlight e none) (fun _ s3 => wpAny (model X.prog X.w) X.A (handleBy e X.env [.ExceptHandler (some (.Name rx np)) (some n) (b0 :: suite) hpos]) (SP X pins D) X.xe s3) X.xe s2) X.xe s1) (X.pn ++ pins) He [] s σ H D (Vc I) ⟨ρ, o1, ok, e1, ?_, ?_⟩) (fun f s1 q => fin f s1 q) fun e s1 q => q
  ·cases o1 with
   | nx ρ' => cases e; exact k
   | bk ρ' => cases e; exact k
   | ct ρ' => cases e; exact k
   | rt d ρ' =>
    cases e2 : excOf d with
    | none => simp only [tryO, e2] at e; cases e; exact k
    | some q => exact fun v σ' H' A w r => absurd e2 (by rw [Gj r]; simp)
  ·cases o1 with
   | nx ρ' => trivial
   | bk ρ' => trivial
   | ct ρ' => trivial
   | rt d ρ' =>
    intro c gs e2 pins' σ1 H1 H2 s2 ea tb I2 ⟨A1, w1⟩ x
    simp only [tryO, e2] at e
    by_cases hc : cs.contains c = true
    ·rw [if_pos hc] at e
     have I2 := Es I.ok I2
     refine Hk hst hf I2 x fun T H3 s3 I3 x3 => ?_
     obtain ⟨C, dx, fs, y1, y2, y3, y4, y5⟩ := x3.ex
     obtain ⟨R', xc, hRR⟩ := hcl c C hc y1
     have w3 := w1.mono x3.same
     obtain ⟨⟨oe, vs, q1, q2, q3, q4, q5, q6⟩, _⟩ := I3.hok ea _ y2
     refine wpAny_handleBy_cons (codeAny_handlers_test ?_) (by intro q; cases q)
     refine Dv (X := Cx.mk2 X ea) (J6 I3) hg hm ?_ hdb
     refine JW I3.kIn hR xc hRR q1 q2 ?_
     refine codeAny_handlers_suite_as (Qc I3 y2 (x3.tbk T rfl).1 fun s4 I4 => ?_)
     have noA : ∀ b, H1 b = none → b ∉ A1 := fun b z q => (w1.ok.live b q).ne z
     have rp : Rep G (hid A1 H3) (.ref ea) (.err c gs) := .err y1 (by rw [BR (noA ea x3.new)]; exact y2) (by rw [BR (noA dx y5)]; exact y3) y4
     refine GF (X := Cx.mk2 X ea) (J6 I4) hN hi (Or.inl hk) (show RelV (.ref ea) (.ref ea) from rfl) (fun s5 I5 => ?_) (.inr hk)
     cases e5 : h (ρ'.set i (.fz (.err c gs))) with
     | none => rw [e5] at e; cases e
     | some o5 =>
      rw [e5] at e
      refine wpAny_mono (hs ea He pins s5 _ H3 { nx := fun σ' H' => D.nx (σ'.set i none) H', rt := D.rt } I5 ⟨_, o5, ⟨A1, w3.set rp i⟩, e5, ?_⟩) (fun f s6 q => ?_) fun _ _ z => z.elim
      ·cases o5 with
       | nx ρ5 => cases e; exact fun σ6 H6 ⟨A6, w6⟩ => k _ _ ⟨A6, w6.unset i⟩
       | rt d5 ρ5 => cases e; exact fun v σ6 H6 A6 w6 r6 => k v _ H6 A6 (w6.unset i) r6
       | bk ρ5 => cases e
       | ct ρ5 => cases e
      ·cases f with
       | next =>
        obtain ⟨σ6, H6, I6, q⟩ := q
        exact Ma (Hm I.ok I6) hN hi hk fun s7 I7 => ⟨_, H6, I7, q⟩
       | ret u =>
        obtain ⟨v, σ6, H6, I6, r, q⟩ := q
        exact Ma (Hm I.ok I6) hN hi hk fun s7 I7 => ⟨v, _, H6, I7, r, q⟩
       | brk => obtain ⟨_, _, _, q⟩ := q; exact q.elim
       | cont => obtain ⟨_, _, _, q⟩ := q; exact q.elim
    ·rw [if_neg hc] at e; cases e
end
end PV
namespace EX
open PySem PySem.W PySem.Spec PyProof.Rows PySem.Calls
section
variable {prog : Program} {w : World} {A : Around} {E : Value → Shared → Prop} {s : Shared} {K : Frag} {x C : Addr} {ox : Obj} {od : Obj}
theorem NB {Q : Option Value → Shared → Prop} (X : K.In s.heap) (I : InstAt s.heap x ox C (some od)) (hga : findIn K (.ref C) "__getattribute__" = some (some (.builtin "BaseException.__getattribute__"))) (hgt : findIn K (.ref C) "__getattr__" = some none)
  (hsub : subIn K (.ref C) (.type "BaseException") = some true) (hcl : (clsIn K C).isSome = true) (ha : findIn K (.ref C) "__class__" = some (some (.builtin "object.__class__")))
  (hn : specialIn K (.builtin "object.__class__") "__get__" = some (some (.builtin "getset_descriptor.__get__"))) (htk : takesIn K (.builtin "object.__class__") = some true) (hm : mroIn K C (.type "object") = some true) (h : Q (some (.ref C)) { s with toks := s.toks + 1 }) : wpAny (model prog w) A (getAttr? (.ref x) "__class__") Q E s := by
 have hf : findObj K C (some od) "__class__" = some (.bind (.builtin "getset_descriptor.__get__") (.builtin "object.__class__")) := findObj_data hcl ha hn htk
 obtain ⟨hp, g, d, t, os⟩ := s
 have L0 := I.type (M := model prog w)
 have L1 := looks_findIn (M := model prog w) X hga
 have L2 := looks_findIn (M := model prog w) X hgt
 have L3 := looks_find (M := model prog w) X I hf
 have L4 := looks_subIn (M := model prog w) X hsub
 have f3 := F.attr_ValueError.ga.bind (.ref x)
 have hk : builtinKind "BaseException.__getattribute__" = some .slot := by decide +kernel
 have hsplit : splitId "BaseException.__getattribute__" = some ("BaseException", "__getattribute__") := by decide +kernel
 have hx2 : (Value.builtin "BaseException.__getattribute__" == Value.builtin "object.__getattribute__") = false := by decide +kernel
 have hx1 : (onTheHeap (Value.ref C) && Value.builtin "BaseException.__getattribute__" == Value.builtin "object.__getattribute__") = false := by rw [hx2]; rfl
 unfold getAttr? getAttrBy? getAttrBy
 refine wpAny_bind (wpAny_mkText (wpAny_bind (wpAny_attempt (wpAny_holding (wpAny_bind (L0.at (wpAny_bind (L1.at ?_))))))))
 dsimp only
 rw [hx1, if_neg (by decide)]
 have ck : ∀ (Q : Unit → Shared → Prop) (B : Around) (E' : Value → Shared → Prop), Q () ⟨hp, g, d, t + 1, os⟩ → wpAny (model prog w) B (checkBuiltinCall "BaseException.__getattribute__" ⟨[.ref x, .str "__class__" t], []⟩) Q E' ⟨hp, g, d, t + 1, os⟩ := fun Q B E' hq => by
  have ha := F.args_bexc_ga (.ref x) (.str "__class__" t)
  simp only [checkBuiltinCall, hk, hsplit]
  refine wpAny_bind ?_
  unfold isInstance
  refine wpAny_bind (L0.at (L4.at ?_))
  repeat (any_goals (first | assumption | wp_step))
 have run : ∀ (B : Around) (R : Result → Shared → Prop), R (.ok (.ret (.ref C))) ⟨hp, g, d, t + 1, os⟩ → codeAny (model prog w) B (.call (.builtin "BaseException.__getattribute__") ⟨[.ref x, .str "__class__" t], []⟩) R ⟨hp, g, d, t + 1, os⟩ := fun B R hq =>
  codeAny_call_builtin F.attr_ValueError.ga.plain F.entry_bexc_ga (ck _ _ _ (by
   unfold Builtin.«object.__getattribute__»
   repeat (any_goals (first | assumption | with_reducible refine L0.at ?_ | with_reducible refine L3.at ?_ | wp_step))
   exact class_get (s := ⟨hp, g, d, t + 1, os⟩) (ox := ox) (od := some od) X I hm (wpAny_pure hq)))
 repeat (any_goals (first | assumption | with_reducible refine L2.at ?_ | wp_step))
 refine run _ _ ?_
 show wpAny _ _ (handedOut (.ref C)) _ _ _
 rw [handedOut_of rfl]
 exact wpAny_pure (wpAny_pure h)
structure XK2 (K : Frag) (C : Addr) : Prop where
 ha : findIn K (.ref C) "__class__" = some (some (.builtin "object.__class__"))
 hn : specialIn K (.builtin "object.__class__") "__get__" = some (some (.builtin "getset_descriptor.__get__"))
 htk : takesIn K (.builtin "object.__class__") = some true
theorem Qd {R : Addr} (xc : XC K C R) (k : XK2 K C) : KitX K (.ref x) (.ref C) (fun h => ∃ ox od, InstAt h x ox C (some od)) := by
 obtain ⟨cd, c1, c2, c3⟩ := xc.cls
 have mi : ∀ v, (cd.mro.contains v) = true → mroIn K C v = some true := fun v hv => by unfold mroIn; rw [c1, Option.bind_some, hv, c2]; rfl
 refine ⟨fun M h _ ⟨ox, od, I⟩ => I.type, fun M h X _ => ?_, fun h tp dd its n sl X htp => ?_, fun {prog w A E Q s} X ⟨ox, od, I⟩ h => NB X I xc.ga xc.gt (mi _ (by rw [c2]; rfl)) (by rw [c1]; rfl) k.ha k.hn k.htk (mi _ (by rw [c2]; rfl)) h⟩
 ·have hcD := c1
  unfold clsIn at hcD
  split at hcD
  ·rename_i c' d' cd' sl' ho
   intro A' Q' E' s' k q
   unfold isType loadHead
   exact wpAny_bind (wpAny_loadPart (k _ _ (X _ _ ho)) (wpAny_pure q))
  ·cases hcD
 ·have hcD := c1
  refine Bool.eq_false_iff.mpr fun q => ?_
  have e : C = tp := Value.ref.inj (beq_iff_eq.mp q)
  subst e
  unfold clsIn at hcD
  split at hcD
  ·rename_i c' d' cd' sl' ho
   have z := (X _ _ ho).symm.trans htp
   cases z
  ·cases hcD
end
end EX
namespace PV
open PySem PySem.Spec L2 EX
open PyProof.Rows hiding St
structure XT (G : Gx) (cs : List Str) (R : Addr) : Prop where
 xc : ∀ c C, cs.contains c = true → G.xcl c = some C → XC G.K C R
 xk : ∀ c C, cs.contains c = true → G.xcl c = some C → XK2 G.K C
def isxD (cs ns : List Str) : D → Option D
 | .non => some (.bl (ns.contains "NoneType"))
 | .bl _ => some (.bl (ns.contains "bool"))
 | .int _ => some (.bl (ns.contains "int"))
 | .str _ => some (.bl (ns.contains "str"))
 | .err c _ => if cs.contains c = true then some (.bl (ns.contains c)) else none
 | _ => none
structure Kit (G : Gx) (cs : List Str) (cv : List Value) (ns : List Str) : Prop where
 non : PySem.W.kitAny G.K (.type "NoneType") cv = some (ns.contains "NoneType")
 bl : PySem.W.kitAny G.K (.type "bool") cv = some (ns.contains "bool")
 int : PySem.W.kitAny G.K (.type "int") cv = some (ns.contains "int")
 str : PySem.W.kitAny G.K (.type "str") cv = some (ns.contains "str")
 err : ∀ c C, cs.contains c = true → G.xcl c = some C → PySem.W.kitAny G.K (.ref C) cv = some (ns.contains c)
inductive SpecV (H : Hp) : V → List Value → Prop
 | cls (C : Addr) : SpecV H (.ref C) [.ref C]
 | ty (T : String) : SpecV H (.ty T) [.type T]
 | tup {p : Addr} {Cs : List Addr} : H p = some (.tup (Cs.map V.ref)) → SpecV H (.ref p) (Cs.map Value.ref)
theorem Ip : ∀ {Cs : List Addr} {ws : List Value}, Vals (Cs.map V.ref) ws → ws = Cs.map Value.ref
 | [], _, .nil => rfl
 | _ :: _, _, .cons r t => by rw [Ip t, (show _ = Value.ref _ from r)]; rfl
def Mf (cv : List Value) : TE := fun _ H Q => ∀ v H', Same H H' → SpecV H' v cv → Q v H'
def Mg (Cs : List Addr) : TA := fun _ H Q => Q (Cs.map V.ref) H
section
variable {X : Cx} {G : Gx} {a sp : Expr} {es : List Expr} {fa : FE} {pos p : Pos} {cs ns : List Str} {cv : List Value} {R : Addr} {Cs : List Addr}
theorem NK {x : Str} {C : Addr} (hg : Gl X x) (hm : X.mg x = some (.ref C)) (hd : (x == ("__debug__" : Str)) = false := by decide) : PE X (.Name x pos) (Mf [.ref C]) := Bh (Ci (v := .ref C) hg hm rfl hd) fun σ H Q h => h _ H (Same.refl H) (.cls C)
theorem Qe {x : Str} {T : String} (hg : Gl X x) (hm : X.mg x = none) (hv : bootBuiltins x = some (.type T)) (hn : x ≠ "__name__" := by decide) (hd : (x == ("__debug__" : Str)) = false := by decide) : PE X (.Name x pos) (Mf [.type T]) := Bh (Qz (v := .ty T) hg hm hv rfl hn hd) fun σ H Q h => h _ H (Same.refl H) (.ty T)
theorem NP : PA X [] (Mg []) := Fo
theorem Ce {x : Str} {C : Addr} (hm : X.mg x = some (.ref C)) (hr : PA X es (Mg Cs)) (hg : Gl X x := by rfl) (hd : (x == ("__debug__" : Str)) = false := by decide) (hs : starEach (.Name x pos :: es) X.env = (false, eval (.Name x pos) X.env) :: starEach es X.env := by rfl) : PA X (.Name x pos :: es) (Mg (C :: Cs)) := Bs (Ci (v := .ref C) hg hm rfl hd) hr hs
theorem NQ {x1} (h : PA X es (Mg Cs)) (hz : Nat.ble Cs.length 1000 = true := by rfl) : PE X (.Tuple es x1 pos) (Mf (Cs.map Value.ref)) := Bh (KZ h) fun σ H Q h => ⟨by rw [List.length_map]; exact Dz (Nat.le_trans (Nat.le_of_ble_eq_true hz) (by decide)), fun p hp => h _ _ (Bc hp _) (.tup Ag)⟩
theorem Mh {K : PySem.W.Frag} {t c : Value} {b : Bool} (h : PySem.W.kitAny K t [c] = some b) : PySem.W.kitOne K t c = some b := by
 unfold PySem.W.kitAny at h
 split at h
 ·rename_i e; rw [e]; exact h
 ·rename_i e; rw [e]; exact h
 ·cases h
theorem GX {pins : List (Addr × Obj)} {σ : St} {H : Hp} {s : Shared} {x t : Value} {v : V} {u : Value} {b : Bool} {HH : Heap → Prop} {A : Around} {E : Value → Shared → Prop} {Q : Value → Shared → Prop} (I : Inv X pins σ H s) (Z : PySem.W.KitX X.K x t HH) (hh : HH s.heap) (e : PySem.W.kitAny X.K t cv = some b)
  (hx : x ≠ .builtin "__main__.__loader__#opaque") (sv : SpecV H v cv) (ru : RelV v u) (h : ∀ tk, Q (.bool b) { s with toks := tk }) : wpAny (model X.prog X.w) A (call (.builtin "isinstance") [x, u]) Q E s := by
 cases sv with
 | cls C => obtain rfl := (show u = Value.ref C from ru); exact PySem.W.kia_one Z I.kIn hh (Mh e) hx h
 | ty T => obtain rfl := (show u = Value.type T from ru); exact PySem.W.kia_one Z I.kIn hh (Mh e) hx h
 | tup hp =>
  obtain rfl := (show u = Value.ref _ from ru)
  obtain ⟨_, its, r, o, g1, g2, n, g3⟩ := I.hok _ _ hp
  have := Ip r
  subst this
  obtain ⟨oc, od, oda, osl⟩ := o
  dsimp only at g2 g3
  subst g2 g3
  exact PySem.W.kia_tup Z I.kIn hh g1 e hx h
theorem Qf {pins : List (Addr × Obj)} {σ : St} {H : Hp} {s : Shared} {e C dx : Addr} {tb : Option Addr} {fs : List (Str × V)} (I : Inv X pins σ H s) (he : H e = some (excO e C (some dx) tb)) (hd : H dx = some (.xd fs)) : ∃ ox od, PySem.W.InstAt s.heap e ox C (some od) := by
 obtain ⟨⟨o, vs, q1, q2, q3, q4, q5, q6⟩, _⟩ := I.hok e _ he
 obtain ⟨mA, ns, r⟩ := I.hok dx _ hd
 obtain ⟨oD, g1, g2⟩ := Gd ns
 exact ⟨o, oD, q1, q2, by unfold PySem.W.notCls; rw [q4], by rw [q3]; exact g1⟩
theorem Qg (hG : G.K = X.K) (t : XT G cs R) (kt : Kit G cs cv ns) : Ej X (.builtin "isinstance") (fun xs H Q => ∃ x v A d b, xs = [x, v] ∧ Rep G (hid A H) x d ∧ isxD cs ns d = some (.bl b) ∧ SpecV H v cv ∧ Q (.bl b) H) := by
 rintro pins s σ H xs us Q I r ⟨x, v, A, d, b, rfl, rp, e, sv, q⟩
 cases r with
 | cons rx r =>
  cases r with
  | cons rv r =>
   cases r
   have fin : ∀ tk, EP X pins σ Q (.bool b) { s with toks := tk } := fun tk => ⟨.bl b, H, I.tok _, rfl, q⟩
   cases rp with
   | non => obtain rfl := (show _ = Value.none from rx); cases e; exact GX I PySem.W.kitx_none True.intro (hG ▸ kt.non) (fun z => nomatch z) sv rv fin
   | bl y => obtain rfl := (show _ = Value.bool y from rx); cases e; exact GX I PySem.W.kitx_bool True.intro (hG ▸ kt.bl) (fun z => nomatch z) sv rv fin
   | int i => obtain ⟨t', rfl⟩ := (show ∃ t, _ = Value.int i t from rx); cases e; exact GX I PySem.W.kitx_int True.intro (hG ▸ kt.int) (fun z => nomatch z) sv rv fin
   | str i => obtain ⟨t', rfl⟩ := (show ∃ t, _ = Value.str i t from rx); cases e; exact GX I PySem.W.kitx_str True.intro (hG ▸ kt.str) (fun z => nomatch z) sv rv fin
   | @err a C dx tb c fs gs hC h1 h2 h3 =>
    obtain rfl := (show _ = Value.ref a from rx)
    have e' : (if cs.contains c = true then some (D.bl (ns.contains c)) else none) = some (.bl b) := e
    split at e'
    ·rename_i hc
     cases e'
     exact GX I (Qd (hG ▸ t.xc c C hc hC) (hG ▸ t.xk c C hc hC)) (Qf I (Am _ _ h1) (Am _ _ h2)) (hG ▸ kt.err c C hc hC) (fun z => nomatch z) sv rv fin
    ·cases e'
   | tup => cases e
   | lst => cases e
   | dk => cases e
   | dt => cases e
   | adr => cases e
   | ob => cases e
theorem Vd {d d' : D} (h : isxD cs ns d = some d') : ∃ b, d' = .bl b := by
 unfold isxD at h
 split at h
 ·cases h; exact ⟨_, rfl⟩
 ·cases h; exact ⟨_, rfl⟩
 ·cases h; exact ⟨_, rfl⟩
 ·cases h; exact ⟨_, rfl⟩
 ·split at h
  ·cases h; exact ⟨_, rfl⟩
  ·cases h
 ·cases h
theorem Kr {x : Str} (hG : G.K = X.K) (t : XT G cs R) (kt : Kit G cs cv ns) (hg : Gl X x) (hm : X.mg x = none) (hv : bootBuiltins x = some (.builtin "isinstance")) (ha : PF X G a fa) (hsp : PE X sp (Mf cv))
  (hn : x ≠ "__name__" := by decide) (hdb : (x == ("__debug__" : Str)) = false := by decide) (he : starEach [a, sp] X.env = (false, eval a X.env) :: starEach [sp] X.env := by rfl) (he2 : starEach [sp] X.env = (false, eval sp X.env) :: starEach [] X.env := by rfl) :
  PF X G (.Call (.Name x p) [a, sp] [] pos) (uF (isxD cs ns) fa) := fun A => Bh (Jl (Qg hG t kt) hg hm hv (Bs (@ha A) (Bs hsp Fo he2) he) hn hdb he (by rw [he2]; rfl)) fun σ H Q ⟨ρ, d, o, e, k⟩ => by
 unfold uF at e
 cases e1 : fa ρ with
 | none => simp [e1] at e
 | some dx =>
  rw [e1] at e
  have e2 : isxD cs ns dx = some d := e
  obtain ⟨b, rfl⟩ := Vd e2
  exact ⟨ρ, dx, o, e1, fun v H1 s1 r1 => fun w H2 s2 sv => ⟨v, w, A, dx, b, rfl, r1.mono (An s2), e2, sv, k _ H2 (s1.trans s2) (.bl b)⟩⟩
def fldE (cs : List Str) (f : Str) : D → Option D
 | .err c gs => if cs.contains c = true then gs.lookup f else none
 | _ => none
theorem SJ {fs : List (Str × V)} {gs : List (Str × D)} {f : Str} {d : D} (h : FsV fs gs) (l : gs.lookup f = some d) : ∃ y, fs.lookup f = some y ∧ flV d = some y := by
 unfold FsV at h
 induction fs generalizing gs with
 | nil => cases gs with
  | nil => cases l
  | cons q t => cases h
 | cons q t ih =>
  cases gs with
  | nil => cases l
  | cons q' t' =>
   obtain ⟨k, v⟩ := q; obtain ⟨k', v'⟩ := q'
   simp only [List.map_cons, List.cons.injEq, Prod.mk.injEq] at h
   obtain ⟨⟨rfl, h1⟩, h2⟩ := h
   simp only [List.lookup] at l ⊢
   split at l
   ·cases l; exact ⟨v, rfl, h1.symm⟩
   ·exact ih h2 l
theorem Qh {H : Hp} {d : D} {y : V} (h : flV d = some y) : Rep G H y d := by
 cases d <;> first | (cases h; constructor) | cases h
theorem SM {f : Str} (hG : G.K = X.K) (t : XT G cs R) (ha : PF X G a fa) (n : ∀ c C, cs.contains c = true → G.xcl c = some C → BW G.K C f)
  (hb : attributeBase a f X.env (eval a X.env) = eval a X.env := by rfl) :
  PF X G (.Attribute a f pos) (uF (fldE cs f) fa) := fun A pins s σ H Q I ⟨ρ, d, o, e, k⟩ => by
 unfold uF at e
 cases e1 : fa ρ with
 | none => simp [e1] at e
 | some d0 =>
  rw [e1] at e
  have e2 : fldE cs f d0 = some d := e
  refine K4 hb (thn (@ha A pins s σ H (fun v H1 => Same H H1 ∧ Rep G (hid A H1) v d0) I ⟨ρ, d0, o, e1, fun v H1 s1 r1 => ⟨s1, r1⟩⟩) fun u s1 ⟨v, H1, I1, rv, s1', rp⟩ => ?_)
  cases rp with
  | @err ae C dx tb c fs gs hC h1 h2 h3 =>
   obtain rfl := (show u = Value.ref ae from rv)
   have e' : (if cs.contains c = true then gs.lookup f else none) = some d := e2
   split at e'
   ·rename_i hc
    obtain ⟨y, l1, l2⟩ := SJ h3 e'
    exact R5 I1 (Am _ _ h1) (Am _ _ h2) (hG ▸ t.xc c C hc hC) (hG ▸ n c C hc hC) l1 fun u' s2 I2 ru => ⟨y, H1, I2, ru, k y H1 s1' (Qh l2)⟩
   ·cases e'
  | _ => cases e2
end
end PV
namespace PV
open PySem PySem.Spec
section
variable {prog : Program} {w : World} {A : Around} {E : Value → Shared → Prop} {s : Shared} {T : String} {r d : Addr} {n : Nat} {P : Nat → Value → Prop} {OK : Heap → Prop}
end
section
variable {prog : Program} {w : World} {A : Around} {E : Value → Shared → Prop} {s : Shared} {q : Addr}
end
open L2
section
variable {X : Cx} {G : Gx} {a : Expr} {fa : FE} {pos p : Pos}
end
end PV
namespace PV
open PySem PySem.Spec L2 EX
open PyProof.Rows hiding St
theorem WK {P : Program} {w : World} {G : Gx} {mg : Str → Option Value} {base : Heap} {x qual : Str} {st : Stmt} {f : Addr} {fd : FuncData} {N ps : List Str} {k : Nat} {b : FS} (F : FunD G.K x qual st f fd) (S : FnScope N ps (Aa st)) (hl : ps.length ≤ N.length)
  (hb : ∀ (cdv : Value) (A : Around) (outer : List Env) (s : Shared) (H : Hp) (E : XK), Room k (A.deeper (envOfC qual (Aa st) s.heap.objs.size f cdv)) → PSZs (cxOf (CX1 P w) P w G.K mg base N qual (Aa st) f cdv A outer s H E) G (Al st) b) :
  FnOk P w G.K mg base (CX1 P w) (k + 1) f fd ps (spZ G (runF N.length ps.length b)) := by
 obtain ⟨oc, od, dV, kV, doc, pm, an, cdv, ct, osl, rfl, lk, hcd⟩ := F.ex
 refine K6 lk hcd S (fun vs H Q E h => ?_) (fun A outer s H vs Q E hr h => ?_)
 ·obtain ⟨A, ds, d, lv, r, e, _⟩ := h
  unfold runF at e
  split at e
  ·rename_i hz; rw [r.1]; exact hz
  ·cases e
 ·obtain ⟨A0, ds, d, lv, r, e, k, kx⟩ := h
  unfold runF at e
  split at e
  ·rename_i hz
   have hzz := hb cdv A outer s H E hr
   refine ⟨_, @hzz A0 H, Ca N.length ds, ?_⟩
   cases e1 : b (Ca N.length ds) with
   | none => simp [e1] at e
   | some o =>
    refine ⟨o, Hd lv r (by rw [r.1, hz]; exact hl), rfl, ?_⟩
    cases o with
    | nx ρ =>
     simp only [e1] at e
     cases e
     exact ⟨fun σ H' ⟨A, w⟩ => k _ H' w.same .non, trivial⟩
    | rt d' ρ' =>
     simp only [e1] at e
     cases e
     exact ⟨fun v σ H' A w r' => k v H' w.same (r'.mono (Bl w.sub)), VV kx⟩
    | bk ρ => simp [e1] at e
    | ct ρ => simp [e1] at e
  ·cases e
def okSD : D → Bool
 | .str z => decide (z.length ≤ 100000) && z.cps.toList.all fun c => decide (c < 4294967296)
 | _ => false
theorem FJ (d : D) (h : okSD d = true) : ∃ y, flV d = some y ∧ okS y := by
 cases d with
 | str z =>
  simp only [okSD, Bool.and_eq_true, decide_eq_true_eq, List.all_eq_true] at h
  exact ⟨_, rfl, z, rfl, h.1, h.2⟩
 | _ => cases h
structure Mx (K : PySem.W.Frag) (C : Addr) (m qual : Str) (st : Stmt) (ps : List Str) where
 f : Addr
 fd : FuncData
 F : Fun K m qual st f fd
 B : Binds K fd ps []
 me : Meth K C m f
structure Rx (K : PySem.W.Frag) (mg : Str → Option Value) (rn : Str) where
 R : Addr
 m : mg rn = some (.ref R)
 x : excX K R = true
 h1 : PySem.W.specialIn K (.ref R) "__getattribute__" = some (some (.builtin "type.__getattribute__"))
 h2 : PySem.W.readsIn K R (.type "type") = true
 h3 : PySem.W.findCls K (.ref R) (.type "type") "__init__" = some (.val (.builtin "ValueError.__init__"))
structure Xx (G : Gx) (mg : Str → Option Value) (R : Addr) (cn f qual : Str) (st : Stmt) (ps : List Str) where
 C : Addr
 fi : Addr
 fd : FuncData
 g : G.xcl cn = some C
 xc : XC G.K C R
 hi : PySem.W.findIn G.K (.ref C) "__init__" = some (some (.ref fi))
 hf : PySem.W.isFn G.K (.ref fi) = true
 kp : PySem.W.keepIn G.K (.ref C) = true
 na : BW G.K C f
 m : mg cn = some (.ref C)
 F : Fun G.K "__init__" qual st fi fd
 B : Binds G.K fd ps []
section
variable {X : Cx} {G : Gx} {a ob : Expr} {es : List Expr} {fs : FA} {fa fo : FE} {pos p np cpos apos : Pos}
theorem fZ {k k' : Nat} {x : Str} {st : Stmt} {ps : List Str} {d : Dx X.K X.mg x st ps} {g : List D → Option D} (F : FnOk X.prog X.w X.K X.mg X.base (CX1 X.prog X.w) k d.f d.fd ps (spZ G g)) (hr : Room k' X.A) (ha : PFA X G (a :: es) fs) (hle : k ≤ k' := by omega) (hg : Gl X x := by rfl) (hdb : (x == ("__debug__" : Str)) = false := by decide)
  (he : starEach (a :: es) X.env = (false, eval a X.env) :: starEach es X.env := by rfl) (hpl : (backTo pos (starEach es X.env)).any (·.1) = false := by rfl) : PFZ X G (.Call (.Name x p) (a :: es) [] pos) (Dk g fs) := VR F (hr.mono hle) hg d.m d.F.kp d.B ha hdb he hpl
theorem rZ {R : Addr} {cn f qual : Str} {st : Stmt} {ps : List Str} {x : Xx G X.mg R cn f qual st ps} {k k' : Nat} {c : V → Prop} {ok : D → Bool} (F : FnOk X.prog X.w X.K X.mg X.base CX0 k x.fi x.fd ps (spE X.K f c)) (hr : Room k' X.A) (hok : ∀ d, ok d = true → ∃ y, flV d = some y ∧ c y) (ha : PF X G a fa) (hle : k + 1 ≤ k' := by omega) (hG : G.K = X.K := by rfl) (hg : Gl X cn := by rfl) (hc : X.calm = true := by rfl)
  (hdb : (cn == ("__debug__" : Str)) = false := by decide) (he : starEach [a] X.env = [(false, eval a X.env)] := by rfl) (hpl : (backTo cpos (starEach [] X.env)).any (·.1) = false := by rfl) : PSZ X G (.Raise (some (.Call (.Name cn np) [a] [] cpos)) none pos) (retF (excF cn f ok fa)) :=
 M_ (hG ▸ x.xc) (hG ▸ x.hi) (hG ▸ x.hf) (hG ▸ x.kp) (hG ▸ x.na) F (hr.mono hle) (hG ▸ x.B) hg x.m x.g hc hok ha hdb he hpl
end
section
variable {mg : Str → Option Value} {x : Str} {st : Stmt} {ps : List Str} {P : Program} {w : World} {G : Gx} {base : Heap} {N : List Str} {k : Nat} {b : FS}
theorem fnZ (d : Dx G.K mg x st ps) (S : FnScope N ps (Aa st))
  (hb : ∀ (cdv : Value) (A : Around) (outer : List Env) (s : Shared) (H : Hp) (E : XK), Room k (A.deeper (envOfC x (Aa st) s.heap.objs.size d.f cdv)) → PSZs (cxOf (CX1 P w) P w G.K mg base N x (Aa st) d.f cdv A outer s H E) G (Al st) b) (hl : ps.length ≤ N.length := by decide) :
  FnOk P w G.K mg base (CX1 P w) (k + 1) d.f d.fd ps (spZ G (runF N.length ps.length b)) := WK d.F S hl hb
end
end PV
namespace PV
open PySem PySem.Spec L2 EX
open PyProof.Rows hiding St
def gx2 (K : PySem.W.Frag) (cn : Str) (C : Addr) (l : List (Str × Addr)) : Gx := { K := K, cl := fun c => if c = cn then some C else none, xcl := fun c => l.lookup c }
section
variable {K : PySem.W.Frag} {h : Heap} {mg : Str → Option Value} {x qual cn m : Str} {st : Stmt} {ps : List Str} {f C R : Addr} {oc : Value} {od an : Option Addr} {osl : Array (Option Value)} {dV kV doc pm cdv ct : Value} {l : List (Str × Addr)}
theorem Ve : (gx2 K cn C l).cl cn = some C := if_pos rfl
theorem Qi (X : K.In h) (cl : Cls K C) (n : PySem.W.findIn K (.ref C) x = some none) : ∀ c C', (gx2 K cn C l).cl c = some C' → Cls K C' ∧ BW K C' x := fun c C' h => by
 unfold gx2 at h
 simp only at h
 split at h
 ·cases h; exact ⟨cl, n⟩
 ·cases h
theorem JX {P : Addr → Prop} : ∀ {l : List (Str × Addr)}, (∀ p ∈ l, P p.2) → ∀ {c : Str} {C : Addr}, l.lookup c = some C → P C
 | [], _, _, _, h => nomatch h
 | (k, v) :: r, hp, c, C, h => by
  simp only [List.lookup] at h
  split at h
  ·cases h; exact hp (k, v) List.mem_cons_self
  ·exact JX (fun p hm => hp p (List.mem_cons_of_mem _ hm)) h
theorem Vf {cs : List Str} (X : K.In h) (hp : ∀ p ∈ l, XC K p.2 R ∧ XK2 K p.2) : XT (gx2 K cn C l) cs R := ⟨fun c C' _ g => (JX (P := fun C => XC K C R ∧ XK2 K C) hp g).1, fun c C' _ g => (JX (P := fun C => XC K C R ∧ XK2 K C) hp g).2⟩
theorem Vg {cs : List Str} (X : K.In h) (hp : ∀ p ∈ l, PySem.W.findIn K (.ref p.2) x = some none) : ∀ c C', cs.contains c = true → (gx2 K cn C l).xcl c = some C' → BW (gx2 K cn C l).K C' x := fun c C' _ g => JX (P := fun C => PySem.W.findIn K (.ref C) x = some none) hp g
theorem Qj {cv : List Value} {ns : List Str} : ∀ {l : List (Str × Addr)}, (∀ p ∈ l, PySem.W.kitAny K (.ref p.2) cv = some (ns.contains p.1)) → ∀ {c : Str} {C : Addr}, l.lookup c = some C → PySem.W.kitAny K (.ref C) cv = some (ns.contains c)
 | [], _, _, _, h => nomatch h
 | (k, v) :: r, hp, c, C, h => by
  simp only [List.lookup] at h
  split at h
  ·rename_i e
   have : c = k := by simpa using e
   cases h; subst this; exact hp (c, v) List.mem_cons_self
  ·exact Qj (fun p hm => hp p (List.mem_cons_of_mem _ hm)) h
theorem JZ {cs ns : List Str} {cv : List Value} (X : K.In h) (h1 : PySem.W.kitAny K (.type "NoneType") cv = some (ns.contains "NoneType")) (h2 : PySem.W.kitAny K (.type "bool") cv = some (ns.contains "bool")) (h3 : PySem.W.kitAny K (.type "int") cv = some (ns.contains "int")) (h4 : PySem.W.kitAny K (.type "str") cv = some (ns.contains "str"))
  (hp : ∀ p ∈ l, PySem.W.kitAny K (.ref p.2) cv = some (ns.contains p.1)) : Kit (gx2 K cn C l) cs cv ns := ⟨h1, h2, h3, h4, fun c C' _ g => Qj hp g⟩
def kx2 {g : Addr} {n : Nat} {its : Array Value} {xs : List Str} (X : K.In h) (N : h.Ns mainGlobals mg) (a : PySem.W.nsIn K mainGlobals x = some (some (.ref g))) (lk : K.lookup g = some ⟨.type "tuple", od, .seq its n, osl⟩) (hz : its.size ≤ sizeLine) (r : Vals (xs.map V.str) its.toList) : Kx (gx2 K cn C l) mg x (.tup (xs.map .str)) := ⟨g, PySem.W.mg_of X N a, Ij lk hz r⟩
def mx (X : K.In h) (a : PySem.W.findIn K (.ref C) m = some (some (.ref f))) (i : PySem.W.isFn K (.ref f) = true) (lk : K.lookup f = some ⟨oc, od, .func (PySem.W.fnOf m qual (Ba st) (Al st) (Aa st) .none kV doc pm an cdv ct), osl⟩) (c : PySem.W.codeIn K cdv qual = true) (k : PySem.W.keepIn K (.ref f) = true)
  (b : ∀ (kV doc pm : Value) (an : Option Addr) (cdv ct : Value) (us : List Value), us.length = ps.length → bindArgs (PySem.W.fnOf m qual (Ba st) (Al st) (Aa st) .none kV doc pm an cdv ct) ⟨us, []⟩ = pure (ps.zip us)) : Mx K C m qual st ps := ⟨f, _, Fq lk c k, (Fq lk c k).binds b, a, i, k⟩
def rx (X : K.In h) (N : h.Ns mainGlobals mg) (a : PySem.W.nsIn K mainGlobals x = some (some (.ref R))) (e : excX K R = true) (h1 : PySem.W.specialIn K (.ref R) "__getattribute__" = some (some (.builtin "type.__getattribute__"))) (h2 : PySem.W.readsIn K R (.type "type") = true)
  (h3 : PySem.W.findCls K (.ref R) (.type "type") "__init__" = some (.val (.builtin "ValueError.__init__"))) : Rx K mg x := ⟨R, PySem.W.mg_of X N a, e, h1, h2, h3⟩
def xx {fn : Str} {fi : Addr} (X : K.In h) (N : h.Ns mainGlobals mg) (a : PySem.W.nsIn K mainGlobals x = some (some (.ref f))) (g : l.lookup x = some f) (xc : XC K f R) (hi : PySem.W.findIn K (.ref f) "__init__" = some (some (.ref fi))) (i : PySem.W.isFn K (.ref fi) = true) (kp : PySem.W.keepIn K (.ref f) = true) (na : PySem.W.findIn K (.ref f) fn = some none)
  (lk : K.lookup fi = some ⟨oc, od, .func (PySem.W.fnOf "__init__" qual (Ba st) (Al st) (Aa st) .none kV doc pm an cdv ct), osl⟩) (c : PySem.W.codeIn K cdv qual = true) (k : PySem.W.keepIn K (.ref fi) = true)
  (b : ∀ (kV doc pm : Value) (an : Option Addr) (cdv ct : Value) (us : List Value), us.length = ps.length → bindArgs (PySem.W.fnOf "__init__" qual (Ba st) (Al st) (Aa st) .none kV doc pm an cdv ct) ⟨us, []⟩ = pure (ps.zip us)) : Xx (gx2 K cn C l) mg R x fn qual st ps := ⟨f, fi, _, g, xc, hi, i, kp, na, PySem.W.mg_of X N a, Fq lk c k, (Fq lk c k).binds b⟩
theorem Hy : bootBuiltins "ValueError" = some (.type "ValueError") := by decide +kernel
end
end PV
namespace PV
open PySem PySem.Spec L2
open PyProof.Rows hiding St
section
variable {X : Cx} {G : Gx} {b : Expr} {fb : FE} {pos p1 : Pos} {es : List Expr} {fs : FA}
end
structure Ax (mg : Str → Option Value) (x : Str) where
 a : Addr
 m : mg x = some (.ref a)
def ax {K : PySem.W.Frag} {h : Heap} {mg : Str → Option Value} {x : Str} {C : Addr} (X : K.In h) (N : h.Ns mainGlobals mg) (a : PySem.W.nsIn K mainGlobals x = some (some (.ref C))) : Ax mg x := ⟨C, PySem.W.mg_of X N a⟩
end PV
namespace PV
open PySem PySem.Spec L2 EX
open PyProof.Rows hiding St
def XWS (G : Gx) (x : Addr) (A : List Addr) (H : Hp) (d so' : D) (E : XK) : Prop := ∀ c gs, excOf d = some (c, gs) → ∀ e T H1 H', Gs x H H1 → Top G A H1 x so' → Exc G H1 H' e (some T) c gs → E (.ref e) none H'
def spSZ (G : Gx) (g : List D → Option (D × D)) : Sp := fun vs H Q E => ∃ A x vs' so ds d so', vs = .ref x :: vs' ∧ (∀ a ∈ A, Nt (H a)) ∧ x ∈ A ∧ Top G A H x so ∧ RepL G (hid A H) vs' ds ∧ g (so :: ds) = some (d, so') ∧
 (∀ v H', Gs x H H' → Top G A H' x so' → Rep G (hid A H') v d → Q v H') ∧ XWS G x A H d so' E
theorem Exc.lend {G : Gx} {x : Addr} {He H : Hp} {e : Addr} {tb : Option Addr} {c : Str} {gs : List (Str × D)} (y : Exc G He H e tb c gs) : Exc (G.lend x) He H e tb c gs := ⟨y.ex, y.same, y.new, y.tbk⟩
theorem Exc.unlend {G : Gx} {x : Addr} {He H : Hp} {e : Addr} {tb : Option Addr} {c : Str} {gs : List (Str × D)} (y : Exc (G.lend x) He H e tb c gs) : Exc G He H e tb c gs := ⟨y.ex, y.same, y.new, y.tbk⟩
theorem BL {P : Program} {w : World} {K : PySem.W.Frag} {mg : Str → Option Value} {base : Heap} {CX : CXT} {k : Nat} {f : Addr} {fd : FuncData} {ps : List Str} {G : Gx} {g : List D → Option (D × D)} {y : Addr} (F : FnOk P w K mg base CX k f fd ps (spSZ G g)) : FnOk P w K mg base CX k f fd ps (spSZ (G.lend y) g) :=
 F.imp fun vs H Q E ⟨A, x, vs', so, ds, d, so', e0, lv, hx, t, r, e, q, qx⟩ => ⟨A, x, vs', so, ds, d, so', e0, lv, hx, t.unlend, r.unlend, e, fun v H' s t' r' => q v H' s t'.lend r'.lend, fun c gs z e T H1 H' sx t' y => qx c gs z e T H1 H' sx t'.lend y.lend⟩
theorem NT {P : Program} {w : World} {K : PySem.W.Frag} {mg : Str → Option Value} {base : Heap} {CX : CXT} {k : Nat} {f : Addr} {fd : FuncData} {ps : List Str} {G : Gx} : FnOk P w K mg base CX k f fd ps (spSZ G fun _ => none) :=
 ⟨fun vs H Q E ⟨_, _, _, _, _, _, _, _, _, _, _, _, e, _⟩ => (nomatch e), fun A outer s H args us vs Q E hr he hb hv ⟨_, _, _, _, _, _, _, _, _, _, _, _, e, _⟩ => nomatch e⟩
def Xx.lend {G : Gx} {mg : Str → Option Value} {R y : Addr} {cn f qual : Str} {st : Stmt} {ps : List Str} (x : Xx G mg R cn f qual st ps) : Xx (G.lend y) mg R cn f qual st ps := ⟨x.C, x.fi, x.fd, x.g, x.xc, x.hi, x.hf, x.kp, x.na, x.m, x.F, x.B⟩
theorem SN {P : Program} {w : World} {G : Gx} {mg : Str → Option Value} {base : Heap} {N : List Str} {qual : Str} {scope : Scope} {f : Addr} {cd : Value} {A : Around} {outer : List Env} {s : Shared} {H : Hp} {E : XK} {A1 : List Addr} {x : Addr} {d so' : D} {ρ : Rho} (h : XWS G x A1 H d so' E) (he : endS d ρ = some (d, so')) :
  RzO (cxOf (CX1 P w) P w G.K mg base N qual scope f cd A outer s H E) (G.lend x) (A1.filter fun b => decide (b ≠ x)) (hid [x] H) d ρ := fun c gs z pins σ H1 H2 s2 e tb I ⟨A2, ok⟩ y => by
 show wpAny _ _ (leaving _ _) _ _ _
 unfold leaving
 refine wpAny_bind (Hk (G := G.lend x) (X := cxOf (CX1 P w) P w G.K mg base N qual scope f cd A outer s H E) rfl rfl I y fun T H' s' I' y' => ?_)
 obtain ⟨_, h0⟩ := E_ he
 obtain ⟨a, q1, q2, q3⟩ := ok.ok.ow 0 so' h0
 rw [ok.lt x so' rfl h0] at q1
 cases q1
 have sub : ∀ a ∈ A1, a ∈ A2 := fun a ha => by
  by_cases z : a = x
  ·rw [z]; exact q2
  ·exact ok.sub a (by simp [List.mem_filter, ha, z])
 exact ⟨e, H', rfl, I'.os, I'.bare, I'.base, I'.hok, h c gs z e T H1 H' (fun b o hb ho => ok.same b o (by rw [BR (by simpa using hb)]; exact ho)) (q3.unlend.sub sub) y'.unlend⟩
theorem Hn {P : Program} {w : World} {G : Gx} {mg : Str → Option Value} {base : Heap} {x qual : Str} {st : Stmt} {f : Addr} {fd : FuncData} {N ps : List Str} {k : Nat} {b : FS} (F : FunD G.K x qual st f fd) (S : FnScope N ps (Aa st)) (hl : ps.length ≤ N.length)
  (hb : ∀ (y : Addr) (cdv : Value) (A : Around) (outer : List Env) (s : Shared) (H : Hp) (E : XK), Room k (A.deeper (envOfC qual (Aa st) s.heap.objs.size f cdv)) → PSZs (cxOf (CX1 P w) P w G.K mg base N qual (Aa st) f cdv A outer s H E) (G.lend y) (Al st) b) :
  FnOk P w G.K mg base (CX1 P w) (k + 1) f fd ps (spSZ G (runS N.length ps.length b)) := by
 obtain ⟨oc, od, dV, kV, doc, pm, an, cdv, ct, osl, rfl, lk, hcd⟩ := F.ex
 refine K6 lk hcd S (fun vs H Q E h => ?_) (fun A outer s H vs Q E hr h => ?_)
 ·obtain ⟨A, x, vs', so, ds, d, so', rfl, lv, hx, t, r, e, _⟩ := h
  unfold runS at e
  split at e
  ·rename_i hz; rw [List.length_cons, r.1]; exact hz
  ·cases e
 ·obtain ⟨A1, x, vs', so, ds, d, so', rfl, lv, hx, t, r, e, k, kx⟩ := h
  unfold runS at e
  split at e
  ·rename_i hz
   have hzz := hb x cdv A outer s H E hr
   refine ⟨_, @hzz (A1.filter fun b => decide (b ≠ x)) (hid [x] H), Ek N.length (so :: ds), ?_⟩
   have fin : ∀ (σ' : St) (H' : Hp) (A2 : List Addr) (ρ : Rho) (v : V) (d2 : D), OkW (G.lend x) (A1.filter fun b => decide (b ≠ x)) (hid [x] H) A2 σ' H' ρ → Rep (G.lend x) (hid A2 H') v d2 → endS d2 ρ = some (d, so') → Q v H' := fun σ' H' A2 ρ v d2 w rv he => by
    obtain ⟨rfl, h0⟩ := E_ he
    obtain ⟨a, q1, q2, q3⟩ := w.ok.ow 0 so' h0
    rw [w.lt x so' rfl h0] at q1
    cases q1
    have sub : ∀ a ∈ A1, a ∈ A2 := fun a ha => by
     by_cases z : a = x
     ·rw [z]; exact q2
     ·exact w.sub a (by simp [List.mem_filter, ha, z])
    exact k v H' (fun b o hb ho => w.same b o (by rw [BR (by simpa using hb)]; exact ho)) (q3.unlend.sub sub) (rv.unlend.mono (Bl sub))
   cases e1 : b (Ek N.length (so :: ds)) with
   | none => simp [e1] at e
   | some o =>
    refine ⟨o, ⟨_, Im lv hx t r (by rw [r.1]; simp at hz; omega)⟩, rfl, ?_⟩
    cases o with
    | nx ρ =>
     simp only [e1] at e
     exact ⟨fun σ H' ⟨A, w⟩ => fin σ H' A ρ .non .non w .non e, trivial⟩
    | rt d' ρ' =>
     simp only [e1] at e
     obtain ⟨ed, _⟩ := E_ e
     subst ed
     exact ⟨fun v σ H' A w r' => fin σ H' A ρ' v d w r' e, SN kx e⟩
    | bk ρ => simp [e1] at e
    | ct ρ => simp [e1] at e
  ·cases e
def tXZ (X : Cx) (G : Gx) (A0 : List Addr) (He : Hp) (h : FZ) : TE := fun σ H Q => ∃ ρ d ρ' A, OkW G A0 He A σ H ρ ∧ h ρ = some (d, ρ') ∧ (∀ v H' A', OkW G A0 He A' σ H' ρ' → Same (hid A H) (hid A' H') → Rep G (hid A' H') v d → Q v H') ∧ RzO X G A0 He d ρ'
def PXZ (X : Cx) (G : Gx) (e : Expr) (h : FZ) : Prop := ∀ ⦃A0⦄ He, PE X e (tXZ X G A0 He h)
def excL (ds : List D) : Option (Str × List (Str × D)) := ds.findSome? excOf
def tXAZ (X : Cx) (G : Gx) (A0 : List Addr) (He : Hp) (h : FZA) : TA := fun σ H Q => ∃ ρ ds ρ' A, OkW G A0 He A σ H ρ ∧ h ρ = some (ds, ρ') ∧ (∀ vs H' A', OkW G A0 He A' σ H' ρ' → Same (hid A H) (hid A' H') → RepL G (hid A' H') vs ds → Q vs H') ∧ ∀ c gs, excL ds = some (c, gs) → Rz X G A0 He c gs ρ'
def PXAZ (X : Cx) (G : Gx) (es : List Expr) (h : FZA) : Prop := ∀ ⦃A0⦄ He, PA X es (tXAZ X G A0 He h)
def Cg (h : FZ) : FS := fun ρ => (h ρ).map fun r => match excOf r.1 with | some _ => .rt r.1 r.2 | none => .nx r.2
def GZ (i : Nat) (h : FZ) : FS := fun ρ => (h ρ).map fun r => match excOf r.1 with | some _ => .rt r.1 r.2 | none => .nx (r.2.set i (.fz r.1))
def J7 (h : FZA) : FZ := fun ρ => (h ρ).bind fun r => match excL r.1 with | some q => some (.exc q.1 q.2, r.2) | none => if r.1.length ≤ sizeLine then some (.tup r.1, r.2) else none
section
variable {X : Cx} {G : Gx} {a b c : Expr} {fa fb fc : FE} {pos p2 px rp p apos : Pos} {es : List Expr} {fs : FA} {h : FZ} {hs : FZA} {A0 : List Addr} {He : Hp}
theorem PX.x (ha : PX X G a h) : PXZ X G a h := fun A0 He pins s σ H Q I ⟨ρ, d, ρ', A, w, e, k, _⟩ => @ha A0 He pins s σ H Q I ⟨ρ, d, ρ', A, w, e, k⟩
theorem Ea (ha : PXZ X G a h) : PSZ X G (.Return (some a) pos) (retX h) := fun A0 He pins s σ H D I ⟨ρ, o, ⟨A, w⟩, e, k, kx⟩ => by
 refine Ni (@ha A0 He) pins s σ H D I ?_
 unfold retX at e
 cases e1 : h ρ with
 | none => simp [e1] at e
 | some r =>
  simp only [e1, Option.map_some] at e
  cases e
  exact ⟨ρ, _, _, A, w, e1, fun v H' A' w' sm rv => k v σ H' A' w' rv, kx⟩
theorem Bj (ha : PXZ X G a h) (hs : swapsWith a none pos.line X.env = pure false := by rfl) : PSZ X G (.Expr a pos) (Cg h) := fun A0 He pins s σ H D I ⟨ρ, o, ⟨A, w⟩, e, k, kx⟩ => by
 refine Iw (@ha A0 He) hs pins s σ H D I ?_
 unfold Cg at e
 cases e1 : h ρ with
 | none => simp [e1] at e
 | some r =>
  simp only [e1, Option.map_some] at e
  cases e2 : excOf r.1 with
  | none =>
   simp only [e2] at e
   cases e
   exact ⟨ρ, _, _, A, w, e1, fun v H' A' w' sm rv => k _ _ ⟨A', w'⟩, fun c gs z => by rw [e2] at z; cases z⟩
  | some q =>
   simp only [e2] at e
   cases e
   exact ⟨ρ, _, _, A, w, e1, fun v H' A' w' sm rv => absurd e2 (by rw [Gj rv]; simp), kx⟩
theorem SQ {i : Nat} {x : Str} (hp : ∀ te, PE X a te → PS X (.Assign [.Name x p] a pos) (tAsg te (FW i))) (ha : PXZ X G a h) : PSZ X G (.Assign [.Name x p] a pos) (GZ i h) := fun A0 He pins s σ H D I ⟨ρ, o, ⟨A, w⟩, e, k, kx⟩ => by
 refine hp _ (@ha A0 He) pins s σ H D I ?_
 unfold GZ at e
 cases e1 : h ρ with
 | none => simp [e1] at e
 | some r =>
  simp only [e1, Option.map_some] at e
  cases e2 : excOf r.1 with
  | none =>
   simp only [e2] at e
   cases e
   exact ⟨ρ, _, _, A, w, e1, fun v H' A' w' sm rv => k _ _ ⟨A', w'.set rv i⟩, fun c gs z => by rw [e2] at z; cases z⟩
  | some q =>
   simp only [e2] at e
   cases e
   exact ⟨ρ, _, _, A, w, e1, fun v H' A' w' sm rv => absurd e2 (by rw [Gj rv]; simp), kx⟩
theorem Gk (ha : PXZ X G a h) (hst : starEach [a] X.env = [(false, eval a X.env)] := by rfl) : PXAZ X G [a] (Ju h) := fun A0 He pos pins s σ H Q I ⟨ρ, ds, ρ', A, w, e, k, kx⟩ => by
 refine Bs (@ha A0 He) Fo hst pos pins s σ H Q I ?_
 unfold Ju at e
 cases e1 : h ρ with
 | none => simp [e1] at e
 | some r =>
  simp only [e1, Option.map_some] at e
  cases e
  exact ⟨ρ, _, _, A, w, e1, fun v H' A' w' sm rv => k _ _ A' w' sm (.cons rv .nil), fun c gs z => kx c gs (by unfold excL; rw [List.findSome?_cons, z])⟩
theorem Dr (ha : PF X G a fa) (hr : PXAZ X G es hs) (hst : starEach (a :: es) X.env = (false, eval a X.env) :: starEach es X.env := by rfl) : PXAZ X G (a :: es) (HS fa hs) := fun A0 He pos pins s σ H Q I ⟨ρ, ds, ρ', A, w, e, k, kx⟩ => by
 refine Bs (@ha A) (@hr A0 He) hst pos pins s σ H Q I ?_
 unfold HS at e
 cases e1 : fa ρ with
 | none => simp [e1] at e
 | some d =>
  cases e2 : hs ρ with
  | none => simp [e1, e2] at e
  | some r =>
   simp only [e1, e2, Option.bind_some, Option.map_some] at e
   cases e
   refine ⟨ρ, d, w.ok, e1, fun v H1 s1 r1 => ⟨ρ, r.1, _, A, w.mono s1, e2, fun vs H2 A2 w2 sm rv => k _ _ A2 w2 ((An s1).trans sm) (.cons (r1.mono sm) rv), fun c gs z => kx c gs (by unfold excL; rw [List.findSome?_cons, Gj r1]; exact z)⟩⟩
theorem Qk {H : Hp} {vs : List V} {ds : List D} (r : RepL G H vs ds) : excL ds = none := by
 unfold excL
 rw [List.findSome?_eq_none_iff]
 intro d hd
 obtain ⟨i, hi⟩ := List.getElem?_of_mem hd
 obtain ⟨x, _, rx⟩ := r.get hi
 exact Gj rx
theorem Ja {x1} (ha : PXAZ X G es hs) : PXZ X G (.Tuple es x1 pos) (J7 hs) := fun A0 He pins s σ H Q I ⟨ρ, d, ρ', A, w, e, k, kx⟩ => by
 refine KZ (@ha A0 He) pins s σ H Q I ?_
 unfold J7 at e
 cases e1 : hs ρ with
 | none => simp [e1] at e
 | some r =>
  simp only [e1, Option.bind_some] at e
  cases e2 : excL r.1 with
  | some q =>
   simp only [e2] at e
   cases e
   refine ⟨ρ, r.1, _, A, w, e1, fun vs H1 A1 w1 sm rv => absurd e2 (by rw [Qk rv]; simp), fun c gs z => ?_⟩
   rw [e2] at z
   cases z
   exact kx c gs rfl
  | none =>
   simp only [e2] at e
   split at e
   ·rename_i hz
    cases e
    refine ⟨ρ, r.1, _, A, w, e1, fun vs H1 A1 w1 sm rv => ⟨by rw [rv.1]; exact hz, fun p hp => ?_⟩, fun c gs z => by rw [e2] at z; cases z⟩
    exact k _ _ A1 (w1.mono (Bc hp _)) (sm.trans (An (Bc hp _))) (En w1.ok.live hp rv)
   ·cases e
end
end PV
namespace PV
open PySem PySem.Spec L2 EX
open PyProof.Rows hiding St
section
variable {X : Cx} {k : Nat} {f C : Addr} {fd : FuncData} {ps : List Str} {sp : Sp} {m : Str} {pos apos : Pos} {o : Expr} {ta : TE}
theorem NZ {pl : Sem Bool} (he : PE X o ta) (c : Cls X.K C) (hm : Meth X.K C m f) (F : FnOk X.prog X.w X.K X.mg X.base (CX1 X.prog X.w) k f fd ps sp) (hr : Room k X.A) (hb : Binds X.K fd ps [])
  (ht : eval (.Call (.Attribute o m apos) [] [] pos) X.env = (do
   let ov ← eval o X.env
   standAt apos.atName
   let (f, first) ← holding [ov] (getMethod ov m pl)
   callWith pos f first (backTo pos (starEach [] X.env)) (backToKw pos (keywordEach [] X.env))) := by rfl) :
  PE X (.Call (.Attribute o m apos) [] [] pos) (QQ X C m sp ta tNil) := by
 intro pins s σ H Q I h
 refine PySem.W.methodCall_KW (pl := pl) (thn (he pins s σ H _ I h) fun u s1 ⟨y, H1, I1, ry, a, dx, fs, ey, ea, l, q⟩ => ?_) ht
 subst ey
 obtain rfl : u = Value.ref a := ry
 exact Dy I1 ea c hm l (PySem.W.callWith_K0 (first := [.ref a]) I1.kIn hm.kp (JV (us := [.ref a]) (vs := [.ref a]) F hr hb I1 (.cons rfl .nil) q))
end
section
variable {X : Cx} {G : Gx} {b : Expr} {rp p pos apos : Pos} {es : List Expr} {fs : FA} {A0 : List Addr} {He : Hp}
theorem Ks {σ : St} {H1 : Hp} {A : List Addr} {ρ : Rho} {d so so' : D} {i : Nat} {y : Addr} (w : OkW G A0 He A σ H1 ρ) (hi : ρ[i]? = some (.ow so)) (h1 : σ[i]? = some (some (.ref y))) (kx : RzO X G A0 He d (ρ.set i (.ow so'))) : XWS G y A H1 d so' (J3 X σ) := fun c gs z e T H2 H' sx t x pins s' I => kx c gs z pins σ H2 H' s' e (some T) I ⟨A, w.wrX hi h1 sx t⟩ x
theorem Ql {k i : Nat} {f : Addr} {fd : FuncData} {ps : List Str} {g : List D → Option (D × D)} {x r : Str} (F : FnOk X.prog X.w X.K X.mg X.base (CX1 X.prog X.w) k f fd ps (spSZ G g)) (hr : Room k X.A) (hg : Gl X x) (hm : X.mg x = some (.ref f)) (hk : PySem.W.keepIn X.K (.ref f) = true)
  (hb : Binds X.K fd ps []) (hv : PE X (.Name r rp) (tVar i)) (ha : PFA X G es fs) (hdb : (x == ("__debug__" : Str)) = false := by decide) (he : starEach (.Name r rp :: es) X.env = (false, eval (.Name r rp) X.env) :: starEach es X.env := by rfl) (hpl : (backTo pos (starEach es X.env)).any (·.1) = false := by rfl) :
  PXZ X G (.Call (.Name x p) (.Name r rp :: es) [] pos) (Eh g i fs) := fun A0 He pins s σ H Q I ⟨ρ, d, ρ', A, w, e, k, kx⟩ => by
 refine J4 F hr hg hm hk hb (Bs hv (@ha A) he) hdb he hpl pins s σ H Q I ?_
 unfold Eh at e
 cases e1 : fs ρ with
 | none => simp [e1] at e
 | some ds =>
  cases e2 : ownO ρ i with
  | none => simp [e1, e2] at e
  | some so =>
   cases e3 : g (so :: ds) with
   | none => simp [e1, e2, e3] at e
   | some r =>
    simp only [e1, e2, e3, Option.bind_some, Option.map_some] at e
    cases e
    have hi := Do e2
    obtain ⟨y, h1, hA, t⟩ := w.ok.ow i so hi
    refine ⟨_, h1, ρ, ds, w.ok, e1, fun vs H1 s1 r1 => ?_⟩
    exact ⟨A, y, vs, so, ds, r.1, r.2, rfl, (w.mono s1).ok.live, hA, t.mono s1, r1, e3, fun v H' sx t' rv => k v H' A ((w.mono s1).wrX hi h1 sx t') ((An s1).trans (Bq hA sx)) rv, Ks (w.mono s1) hi h1 kx⟩
theorem Ho {c m : Str} {g : List D → Option (D × D)} {i : Nat} {ρ ρ' : Rho} {d : D} (e : Bg c m g i fs ρ = some (d, ρ')) : ∃ so ds so', ρ[i]? = some (.ow so) ∧ isOb c m so = true ∧ fs ρ = some ds ∧ g (so :: ds) = some (d, so') ∧ ρ' = ρ.set i (.ow so') := by
 unfold Bg at e
 cases e2 : ownO ρ i with
 | none => simp [e2] at e
 | some so =>
  simp only [e2, Option.bind_some] at e
  split at e
  ·rename_i ho
   cases e1 : fs ρ with
   | none => simp [e1] at e
   | some ds =>
    cases e3 : g (so :: ds) with
    | none => simp [e1, e3] at e
    | some r =>
     simp only [e1, e3, Option.bind_some, Option.map_some] at e
     cases e
     exact ⟨so, ds, r.2, Do e2, ho, rfl, e3, rfl⟩
  ·cases e
theorem Qm {pl : Sem Bool} {k i : Nat} {f C : Addr} {fd : FuncData} {ps : List Str} {g : List D → Option (D × D)} {cn m r : Str} (hcl : G.cl cn = some C) (hc : Cls X.K C) (hme : Meth X.K C m f) (F : FnOk X.prog X.w X.K X.mg X.base (CX1 X.prog X.w) k f fd ps (spSZ G g)) (hr : Room k X.A)
  (hb : Binds X.K fd ps []) (hv : PE X (.Name r rp) (tVar i)) (ha : PFA X G (b :: es) fs) (hst : starEach (b :: es) X.env = (false, eval b X.env) :: starEach es X.env := by rfl) (hpl : (backTo pos (starEach es X.env)).any (·.1) = false := by rfl)
  (ht : eval (.Call (.Attribute (.Name r rp) m apos) (b :: es) [] pos) X.env = (do
   let ov ← eval (.Name r rp) X.env
   standAt apos.atName
   let (f, first) ← holding [ov] (getMethod ov m pl)
   callWith pos f first (backTo pos (starEach (b :: es) X.env)) (backToKw pos (keywordEach [] X.env))) := by rfl) :
  PXZ X G (.Call (.Attribute (.Name r rp) m apos) (b :: es) [] pos) (Bg cn m g i fs) := fun A0 He pins s σ H Q I ⟨ρ, d, ρ', A, w, e, k, kx⟩ => by
 refine QR (pl := pl) hv hc hme F hr hb (@ha A) hst hpl ht pins s σ H Q I ?_
 obtain ⟨so, ds, so', hi, ho, e1, e3, rfl⟩ := Ho e
 obtain ⟨y, h1, hA, t⟩ := w.ok.ow i so hi
 obtain ⟨dx, xs, q1, q2⟩ := Ep hcl ho t
 refine ⟨_, h1, y, dx, xs, rfl, q1, q2, ρ, ds, w.ok, e1, fun vs H1 s1 r1 => ?_⟩
 exact ⟨A, y, vs, so, ds, d, so', rfl, (w.mono s1).ok.live, hA, t.mono s1, r1, e3, fun v H' sx t' rv => k v H' A ((w.mono s1).wrX hi h1 sx t') ((An s1).trans (Bq hA sx)) rv, Ks (w.mono s1) hi h1 kx⟩
theorem Nb {pl : Sem Bool} {k i : Nat} {f C : Addr} {fd : FuncData} {ps : List Str} {g : List D → Option (D × D)} {cn m r : Str} (hcl : G.cl cn = some C) (hc : Cls X.K C) (hme : Meth X.K C m f) (F : FnOk X.prog X.w X.K X.mg X.base (CX1 X.prog X.w) k f fd ps (spSZ G g)) (hr : Room k X.A)
  (hb : Binds X.K fd ps []) (hv : PE X (.Name r rp) (tVar i))
  (ht : eval (.Call (.Attribute (.Name r rp) m apos) [] [] pos) X.env = (do
   let ov ← eval (.Name r rp) X.env
   standAt apos.atName
   let (f, first) ← holding [ov] (getMethod ov m pl)
   callWith pos f first (backTo pos (starEach [] X.env)) (backToKw pos (keywordEach [] X.env))) := by rfl) :
  PXZ X G (.Call (.Attribute (.Name r rp) m apos) [] [] pos) (Bg cn m g i nilA) := fun A0 He pins s σ H Q I ⟨ρ, d, ρ', A, w, e, k, kx⟩ => by
 refine NZ (pl := pl) hv hc hme F hr hb ht pins s σ H Q I ?_
 obtain ⟨so, ds, so', hi, ho, e1, e3, rfl⟩ := Ho e
 cases e1
 obtain ⟨y, h1, hA, t⟩ := w.ok.ow i so hi
 obtain ⟨dx, xs, q1, q2⟩ := Ep hcl ho t
 refine ⟨_, h1, y, dx, xs, rfl, q1, q2, ?_⟩
 exact ⟨A, y, [], so, [], d, so', rfl, w.ok.live, hA, t, .nil, e3, fun v H' sx t' rv => k v H' A (w.wrX hi h1 sx t') (Bq hA sx) rv, Ks w hi h1 kx⟩
end
end PV
namespace PV
open PySem PySem.Spec L2 EX
open PyProof.Rows hiding St
def nxD (d : D) : Option D := match excOf d with | none => some d | some _ => none
def noX (g : List D → Option D) : List D → Option D := fun ds => (g ds).bind nxD
section
variable {P : Program} {w : World} {K : PySem.W.Frag} {mg : Str → Option Value} {base : Heap} {k : Nat} {f : Addr} {fd : FuncData} {ps : List Str} {G : Gx} {sp sp' : Sp}
theorem SX (F : FnOk P w K mg base (CX1 P w) k f fd ps sp) (h : ∀ vs H Q E, sp' vs H Q E → sp vs H Q fun _ _ _ => False) : FnOk P w K mg base CX0 k f fd ps sp' :=
 ⟨fun vs H Q E q => F.len vs H Q _ (h _ _ _ _ q), fun A outer s H args us vs Q E hr he hb hv hs => codeAny_mono (F.run A outer s H args us vs Q _ hr he hb hv (h _ _ _ _ hs)) fun r s' q => by
  cases r with
  | error v => obtain ⟨_, _, _, _, _, _, _, z⟩ := q; exact z.elim
  | ok fl => cases fl <;> exact q⟩
theorem J8 {g : List D → Option D} {ds : List D} {d : D} (e : noX g ds = some d) : g ds = some d ∧ excOf d = none := by
 unfold noX nxD at e
 cases e1 : g ds with
 | none => simp [e1] at e
 | some d' =>
  rw [e1, Option.bind_some] at e
  split at e
  ·rename_i z; cases e; exact ⟨rfl, z⟩
  ·cases e
theorem WL {g : List D → Option D} (F : FnOk P w K mg base (CX1 P w) k f fd ps (spZ G g)) : FnOk P w K mg base CX0 k f fd ps (spD G (noX g)) :=
 SX F fun vs H Q E ⟨A, ds, d, lv, r, e, q⟩ => ⟨A, ds, d, lv, r, (J8 e).1, q, fun c gs z => by rw [(J8 e).2] at z; cases z⟩
end
section
variable {X : Cx} {G : Gx} {a b : Expr} {es : List Expr} {fs : FA} {rp p pos apos : Pos} {h : FZ}
theorem fXZ {k k' i : Nat} {x r : Str} {st : Stmt} {ps : List Str} {d : Dx X.K X.mg x st ps} {g : List D → Option (D × D)} (F : FnOk X.prog X.w X.K X.mg X.base (CX1 X.prog X.w) k d.f d.fd ps (spSZ G g)) (hr : Room k' X.A) (hv : PE X (.Name r rp) (tVar i)) (ha : PFA X G es fs) (hle : k ≤ k' := by omega) (hg : Gl X x := by rfl) (hdb : (x == ("__debug__" : Str)) = false := by decide)
  (he : starEach (.Name r rp :: es) X.env = (false, eval (.Name r rp) X.env) :: starEach es X.env := by rfl) (hpl : (backTo pos (starEach es X.env)).any (·.1) = false := by rfl) : PXZ X G (.Call (.Name x p) (.Name r rp :: es) [] pos) (Eh g i fs) := Ql F (hr.mono hle) hg d.m d.F.kp d.B hv ha hdb he hpl
theorem mXZ {k k' i : Nat} {C : Addr} {c m qual r : Str} {st : Stmt} {ps : List Str} {d : Mx X.K C m qual st ps} {g : List D → Option (D × D)} {pl : Sem Bool} (hc : G.cl c = some C) (cl : Cls X.K C) (F : FnOk X.prog X.w X.K X.mg X.base (CX1 X.prog X.w) k d.f d.fd ps (spSZ G g)) (hr : Room k' X.A) (hv : PE X (.Name r rp) (tVar i)) (ha : PFA X G (b :: es) fs) (hle : k ≤ k' := by omega)
  (hst : starEach (b :: es) X.env = (false, eval b X.env) :: starEach es X.env := by rfl) (hpl : (backTo pos (starEach es X.env)).any (·.1) = false := by rfl)
  (ht : eval (.Call (.Attribute (.Name r rp) m apos) (b :: es) [] pos) X.env = (do
   let ov ← eval (.Name r rp) X.env
   standAt apos.atName
   let (f, first) ← holding [ov] (getMethod ov m pl)
   callWith pos f first (backTo pos (starEach (b :: es) X.env)) (backToKw pos (keywordEach [] X.env))) := by rfl) :
  PXZ X G (.Call (.Attribute (.Name r rp) m apos) (b :: es) [] pos) (Bg c m g i fs) := Qm hc cl d.me F (hr.mono hle) d.B hv ha hst hpl ht
theorem mXZ0 {k k' i : Nat} {C : Addr} {c m qual r : Str} {st : Stmt} {ps : List Str} {d : Mx X.K C m qual st ps} {g : List D → Option (D × D)} {pl : Sem Bool} (hc : G.cl c = some C) (cl : Cls X.K C) (F : FnOk X.prog X.w X.K X.mg X.base (CX1 X.prog X.w) k d.f d.fd ps (spSZ G g)) (hr : Room k' X.A) (hv : PE X (.Name r rp) (tVar i)) (hle : k ≤ k' := by omega)
  (ht : eval (.Call (.Attribute (.Name r rp) m apos) [] [] pos) X.env = (do
   let ov ← eval (.Name r rp) X.env
   standAt apos.atName
   let (f, first) ← holding [ov] (getMethod ov m pl)
   callWith pos f first (backTo pos (starEach [] X.env)) (backToKw pos (keywordEach [] X.env))) := by rfl) :
  PXZ X G (.Call (.Attribute (.Name r rp) m apos) [] [] pos) (Bg c m g i nilA) := Nb hc cl d.me F (hr.mono hle) d.B hv ht
theorem sXZ (hN : X.N.Nodup) (i : Nat) {x : Str} (ha : PXZ X G a h) (hi : X.N[i]? = some x := by rfl) (hx : Loc X.env.scope x := by first | exact Or.inl rfl | exact Or.inr rfl) (hs : swapsWith a (some (.Name x p)) pos.line X.env = pure false := by rfl)
  (hf : X.fn x = true ∨ X.env.scope.names.lookup x = some .local := by first | exact .inl rfl | exact .inr rfl | assumption) : PSZ X G (.Assign [.Name x p] a pos) (GZ i h) := SQ (fun _ h => Iz hN hi hx h hs hf) ha
end
end PV
namespace PV
open PySem PySem.Spec L2
open PyProof.Rows hiding St
theorem Fun.d {K : PySem.W.Frag} {x qual : Str} {st : Stmt} {f : Addr} {fd : FuncData} (F : Fun K x qual st f fd) : FunD K x qual st f fd := ⟨let ⟨oc, od, kV, q⟩ := F.ex; ⟨oc, od, .none, kV, q⟩, F.kp⟩
end PV
namespace L2
theorem Fun.d {K : PySem.W.Frag} {x qual : PySem.Str} {st : PySem.Stmt} {f : PySem.Addr} {fd : PySem.FuncData} (F : Fun K x qual st f fd) : PV.FunD K x qual st f fd := PV.Fun.d F
end L2
namespace PV
open PySem PySem.Spec L2
section
variable {es l1 l2 : List Expr} {env : Env} {pos : Pos} {a b c : Expr}
theorem Gu {k j} : starEach (.Constant k j pos :: es) env = (false, eval (.Constant k j pos) env) :: starEach es env := rfl
theorem BV {x} : starEach (.Name x pos :: es) env = (false, eval (.Name x pos) env) :: starEach es env := rfl
theorem Qn {o} : starEach (.BinOp a o b pos :: es) env = (false, eval (.BinOp a o b pos) env) :: starEach es env := rfl
theorem Qo : starEach (.IfExp a b c pos :: es) env = (false, eval (.IfExp a b c pos) env) :: starEach es env := rfl
theorem Qp {x} : starEach (.Tuple l1 x pos :: es) env = (false, eval (.Tuple l1 x pos) env) :: starEach es env := rfl
theorem Mi {k} : starEach (.Call a l1 k pos :: es) env = (false, eval (.Call a l1 k pos) env) :: starEach es env := rfl
end
section
variable {X : Cx} {G : Gx} {es : List Expr} {fs : FA} {pos : Pos}
theorem iS {i j} (h : PFA X G es fs) : PFA X G (.Constant (.str i) j pos :: es) (Ab (kF (.str i)) fs) := Ah Gh h Gu
theorem iI {i j} (h : PFA X G es fs) : PFA X G (.Constant (.int i) j pos :: es) (Ab (kF (.int i)) fs) := Ah Kg h Gu
end
section
variable {G : Gx} {mg : Str → Option Value} {cs : List Str} {R : Addr} {cn f qual : Str} {st : Stmt} {ps : List Str}
theorem Sd (x : XT G cs R) : ∀ c C, cs.contains c = true → G.xcl c = some C → ∃ R', EX.XC G.K C R' ∧ (R = R' ∨ R = C) := fun c C h g => ⟨R, x.xc c C h g, .inl rfl⟩
end
end PV
namespace K25
open PySem PySem.Spec L2 PV EX
open PyProof.Rows hiding St
def c_KEPT_TEXTS : D := (.tup ((["not", "and", "or", "some", "all"] : List Str).map .str))
def c_BINDERS : D := (.tup ((["some", "all"] : List Str).map .str))
def DX : FS := seqF (fldS "line" 0 (vF 1)) (fldS "at" 0 (kF (.int 0)))
def DY : List D → Option (D × D) := runS 2 2 DX
def Dc : FS := retF (bF (eqD false) (slF (uF (fldD "line") (vF 0)) (someO (uF (fldD "at") (vF 0))) (someO (bF addD (uF (fldD "at") (vF 0)) (uF lenD (vF 1))))) (vF 1))
def Ao : List D → Option D := runF 2 2 Dc
def B_ : FS := retF (andF (bF ltD (uF (fldD "at") (vF 0)) (uF lenD (uF (fldD "line") (vF 0)))) (bF (inD false) (bF ixD (uF (fldD "line") (vF 0)) (uF (fldD "at") (vF 0))) (kF (.str "abcdefghijklmnopqrstuvwxyz"))))
def Bf : List D → Option D := runF 1 1 B_
def Ds : FT := trF (Ei "Reader" "is_at_letter" (Bf) 0 (nilA))
def Dt : FS := fldS "at" 0 (bF addD (uF (fldD "at") (vU 0)) (kF (.int 1)))
def CG : FS := seqF (setF 1 (uF (fldD "at") (vU 0))) (seqF (Ft (Ds) (Dt) 60) (retF (slF (uF (fldD "line") (vU 0)) (someO (vF 1)) (someO (uF (fldD "at") (vU 0))))))
def CJ : List D → Option (D × D) := runS 2 1 CG
def Fb : FS := seqF (ifS (notT (trF (Ei "Reader" "is_ahead" (Ao) 0 (Ab (vF 1) (nilA))))) (retF (excF "NoSaying" "line" okSD (uF (fldD "line") (vU 0)))) (nxF)) (fldS "at" 0 (bF addD (uF (fldD "at") (vU 0)) (uF lenD (vF 1))))
def Aj : List D → Option (D × D) := runS 2 2 Fb
def CK (rec_read_saying : List D → Option (D × D)) : FS := seqF (Cg (Bg "Reader" "take" (Aj) 0 (Ab (kF (.str "(")) (nilA)))) (seqF (GZ 1 (Eh (rec_read_saying) 0 (nilA))) (seqF (setF 2 (ifF (trF (Ei "Reader" "is_ahead" (Ao) 0 (Ab (kF (.str " and ")) (nilA)))) (kF (.str "both")) (kF (.str "either")))) (seqF (Cg (Bg "Reader" "take" (Aj) 0 (Ab (ifF (blF (bF (eqD false) (vF 2) (kF (.str "both")))) (kF (.str " and ")) (kF (.str " or "))) (nilA)))) (seqF (GZ 3 (Eh (rec_read_saying) 0 (nilA))) (seqF (Cg (Bg "Reader" "take" (Aj) 0 (Ab (kF (.str ")")) (nilA)))) (retF (tupF (Ab (vF 2) (Ab (vF 1) (Ab (vF 3) (nilA)))))))))))
def CN (rec_read_saying : List D → Option (D × D)) : List D → Option (D × D) := runS 4 1 (CK rec_read_saying)
def Cv : FS := seqF (ifS (notT (trF (Ei "Reader" "is_at_letter" (Bf) 0 (nilA)))) (retF (excF "NoSaying" "line" okSD (uF (fldD "line") (vU 0)))) (nxF)) (seqF (fldS "at" 0 (bF addD (uF (fldD "at") (vU 0)) (kF (.int 1)))) (retF (bF ixD (uF (fldD "line") (vU 0)) (bF subD (uF (fldD "at") (vU 0)) (kF (.int 1))))))
def BP : List D → Option (D × D) := runS 1 1 Cv
def J9 : FE := bF (inF false) (vF 1) (kF (.str "abcdefghijklmnopqrstuvwxyz"))
def Ir : FS := seqF (ifS (orT (blF (bF (inF false) (vF 0) (kF c_KEPT_TEXTS))) (orT (blF (bF (eqD false) (uF lenE (vF 0)) (kF (.int 0)))) (blF (bF gtD (uF lenE (vF 0)) (kF (.int 8)))))) (retF (kF (.bl false))) (nxF)) (retF (uF allD (LK (seqA (vF 0)) (allT) (J9))))
def Iu : List D → Option D := runF 1 1 Ir
def Cw : FS := seqF (ifS (notT (trF (Dk (Iu) (Ab (vF 1) (nilA))))) (retF (excF "NoSaying" "line" okSD (uF (fldD "line") (vU 0)))) (nxF)) (seqF (Cg (Bg "Reader" "take" (Aj) 0 (Ab (kF (.str "(")) (nilA)))) (seqF (GZ 2 (Bg "Reader" "take_name" (BP) 0 (nilA))) (seqF (ifS (trF (Ei "Reader" "is_ahead" (Ao) 0 (Ab (kF (.str ")")) (nilA)))) (seqF (Cg (Bg "Reader" "take" (Aj) 0 (Ab (kF (.str ")")) (nilA)))) (retF (tupF (Ab (kF (.str "mark")) (Ab (vF 1) (Ab (vF 2) (nilA))))))) (nxF)) (seqF (Cg (Bg "Reader" "take" (Aj) 0 (Ab (kF (.str ",")) (nilA)))) (seqF (GZ 3 (Bg "Reader" "take_name" (BP) 0 (nilA))) (seqF (Cg (Bg "Reader" "take" (Aj) 0 (Ab (kF (.str ")")) (nilA)))) (retF (tupF (Ab (kF (.str "tie")) (Ab (vF 1) (Ab (vF 2) (Ab (vF 3) (nilA)))))))))))))
def Cy : List D → Option (D × D) := runS 4 2 Cw
def Gv : FS := seqF (ifS (blF (bF (eqD true) (uF lenD (vF 1)) (kF (.int 1)))) (retF (excF "NoSaying" "line" okSD (uF (fldD "line") (vU 0)))) (nxF)) (seqF (Cg (Bg "Reader" "take" (Aj) 0 (Ab (kF (.str "=")) (nilA)))) (retX (J7 (HS (kF (.str "same")) (HS (vF 1) (Ju (Bg "Reader" "take_name" (BP) 0 (nilA))))))))
def Gw : List D → Option (D × D) := runS 2 2 Gv
def Cz (rec_read_saying : List D → Option (D × D)) : FS := seqF (Cg (Bg "Reader" "take" (Aj) 0 (Ab (kF (.str " ")) (nilA)))) (seqF (GZ 2 (Bg "Reader" "take_name" (BP) 0 (nilA))) (seqF (Cg (Bg "Reader" "take" (Aj) 0 (Ab (kF (.str " ")) (nilA)))) (retX (J7 (HS (vF 1) (HS (vF 2) (Ju (Eh (rec_read_saying) 0 (nilA)))))))))
def C_ (rec_read_saying : List D → Option (D × D)) : List D → Option (D × D) := runS 3 2 (Cz rec_read_saying)
def Fd (rec_read_saying : List D → Option (D × D)) : FS := seqF (ifS (trF (Ei "Reader" "is_ahead" (Ao) 0 (Ab (kF (.str "(")) (nilA)))) (retX (Eh (CN rec_read_saying) 0 (nilA))) (nxF)) (seqF (setX 1 (Bg "Reader" "take_letters" (CJ) 0 (nilA))) (seqF (ifS (trF (Ei "Reader" "is_ahead" (Ao) 0 (Ab (kF (.str "(")) (nilA)))) (retX (Eh (Cy) 0 (Ab (vF 1) (nilA)))) (nxF)) (seqF (ifS (trF (Ei "Reader" "is_ahead" (Ao) 0 (Ab (kF (.str "=")) (nilA)))) (retX (Eh (Gw) 0 (Ab (vF 1) (nilA)))) (nxF)) (seqF (ifS (blF (bF (inD false) (vF 1) (kF c_BINDERS))) (retX (Eh (C_ rec_read_saying) 0 (Ab (vF 1) (nilA)))) (nxF)) (seqF (ifS (blF (bF (eqD true) (vF 1) (kF (.str "not")))) (retF (excF "NoSaying" "line" okSD (uF (fldD "line") (vU 0)))) (nxF)) (seqF (Cg (Bg "Reader" "take" (Aj) 0 (Ab (kF (.str " ")) (nilA)))) (retX (J7 (HS (kF (.str "not")) (Ju (Eh (rec_read_saying) 0 (nilA))))))))))))
def Cj : Nat → List D → Option (D × D)
 | 0 => fun _ => none
 | n + 1 => runS 2 1 (Fd (Cj n))
def Qq : FS := seqF (setW 1 (mkF "Reader" (DY) (Ab (vF 0) (nilA)))) (seqF (GZ 2 (Eh (Cj 20) 1 (nilA))) (seqF (ifS (blF (bF ltD (uF (fldD "at") (vU 1)) (uF lenD (vF 0)))) (retF (excF "NoSaying" "line" okSD (vF 0))) (nxF)) (retF (vF 2))))
def Jb : List D → Option D := runF 3 1 Qq
def Et : FS := seqF (setF 1 (kF .non)) (seqF (tryF ["NoSaying"] 2 (QL (Dk (Jb) (Ab (vF 0) (nilA)))) (setF 1 (vF 2))) (seqF (ifS (orT (notT (trF (uF (isxD ["NoSaying"] ["NoSaying"]) (vF 1)))) (notT (trF (uF (isxD ["NoSaying"] ["NoSaying"]) (vF 1))))) (retF (kF (.bl false))) (nxF)) (seqF (ifS (trF (uF (isxD ["NoSaying"] ["NoName", "NoPointing", "NoThing", "NoWord", "TooGreat", "Unlike"]) (vF 1))) (retF (kF (.bl false))) (nxF)) (retF (bF (eqD false) (uF (fldE ["NoSaying"] "line") (vF 1)) (vF 0))))))
def Bv : List D → Option D := runF 3 1 Et
def Dj : FS := seqF (ifS (blF (bF (eqD false) (bF modD (vF 1) (kF (.int 4))) (kF (.int 1)))) (retF (bF addD (kF (.str "not ")) (vF 0))) (nxF)) (seqF (ifS (blF (bF (eqD false) (bF modD (vF 1) (kF (.int 4))) (kF (.int 2)))) (retF (bF addD (kF (.str "some x ")) (vF 0))) (nxF)) (seqF (ifS (blF (bF (eqD false) (bF modD (vF 1) (kF (.int 4))) (kF (.int 3)))) (retF (bF addD (bF addD (kF (.str "(")) (vF 0)) (kF (.str " and x=y)")))) (nxF)) (retF (vF 0))))
def BK : List D → Option D := runF 2 2 Dj
def Hq : FS := seqF (setF 1 (lstF (Ab (kF (.str "")) (Ab (kF (.str " ")) (Ab (kF (.str "x")) (Ab (kF (.str "x=")) (Ab (kF (.str "=x")) (Ab (kF (.str "x==y")) (Ab (kF (.str "x=y ")) (Ab (kF (.str " x=y")) (Ab (kF (.str "x = y")) (Ab (kF (.str "red")) (Ab (kF (.str "red()")) (Ab (kF (.str "red(x")) (Ab (kF (.str "red x)")) (Ab (kF (.str "red(xy)")) (nilA))))))))))))))))) (seqF (setF 1 (bF addD (vF 1) (lstF (Ab (kF (.str "red(x,)")) (Ab (kF (.str "red(,x)")) (Ab (kF (.str "red(x, y)")) (Ab (kF (.str "red(x,y,z)")) (Ab (kF (.str "Red(x)")) (Ab (kF (.str "red(X)")) (Ab (kF (.str "abcdefghi(x)")) (Ab (kF (.str "not(x)")) (nilA)))))))))))) (seqF (setF 1 (bF addD (vF 1) (lstF (Ab (kF (.str "and(x)")) (Ab (kF (.str "or(x,y)")) (Ab (kF (.str "some(x)")) (Ab (kF (.str "all(x)")) (Ab (kF (.str "not")) (Ab (kF (.str "not ")) (Ab (kF (.str "notx=y")) (Ab (kF (.str "not  x=y")) (Ab (kF (.str "some x")) (Ab (kF (.str "(x=y)")) (nilA)))))))))))))) (seqF (setF 1 (bF addD (vF 1) (lstF (Ab (kF (.str "some x=y")) (Ab (kF (.str "some xy x=y")) (Ab (kF (.str "some  x x=y")) (Ab (kF (.str "all x ")) (Ab (kF (.str "(x=y and )")) (Ab (kF (.str "(x=y and x=y")) (Ab (kF (.str "x=y and x=y")) (nilA))))))))))) (seqF (setF 1 (bF addD (vF 1) (lstF (Ab (kF (.str "(x=y and x=y or x=y)")) (Ab (kF (.str "(x=y  and x=y)")) (Ab (kF (.str "(x=y And x=y)")) (Ab (kF (.str "(x=y nor x=y)")) (Ab (kF (.str "((x=y and x=y))")) (nilA))))))))) (seqF (setF 1 (bF addD (vF 1) (lstF (Ab (kF (.str "xx=y")) (Ab (kF (.str "x=yy")) (Ab (kF (.str "some X x=y")) (Ab (kF (.str "all 1 x=y")) (Ab (kF (.str "x=1")) (Ab (kF (.str "red(1)")) (Ab (kF (.str "r3d(x)")) (Ab (kF (.str "(x=y,x=y)")) (nilA)))))))))))) (retF (bF ixD (vF 1) (bF modD (vF 0) (kF (.int 52))))))))))
def BZ : List D → Option D := runF 2 1 Hq
def Jc : FS := ifS (notT (trF (Dk (Bv) (Ab (Dk (BK) (Ab (Dk (BZ) (Ab (bF K_ (vF 1) (kF (.int 4))) (nilA))) (Ab (vF 1) (nilA)))) (nilA))))) (retF (kF (.bl false))) (nxF)
def Qs : FS := seqF (forS (seqI (bF addD (lstF (Ab (kF (.int 0)) (nilA))) (slF (vF 0) (noO) (someO (kF (.int 63)))))) (LC 1) (Jc)) (retF (bF (eqD false) (Dk (noX (Jb)) (Ab (kF (.str "not x=y")) (nilA))) (tupF (Ab (kF (.str "not")) (Ab (tupF (Ab (kF (.str "same")) (Ab (kF (.str "x")) (Ab (kF (.str "y")) (nilA))))) (nilA))))))
def J_ : List D → Option D := runF 2 1 Qs
end K25
namespace K25
open PySem PySem.Spec L2 PV EX
open PyProof.Rows hiding St
def top (i : Nat) : Stmt := PySem.Challenge.pw_twinrounds_k25_no_saying.main.body.getD i (.Pass ⟨0, 0, 0, 0⟩)
abbrev Dd : Stmt := inClass (top 18) 0
abbrev De : Stmt := inClass (top 18) 1
abbrev CP : Stmt := inClass (top 18) 2
abbrev CQ : Stmt := inClass (top 18) 5
abbrev Ga : Stmt := inClass (top 6) 0
abbrev Fe : Stmt := inClass (top 18) 3
abbrev CT : Stmt := top 21
abbrev DG : Stmt := inClass (top 18) 4
abbrev Gm : Stmt := top 13
abbrev DK : Stmt := top 19
abbrev Gy : Stmt := top 20
abbrev DN : Stmt := top 22
abbrev Ff : Stmt := top 23
abbrev Qt : Stmt := top 24
abbrev Eu : Stmt := top 28
abbrev Fg : Stmt := top 27
abbrev Hr : Stmt := top 26
abbrev T_ : Stmt := top 29
structure Tx (G : Gx) (mg : Str → Option Value) where
 C_Reader : Addr
 gc_Reader : G.cl "Reader" = some C_Reader
 cl_Reader : Cls G.K C_Reader
 mC_Reader : mg "Reader" = some (.ref C_Reader)
 x_Reader___init__ : Ix G.K C_Reader "Reader.__init__" Dd ["self", "line"]
 x_Reader_is_ahead : Mx G.K C_Reader "is_ahead" "Reader.is_ahead" De ["self", "text"]
 x_Reader_is_at_letter : Mx G.K C_Reader "is_at_letter" "Reader.is_at_letter" CP ["self"]
 x_Reader_take_letters : Mx G.K C_Reader "take_letters" "Reader.take_letters" CQ ["self"]
 x_Reader_take : Mx G.K C_Reader "take" "Reader.take" Fe ["self", "text"]
 x_read_both_or_either : Dx G.K mg "read_both_or_either" CT ["reader"]
 x_Reader_take_name : Mx G.K C_Reader "take_name" "Reader.take_name" DG ["self"]
 x_is_word : Dx G.K mg "is_word" Gm ["text"]
 x_read_mark_or_tie : Dx G.K mg "read_mark_or_tie" DK ["reader", "word"]
 x_read_same : Dx G.K mg "read_same" Gy ["reader", "name"]
 x_read_some_or_all : Dx G.K mg "read_some_or_all" DN ["reader", "sort"]
 x_read_saying : Dx G.K mg "read_saying" Ff ["reader"]
 x_read : Dx G.K mg "read" Qt ["line"]
 x__law_refused : Dx G.K mg "_law_refused" Eu ["_law_line"]
 x__law_within : Dx G.K mg "_law_within" Fg ["_law_line", "_law_cell"]
 x__law_odd : Dx G.K mg "_law_odd" Hr ["_law_cell"]
 x_law : Dx G.K mg "law" T_ ["_law_script"]
 r : Rx G.K mg "RoundError"
 xt : XT G ["NoSaying"] r.R
 e_NoSaying : Xx G mg r.R "NoSaying" "line" "NoSaying.__init__" Ga ["self", "line"]
 a_NoName : Ax mg "NoName"
 a_NoPointing : Ax mg "NoPointing"
 a_NoThing : Ax mg "NoThing"
 a_NoWord : Ax mg "NoWord"
 a_TooGreat : Ax mg "TooGreat"
 a_Unlike : Ax mg "Unlike"
 k_0 : Kit G ["NoSaying"] [.ref e_NoSaying.C] ["NoSaying"]
 k_1 : Kit G ["NoSaying"] [.type "ValueError"] ["NoSaying"]
 k_2 : Kit G ["NoSaying"] [.ref a_NoName.a, .ref a_NoPointing.a, .ref a_NoThing.a, .ref a_NoWord.a, .ref a_TooGreat.a, .ref a_Unlike.a] ["NoName", "NoPointing", "NoThing", "NoWord", "TooGreat", "Unlike"]
 nf_line : ∀ c C, (["NoSaying"] : List Str).contains c = true → G.xcl c = some C → BW G.K C "line"
 z_ValueError : mg "ValueError" = none
 z_all : mg "all" = none
 z_isinstance : mg "isinstance" = none
 z_len : mg "len" = none
 s_LETTERS : Sx mg "LETTERS" (.str "abcdefghijklmnopqrstuvwxyz")
 s_AND : Sx mg "AND" (.str " and ")
 s_OR : Sx mg "OR" (.str " or ")
 s_MOST_LETTERS : Sx mg "MOST_LETTERS" (.int 8)
 fl_line : ∀ c C, G.cl c = some C → Cls G.K C ∧ BW G.K C "line"
 fl_at : ∀ c C, G.cl c = some C → Cls G.K C ∧ BW G.K C "at"
 c_KEPT_TEXTS : Kx G mg "KEPT_TEXTS" K25.c_KEPT_TEXTS
 c_BINDERS : Kx G mg "BINDERS" K25.c_BINDERS
section
variable {P : Program} {w : World} {G : Gx} {mg : Str → Option Value} {base : Heap}
abbrev Df : List Str := ["self", "line"]
theorem F_ : FnScope Df ["self", "line"] (Aa Dd) := ⟨rfl, rfl, rfl, by decide +kernel, rfl, by decide +kernel, by decide +kernel⟩
theorem GC (T : Tx G mg) : FnOk P w G.K mg base CX0 1 T.x_Reader___init__.f T.x_Reader___init__.fd ["self", "line"] (spS G DY) :=
 fn_S (k := 0) (N := Df) (b := DX) T.x_Reader___init__.F F_ (by decide) fun y _ _ _ _ _ _ hr => Ar (Er T.fl_line (pv 0) (vr 1)) (Az (Er T.fl_at (pv 0) (Kg)))
abbrev Dg : List Str := ["self", "text"]
theorem GD : FnScope Dg ["self", "text"] (Aa De) := ⟨rfl, rfl, rfl, by decide +kernel, rfl, by decide +kernel, by decide +kernel⟩
theorem Av (T : Tx G mg) : FnOk P w G.K mg base CX0 1 T.x_Reader_is_ahead.f T.x_Reader_is_ahead.fd ["self", "text"] (spD G Ao) :=
 fn_D (k := 0) (N := Dg) (b := Dc) T.x_Reader_is_ahead.F GD (by decide) fun _ _ _ _ _ _ hr => Az (Aw (cEq hr (pU (HY rfl (pU (BX T.fl_line (vp 0))) (Eo (pU (BX T.fl_at (vp 0)))) (Eo (pU (bAdd (pU (BX T.fl_at (vp 0))) (pU (Cp (Cd rfl) Ez rfl T.z_len Fz (vp 1)))))))) (vp 1)))
abbrev CV : List Str := ["self"]
theorem Eb : FnScope CV ["self"] (Aa CP) := ⟨rfl, rfl, rfl, by decide +kernel, rfl, by decide +kernel, by decide +kernel⟩
theorem Bw (T : Tx G mg) : FnOk P w G.K mg base CX0 1 T.x_Reader_is_at_letter.f T.x_Reader_is_at_letter.fd ["self"] (spD G Bf) :=
 fn_D (k := 0) (N := CV) (b := B_) T.x_Reader_is_at_letter.F Eb (by decide) fun _ _ _ _ _ _ hr => Az (Aw (U7 (JM Sy Pr (pU (BX T.fl_at (vp 0))) (pU (Cp (Cd rfl) Ez rfl T.z_len Fz (pU (BX T.fl_line (vp 0))))) (Gb _)) (U6 (JM JP (Ko false) (pU (iD (pU (BX T.fl_line (vp 0))) (pU (BX T.fl_at (vp 0))))) (pU (Cq (Ci (v := (.str "abcdefghijklmnopqrstuvwxyz")) rfl T.s_LETTERS.m ⟨_, rfl⟩) (.str _))) (by with_unfolding_all rfl)))))
abbrev CW : List Str := ["self", "start"]
theorem Bx : FnScope CW ["self"] (Aa CQ) := ⟨rfl, rfl, rfl, by decide +kernel, rfl, by decide +kernel, by decide +kernel⟩
theorem Ec (T : Tx G mg) : FnOk P w G.K mg base CX0 2 T.x_Reader_take_letters.f T.x_Reader_take_letters.fd ["self"] (spS G CJ) :=
 fn_S (k := 1) (N := CW) (b := CG) T.x_Reader_take_letters.F Bx (by decide) fun y _ _ _ _ _ _ hr => Ar (sF Bx.nd 1 (BX T.fl_at (vq 0))) (Ar (M5 60 PassesOwn.never (Bm (pU (Io T.gc_Reader T.cl_Reader T.x_Reader_is_at_letter.me (GQ (Bw T)) (hr.mono (by omega)) T.x_Reader_is_at_letter.B (pv 0))) rfl) (Az (Er T.fl_at (pv 0) (bAdd (pU (BX T.fl_at (vq 0))) (iP))))) (Az (Aw (HY rfl (pU (BX T.fl_line (vq 0))) (Eo (vp 1)) (Eo (pU (BX T.fl_at (vq 0))))))))
abbrev Jd : List Str := ["self", "line"]
theorem Hz : FnScope Jd ["self", "line"] (Aa Ga) := ⟨rfl, rfl, rfl, by decide +kernel, rfl, by decide +kernel, by decide +kernel⟩
theorem Br (T : Tx G mg) : FnOk P w G.K mg base CX0 1 T.e_NoSaying.fi T.e_NoSaying.fd ["self", "line"] (spE G.K "line" okS) :=
 T.e_NoSaying.F.ok Hz (fun vs H Q E h => R8 h) fun cdv A outer s H vs Q E hr h => ⟨_, G8 (Iw (QX rfl T.r.m T.r.h1 T.r.h2 T.r.h3 (Bs (pv 0) (Bs (QW (R6 (pv 1)) Va) Fo)))) (Iv (R7 (pv 0) (pv 1) rfl)), M9 h rfl Vb⟩
abbrev Fi : List Str := ["self", "text"]
theorem Hs : FnScope Fi ["self", "text"] (Aa Fe) := ⟨rfl, rfl, rfl, by decide +kernel, rfl, by decide +kernel, by decide +kernel⟩
theorem Ai (T : Tx G mg) : FnOk P w G.K mg base (CX1 P w) 3 T.x_Reader_take.f T.x_Reader_take.fd ["self", "text"] (spSZ G Aj) :=
 Hn (k := 2) (N := Fi) (b := Fb) T.x_Reader_take.F.d Hs (by decide) fun y _ _ _ _ _ _ hr => Ae (Cu (Ey (Bm (pU (Dp T.gc_Reader T.cl_Reader T.x_Reader_is_ahead.me (GQ (Av T)) (hr.mono (by omega)) T.x_Reader_is_ahead.B (pv 0) (Ah (vr 1) (Ac) BV))) rfl)) (Ay (rZ (x := T.e_NoSaying.lend (y := y)) (Br T) hr FJ (BX T.fl_line (vq 0)))) (Bu)) (Ay (PSD.x (Er T.fl_at (pv 0) (bAdd (pU (BX T.fl_at (vq 0))) (pU (Cp (Cd rfl) Ez rfl T.z_len Fz (vp 1)))))))
abbrev CZ : List Str := ["reader", "first", "sort", "second"]
theorem A_ : FnScope CZ ["reader"] (Aa CT) := ⟨rfl, rfl, rfl, by decide +kernel, rfl, by decide +kernel, by decide +kernel⟩
theorem Ed (T : Tx G mg) {m : Nat} {rec_read_saying : List D → Option (D × D)} (hm : 4 ≤ m) (hrec : FnOk P w G.K mg base (CX1 P w) m T.x_read_saying.f T.x_read_saying.fd ["reader"] (spSZ G rec_read_saying)) : FnOk P w G.K mg base (CX1 P w) (m + 1) T.x_read_both_or_either.f T.x_read_both_or_either.fd ["reader"] (spSZ G (CN rec_read_saying)) :=
 Hn (k := m + 0) (N := CZ) (b := CK rec_read_saying) T.x_read_both_or_either.F A_ (by decide) fun y _ _ _ _ _ _ hr => Ae (Bj (mXZ (d := T.x_Reader_take) T.gc_Reader T.cl_Reader (BL (Ai T)) hr (pv 0) (iS (Ac)))) (Ae (sXZ A_.nd 1 (fXZ (BL (hrec)) hr (pv 0) (Ac))) (Ae (PSD.x (sF A_.nd 2 (T7 (Bm (pU (Dp T.gc_Reader T.cl_Reader T.x_Reader_is_ahead.me (GQ (Av T)) (hr.mono (by omega)) T.x_Reader_is_ahead.B (pv 0) (Ah (Cq (Ci (v := (.str " and ")) rfl T.s_AND.m ⟨_, rfl⟩) (.str _)) (Ac) BV))) rfl) (Gh) (Gh)))) (Ae (Bj (mXZ (d := T.x_Reader_take) T.gc_Reader T.cl_Reader (BL (Ai T)) hr (pv 0) (Ah (T7 (tEq hr (vp 2) (sP)) (Cq (Ci (v := (.str " and ")) rfl T.s_AND.m ⟨_, rfl⟩) (.str _)) (Cq (Ci (v := (.str " or ")) rfl T.s_OR.m ⟨_, rfl⟩) (.str _))) (Ac) Qo))) (Ae (sXZ A_.nd 3 (fXZ (BL (hrec)) hr (pv 0) (Ac))) (Ae (Bj (mXZ (d := T.x_Reader_take) T.gc_Reader T.cl_Reader (BL (Ai T)) hr (pv 0) (iS (Ac)))) (Ay (PSD.x (Aw (HX (Ah (vr 2) (Ah (vr 1) (Ah (vr 3) (Ac) BV) BV) BV))))))))))
abbrev DP : List Str := ["self"]
theorem FN : FnScope DP ["self"] (Aa DG) := ⟨rfl, rfl, rfl, by decide +kernel, rfl, by decide +kernel, by decide +kernel⟩
theorem Bb (T : Tx G mg) : FnOk P w G.K mg base (CX1 P w) 3 T.x_Reader_take_name.f T.x_Reader_take_name.fd ["self"] (spSZ G BP) :=
 Hn (k := 2) (N := DP) (b := Cv) T.x_Reader_take_name.F.d FN (by decide) fun y _ _ _ _ _ _ hr => Ae (Cu (Ey (Bm (pU (Io T.gc_Reader T.cl_Reader T.x_Reader_is_at_letter.me (GQ (Bw T)) (hr.mono (by omega)) T.x_Reader_is_at_letter.B (pv 0))) rfl)) (Ay (rZ (x := T.e_NoSaying.lend (y := y)) (Br T) hr FJ (BX T.fl_line (vq 0)))) (Bu)) (Ae (PSD.x (Er T.fl_at (pv 0) (bAdd (pU (BX T.fl_at (vq 0))) (iP)))) (Ay (PSD.x (Aw (iD (pU (BX T.fl_line (vq 0))) (pU (bSub (pU (BX T.fl_at (vq 0))) (iP))))))))
abbrev Du : List Str := ["text"]
theorem Ku : FnScope Du ["text"] (Aa Gm) := ⟨rfl, rfl, rfl, by decide +kernel, rfl, by decide +kernel, by decide +kernel⟩
theorem Kv (T : Tx G mg) : DOk P w base T.x_is_word 1 (spD G Iu) :=
 fnX (k := 0) (N := Du) (b := Ir) T.x_is_word Ku fun _ _ _ _ _ _ hr => Ar (Fy (PFW.pt (Kl (tIn hr (vp 0) (pU (Cq (Ci (v := .ref T.c_KEPT_TEXTS.a) rfl T.c_KEPT_TEXTS.m rfl) T.c_KEPT_TEXTS.r))) (Kl (tEq hr (pU (Cp ((Cd rfl).or Hg) Jz rfl T.z_len Fz (vp 0))) (iP)) (Ii (tGt (pU (Cp ((Cd rfl).or Hg) Jz rfl T.z_len Fz (vp 0))) (pU (Cq (Ci (v := (.int 8)) rfl T.s_MOST_LETTERS.m ⟨_, rfl⟩) (.int _)))))))) (Az (Aw (Lw))) (DW)) (Az (Aw (Cp (M8 rfl) Rt rfl T.z_all VN (pU (Rm (nT Du "letter") (by show Ck "letter" Du ++ (["letter"] : List Str) = _; decide +kernel) (cO (N := Du) (sc := Aa Gm) rfl rfl) rfl (PFI.top (QH rfl (vr 0))) (fun _ _ _ => P0) (fun _ _ _ => cIn hr (vp 1) (pU (Cq (Ci (v := (.str "abcdefghijklmnopqrstuvwxyz")) rfl T.s_LETTERS.m ⟨_, rfl⟩) (.str _)))))))))
abbrev DQ : List Str := ["reader", "word", "first", "second"]
theorem Bo : FnScope DQ ["reader", "word"] (Aa DK) := ⟨rfl, rfl, rfl, by decide +kernel, rfl, by decide +kernel, by decide +kernel⟩
theorem FP (T : Tx G mg) : FnOk P w G.K mg base (CX1 P w) 4 T.x_read_mark_or_tie.f T.x_read_mark_or_tie.fd ["reader", "word"] (spSZ G Cy) :=
 Hn (k := 3) (N := DQ) (b := Cw) T.x_read_mark_or_tie.F Bo (by decide) fun y _ _ _ _ _ _ hr => Ae (Cu (Ey (Bm (pU (fX (GQ (Kv T)) hr (Ah (vr 1) (Ac) BV))) rfl)) (Ay (rZ (x := T.e_NoSaying.lend (y := y)) (Br T) hr FJ (BX T.fl_line (vq 0)))) (Bu)) (Ae (Bj (mXZ (d := T.x_Reader_take) T.gc_Reader T.cl_Reader (BL (Ai T)) hr (pv 0) (iS (Ac)))) (Ae (sXZ Bo.nd 2 (mXZ0 (d := T.x_Reader_take_name) T.gc_Reader T.cl_Reader (BL (Bb T)) hr (pv 0))) (Ae (Cu (Bm (pU (Dp T.gc_Reader T.cl_Reader T.x_Reader_is_ahead.me (GQ (Av T)) (hr.mono (by omega)) T.x_Reader_is_ahead.B (pv 0) (iS (Ac)))) rfl) (Ae (Bj (mXZ (d := T.x_Reader_take) T.gc_Reader T.cl_Reader (BL (Ai T)) hr (pv 0) (iS (Ac)))) (Ay (PSD.x (Aw (HX (iS (Ah (vr 1) (Ah (vr 2) (Ac) BV) BV))))))) (Bu)) (Ae (Bj (mXZ (d := T.x_Reader_take) T.gc_Reader T.cl_Reader (BL (Ai T)) hr (pv 0) (iS (Ac)))) (Ae (sXZ Bo.nd 3 (mXZ0 (d := T.x_Reader_take_name) T.gc_Reader T.cl_Reader (BL (Bb T)) hr (pv 0))) (Ae (Bj (mXZ (d := T.x_Reader_take) T.gc_Reader T.cl_Reader (BL (Ai T)) hr (pv 0) (iS (Ac)))) (Ay (PSD.x (Aw (HX (iS (Ah (vr 1) (Ah (vr 2) (Ah (vr 3) (Ac) BV) BV) BV))))))))))))
abbrev Gz : List Str := ["reader", "name"]
theorem Je : FnScope Gz ["reader", "name"] (Aa Gy) := ⟨rfl, rfl, rfl, by decide +kernel, rfl, by decide +kernel, by decide +kernel⟩
theorem Jf (T : Tx G mg) : FnOk P w G.K mg base (CX1 P w) 4 T.x_read_same.f T.x_read_same.fd ["reader", "name"] (spSZ G Gw) :=
 Hn (k := 3) (N := Gz) (b := Gv) T.x_read_same.F Je (by decide) fun y _ _ _ _ _ _ hr => Ae (Cu (tNe hr (pU (Cp (Cd rfl) Ez rfl T.z_len Fz (vp 1))) (iP)) (Ay (rZ (x := T.e_NoSaying.lend (y := y)) (Br T) hr FJ (BX T.fl_line (vq 0)))) (Bu)) (Ae (Bj (mXZ (d := T.x_Reader_take) T.gc_Reader T.cl_Reader (BL (Ai T)) hr (pv 0) (iS (Ac)))) (Ay (Ea (Ja (Dr (Gh) (Dr (vr 1) (Gk (mXZ0 (d := T.x_Reader_take_name) T.gc_Reader T.cl_Reader (BL (Bb T)) hr (pv 0)))))))))
abbrev DR : List Str := ["reader", "sort", "name"]
theorem Cr : FnScope DR ["reader", "sort"] (Aa DN) := ⟨rfl, rfl, rfl, by decide +kernel, rfl, by decide +kernel, by decide +kernel⟩
theorem FQ (T : Tx G mg) {m : Nat} {rec_read_saying : List D → Option (D × D)} (hm : 4 ≤ m) (hrec : FnOk P w G.K mg base (CX1 P w) m T.x_read_saying.f T.x_read_saying.fd ["reader"] (spSZ G rec_read_saying)) : FnOk P w G.K mg base (CX1 P w) (m + 1) T.x_read_some_or_all.f T.x_read_some_or_all.fd ["reader", "sort"] (spSZ G (C_ rec_read_saying)) :=
 Hn (k := m + 0) (N := DR) (b := Cz rec_read_saying) T.x_read_some_or_all.F Cr (by decide) fun y _ _ _ _ _ _ hr => Ae (Bj (mXZ (d := T.x_Reader_take) T.gc_Reader T.cl_Reader (BL (Ai T)) hr (pv 0) (iS (Ac)))) (Ae (sXZ Cr.nd 2 (mXZ0 (d := T.x_Reader_take_name) T.gc_Reader T.cl_Reader (BL (Bb T)) hr (pv 0))) (Ae (Bj (mXZ (d := T.x_Reader_take) T.gc_Reader T.cl_Reader (BL (Ai T)) hr (pv 0) (iS (Ac)))) (Ay (Ea (Ja (Dr (vr 1) (Dr (vr 2) (Gk (fXZ (BL (hrec)) hr (pv 0) (Ac))))))))))
abbrev Fj : List Str := ["reader", "letters"]
theorem Ew : FnScope Fj ["reader"] (Aa Ff) := ⟨rfl, rfl, rfl, by decide +kernel, rfl, by decide +kernel, by decide +kernel⟩
theorem By (T : Tx G mg) : ∀ n : Nat, FnOk P w G.K mg base (CX1 P w) (n * 2 + 4) T.x_read_saying.f T.x_read_saying.fd ["reader"] (spSZ G (Cj n))
 | 0 => NT
 | n + 1 => (Hn (k := n * 2 + 5) (N := Fj) (b := Fd (Cj n)) T.x_read_saying.F Ew (by decide) fun y _ _ _ _ _ _ hr => Ae (Cu (Bm (pU (Dp T.gc_Reader T.cl_Reader T.x_Reader_is_ahead.me (GQ (Av T)) (hr.mono (by omega)) T.x_Reader_is_ahead.B (pv 0) (iS (Ac)))) rfl) (Ay (Ea (fXZ (BL (Ed T (by omega) (By T n))) hr (pv 0) (Ac)))) (Bu)) (Ae (PSD.x (Rv (i := 1) (fun _ h => Iz Ew.nd rfl (by first | exact Or.inl rfl | exact Or.inr rfl) h) (QK T.gc_Reader T.cl_Reader T.x_Reader_take_letters.me (V9 (Ec T)) (hr.mono (by omega)) T.x_Reader_take_letters.B (pv 0)))) (Ae (Cu (Bm (pU (Dp T.gc_Reader T.cl_Reader T.x_Reader_is_ahead.me (GQ (Av T)) (hr.mono (by omega)) T.x_Reader_is_ahead.B (pv 0) (iS (Ac)))) rfl) (Ay (Ea (fXZ (BL (FP T)) hr (pv 0) (Ah (vr 1) (Ac) BV)))) (Bu)) (Ae (Cu (Bm (pU (Dp T.gc_Reader T.cl_Reader T.x_Reader_is_ahead.me (GQ (Av T)) (hr.mono (by omega)) T.x_Reader_is_ahead.B (pv 0) (iS (Ac)))) rfl) (Ay (Ea (fXZ (BL (Jf T)) hr (pv 0) (Ah (vr 1) (Ac) BV)))) (Bu)) (Ae (Cu (Dm JP (Ko false) (vp 1) (pU (Cq (Ci (v := .ref T.c_BINDERS.a) rfl T.c_BINDERS.m rfl) T.c_BINDERS.r.lend)) (by with_unfolding_all rfl)) (Ay (Ea (fXZ (BL (FQ T (by omega) (By T n))) hr (pv 0) (Ah (vr 1) (Ac) BV)))) (Bu)) (Ae (Cu (tNe hr (vp 1) (sP)) (Ay (rZ (x := T.e_NoSaying.lend (y := y)) (Br T) hr FJ (BX T.fl_line (vq 0)))) (Bu)) (Ae (Bj (mXZ (d := T.x_Reader_take) T.gc_Reader T.cl_Reader (BL (Ai T)) hr (pv 0) (iS (Ac)))) (Ay (Ea (Ja (Dr (Gh) (Gk (fXZ (BL (By T n)) hr (pv 0) (Ac)))))))))))))).mono (by omega)
abbrev Qu : List Str := ["line", "reader", "saying"]
theorem Jg : FnScope Qu ["line"] (Aa Qt) := ⟨rfl, rfl, rfl, by decide +kernel, rfl, by decide +kernel, by decide +kernel⟩
theorem Mj (T : Tx G mg) : FnOk P w G.K mg base (CX1 P w) 45 T.x_read.f T.x_read.fd ["line"] (spZ G Jb) :=
 fnZ (k := 44) (N := Qu) (b := Qq) T.x_read Jg fun _ _ _ _ _ _ hr => Ae (PSD.x (sW Jg.nd 1 (Rw T.gc_Reader T.x_Reader___init__.mM (GC T) (hr.mono (by omega)) rfl T.mC_Reader T.x_Reader___init__.B (Ah (vr 0) (Ac) BV)))) (Ae (sXZ Jg.nd 2 (fXZ (By T 20) hr (pv 1) (Ac))) (Ae (Cu (tLt (pU (BX T.fl_at (vq 1))) (pU (Cp (Cd rfl) Ez rfl T.z_len Fz (vp 0)))) (Ay (rZ (x := T.e_NoSaying) (Br T) hr FJ (vr 0))) (Bu)) (Ay (PSD.x (Aw (vr 2))))))
abbrev Ex : List Str := ["_law_line", "_law_caught", "e"]
theorem Bp : FnScope Ex ["_law_line"] (Aa Eu) := ⟨rfl, rfl, rfl, by decide +kernel, rfl, by decide +kernel, by decide +kernel⟩
theorem G4 (T : Tx G mg) : DOk P w base T.x__law_refused 46 (spD G Bv) :=
 fnX (k := 45) (N := Ex) (b := Et) T.x__law_refused Bp fun _ _ _ _ _ _ hr => Ar (sF Bp.nd 1 (U4)) (Ar (R_ (cs := ["NoSaying"]) (i := 2) rfl rfl Bp.nd rfl rfl rfl T.r.m T.r.x (Sd T.xt) (fun _ _ => Ay (QM (fZ (Mj T) hr (Ah (vr 0) (Ac) BV)))) (fun _ => Az (sF Bp.nd 1 (vr 2)))) (Ar (Fy (PFW.pt (Kl (Ey (Bm (pU (Kr rfl T.xt T.k_0 rfl T.z_isinstance Dh (vr 1) (NK rfl T.e_NoSaying.m))) rfl)) (Ii (Ey (Bm (pU (Kr rfl T.xt T.k_1 rfl T.z_isinstance Dh (vr 1) (Qe rfl T.z_ValueError Hy))) rfl))))) (Az (Aw (Lw))) (DW)) (Ar (Fy (Bm (pU (Kr rfl T.xt T.k_2 rfl T.z_isinstance Dh (vr 1) (NQ (Ce T.a_NoName.m (Ce T.a_NoPointing.m (Ce T.a_NoThing.m (Ce T.a_NoWord.m (Ce T.a_TooGreat.m (Ce T.a_Unlike.m (NP)))))))))) rfl) (Az (Aw (Lw))) (DW)) (Az (Aw (cEq hr (pU (SM rfl T.xt (vr 1) T.nf_line)) (vp 0)))))))
abbrev Fl : List Str := ["_law_line", "_law_cell"]
theorem Ht : FnScope Fl ["_law_line", "_law_cell"] (Aa Fg) := ⟨rfl, rfl, rfl, by decide +kernel, rfl, by decide +kernel, by decide +kernel⟩
theorem Hu (T : Tx G mg) : DOk P w base T.x__law_within 1 (spD G BK) :=
 fnX (k := 0) (N := Fl) (b := Dj) T.x__law_within Ht fun _ _ _ _ _ _ hr => Ar (Fy (tEq hr (pU (bMod (vp 1) (iP))) (iP)) (Az (Aw (bAdd (sP) (vp 0)))) (DW)) (Ar (Fy (tEq hr (pU (bMod (vp 1) (iP))) (iP)) (Az (Aw (bAdd (sP) (vp 0)))) (DW)) (Ar (Fy (tEq hr (pU (bMod (vp 1) (iP))) (iP)) (Az (Aw (bAdd (pU (bAdd (sP) (vp 0))) (sP)))) (DW)) (Az (Aw (vr 0)))))
abbrev Hv : List Str := ["_law_cell", "_law_some"]
theorem Bk : FnScope Hv ["_law_cell"] (Aa Hr) := ⟨rfl, rfl, rfl, by decide +kernel, rfl, by decide +kernel, by decide +kernel⟩
theorem KC (T : Tx G mg) : DOk P w base T.x__law_odd 1 (spD G BZ) :=
 fnX (k := 0) (N := Hv) (b := Hq) T.x__law_odd Bk fun _ _ _ _ _ _ hr => Ar (sF Bk.nd 1 (Fx (iS (iS (iS (iS (iS (iS (iS (iS (iS (iS (iS (iS (iS (iS (Ac))))))))))))))))) (Ar (sF Bk.nd 1 (bAdd (vp 1) (pU (Fx (iS (iS (iS (iS (iS (iS (iS (iS (Ac))))))))))))) (Ar (sF Bk.nd 1 (bAdd (vp 1) (pU (Fx (iS (iS (iS (iS (iS (iS (iS (iS (iS (iS (Ac))))))))))))))) (Ar (sF Bk.nd 1 (bAdd (vp 1) (pU (Fx (iS (iS (iS (iS (iS (iS (iS (Ac)))))))))))) (Ar (sF Bk.nd 1 (bAdd (vp 1) (pU (Fx (iS (iS (iS (iS (iS (Ac)))))))))) (Ar (sF Bk.nd 1 (bAdd (vp 1) (pU (Fx (iS (iS (iS (iS (iS (iS (iS (iS (Ac))))))))))))) (Az (Aw (iD (vp 1) (pU (bMod (vp 0) (iP)))))))))))
abbrev UG : List Str := ["_law_script", "_law_cell"]
theorem Qv : FnScope UG ["_law_script"] (Aa T_) := ⟨rfl, rfl, rfl, by decide +kernel, rfl, by decide +kernel, by decide +kernel⟩
theorem Vh (T : Tx G mg) : DOk P w base T.x_law 47 (spD G J_) :=
 fnX (k := 46) (N := UG) (b := Qs) T.x_law Qv fun _ _ _ _ _ _ hr => Ar (Rj PassesOwn.never rfl (Lz rfl (bAdd (pU (Fx (iI (Ac)))) (pU (HY rfl (vp 0) (Pu) (Eo (iP)))))) (Pz (gN Qv.nd 1)) (Az (Fy (Ey (Bm (pU (fX (G4 T) hr (Ah (fX (Hu T) hr (Ah (fX (KC T) hr (Ah (bDiv (vp 1) (iP)) (Ac) Qn)) (Ah (vr 1) (Ac) BV) Mi)) (Ac) Mi))) rfl)) (Az (Aw (Lw))) (DW)))) (Az (Aw (cEq hr (pU (fX (WL (Mj T)) hr (iS (Ac)))) (pU (HX (iS (Ah (HX (iS (iS (iS (Ac))))) (Ac) Qp)))))))
end
abbrev gx (K : PySem.W.Frag) (C_Reader : Addr) (l : List (Str × Addr)) : Gx := gx2 K "Reader" C_Reader l
def UJ (K : PySem.W.Frag) : Sp := fun vs H Q _ => ∃ (a : Addr) (ns : List Int), vs = [.ref a] ∧ SqL K H a (ns.map V.int) ∧ ns.length ≤ 63 ∧ ∀ H', Q (.bl true) H'
theorem Vi (ht : ∀ ns : List Int, ns.length ≤ 63 → J_ [.lst (ns.map .int)] = some (.bl true)) {K : PySem.W.Frag} {C_Reader : Addr} {l : List (Str × Addr)} (vs : List V) (H : Hp) (Q : VK) (E : XK) (h : UJ K vs H Q E) : spD (gx K C_Reader l) J_ vs H Q E := by
 obtain ⟨a, ns, rfl, hs, hl, k⟩ := h
 refine ⟨[], [.lst (ns.map .int)], .bl true, (fun _ z => nomatch z), RepL.cons ?_ RepL.nil, ht ns hl, fun v H2 _ r => ?_⟩
 ·have e : hid [] H = H := by funext b; exact BR (fun z => nomatch z)
  rw [e]
  refine .lst hs (by simp) fun i x d h1 h2 => ?_
  rw [List.getElem?_map] at h1 h2
  cases e2 : ns[i]? with
  | none => rw [e2] at h1; cases h1
  | some z => rw [e2] at h1 h2; cases h1; cases h2; exact .int z
 ·cases r; exact k H2
end K25
section
open PySem L2 PV
local macro_rules | `(tactic| simp only [cK, $ls,*] $[$l:location]?) => `(tactic| simp only [S_, e_nx, e_rt, e_bk, e_ct, TF, e_if, TJ, TQ, TV, N_, TX, OD, OJ, Oa, LQ, e_b, e_bs, e_u, e_us, Ob, LR, Oc, La, Td, Te, Tf, Od, Oe, Og, Oh, Oi, Oj, Ol, Om, Oo, Oq, Ot, Ou, Ov, e_bl, Tg, Ow, Lb, Ld, Th, Ox, Oz, O1, O2, Le, Lf, Ti, O3, O4, O5, Lg, Tj, O6, O7, e_sl, Tn, Tp, Lh, Jr, e_v, e_vs, e_vU, Tq, Tr, e_k, O8, Li, Lj, O9, Tt, O_, Tu, PB, PJ, Tw, PK, Js, Tv, e_tr, PL, Lk, T3, PQ, Pa, Jt, Ig, Ln, Lp, Lq, Lr, Ke, e_tg, Pb, List.length_cons, List.length_nil, List.map_cons, List.map_nil, List.cons_append, List.nil_append, List.replicate_succ, List.replicate_zero, List.getElem?_cons_zero, List.getElem?_cons_succ, List.set_cons_zero, List.set_cons_succ, Nat.reduceAdd, Nat.reduceSub, Nat.reduceEqDiff, Nat.zero_add, truB, Bool.not_true, Bool.not_false, decide_true, decide_false, List.append_nil, Int.reduceLT, Int.reduceLE, Int.reduceNeg, Int.reduceEq, Int.reduceToNat, Nat.reduceLeDiff, ix0, ix1, ix2, ixt0, ixt1, ixt2, ixt3, $ls,*] $[$l:location]?)
local macro_rules | `(tactic| simp only [cK]) => `(tactic| simp only [S_, e_nx, e_rt, e_bk, e_ct, TF, e_if, TJ, TQ, TV, N_, TX, OD, OJ, Oa, LQ, e_b, e_bs, e_u, e_us, Ob, LR, Oc, La, Td, Te, Tf, Od, Oe, Og, Oh, Oi, Oj, Ol, Om, Oo, Oq, Ot, Ou, Ov, e_bl, Tg, Ow, Lb, Ld, Th, Ox, Oz, O1, O2, Le, Lf, Ti, O3, O4, O5, Lg, Tj, O6, O7, e_sl, Tn, Tp, Lh, Jr, e_v, e_vs, e_vU, Tq, Tr, e_k, O8, Li, Lj, O9, Tt, O_, Tu, PB, PJ, Tw, PK, Js, Tv, e_tr, PL, Lk, T3, PQ, Pa, Jt, Ig, Ln, Lp, Lq, Lr, Ke, e_tg, Pb, List.length_cons, List.length_nil, List.map_cons, List.map_nil, List.cons_append, List.nil_append, List.replicate_succ, List.replicate_zero, List.getElem?_cons_zero, List.getElem?_cons_succ, List.set_cons_zero, List.set_cons_succ, Nat.reduceAdd, Nat.reduceSub, Nat.reduceEqDiff, Nat.zero_add, truB, Bool.not_true, Bool.not_false, decide_true, decide_false, List.append_nil, Int.reduceLT, Int.reduceLE, Int.reduceNeg, Int.reduceEq, Int.reduceToNat, Nat.reduceLeDiff, ix0, ix1, ix2, ixt0, ixt1, ixt2, ixt3])
local macro_rules | `(tactic| simp only [dK, $ls,*] $[$l:location]?) => `(tactic| simp only [cK, e_ixEl, e_ixEt, e_ixEs, e_ixEks, e_ixEki, e_lenEl, e_lenEk, e_inFks, e_inFki, e_inFst, e_inFsl, e_inFil, e_seqA, e_seqAl, e_seqAt, e_seqAk, e_put, e_puts, e_putT, e_putTs, e_fz0, e_fz1, e_frzO, e_frzF, e_items, e_itemss, e_tup2g, kDt_s, kDt_i, $ls,*] $[$l:location]?)
local macro_rules | `(tactic| simp only [ciK, $ls,*] $[$l:location]?) => `(tactic| simp only [cK, JG, JH, add_ii, sub_ii, lt_ii, gt_ii, le_ii, ge_ii, N8, ne_ii, neg_i, $ls,*] $[$l:location]?)
local macro_rules | `(tactic| simp only [diK, $ls,*] $[$l:location]?) => `(tactic| simp only [cK, e_ixEl, e_ixEt, e_ixEs, e_ixEks, e_ixEki, e_lenEl, e_lenEk, e_inFks, e_inFki, e_inFst, e_inFsl, e_inFil, e_seqA, e_seqAl, e_seqAt, e_seqAk, e_put, e_puts, e_putT, e_putTs, e_fz0, e_fz1, e_frzO, e_frzF, e_items, e_itemss, e_tup2g, kDt_s, kDt_i, JG, JH, add_ii, sub_ii, lt_ii, gt_ii, le_ii, ge_ii, N8, ne_ii, neg_i, $ls,*] $[$l:location]?)
namespace K25
open PySem L2 PV EX
def isT : Option D → Bool
 | some (.bl true) => true
 | _ => false
theorem Vj {o : Option D} (h : isT o = true) : o = some (.bl true) := by
 unfold isT at h
 split at h
 ·rfl
 ·cases h
def one (a b : Nat) : Option D := (BZ [.int a]).bind fun t => (BK [t, .int b]).bind fun u => Bv [u]
theorem Sg : ∀ a < 52, ∀ b < 4, isT (one a b) = true := by decide +kernel
def TAB : List D := [.str "", .str " ", .str "x", .str "x=", .str "=x", .str "x==y", .str "x=y ", .str " x=y", .str "x = y", .str "red", .str "red()", .str "red(x", .str "red x)", .str "red(xy)", .str "red(x,)", .str "red(,x)", .str "red(x, y)", .str "red(x,y,z)", .str "Red(x)", .str "red(X)", .str "abcdefghi(x)", .str "not(x)", .str "and(x)", .str "or(x,y)", .str "some(x)", .str "all(x)", .str "not", .str "not ", .str "notx=y", .str "not  x=y", .str "some x", .str "(x=y)", .str "some x=y", .str "some xy x=y", .str "some  x x=y", .str "all x ", .str "(x=y and )", .str "(x=y and x=y", .str "x=y and x=y", .str "(x=y and x=y or x=y)", .str "(x=y  and x=y)", .str "(x=y And x=y)", .str "(x=y nor x=y)", .str "((x=y and x=y))", .str "xx=y", .str "x=yy", .str "some X x=y", .str "all 1 x=y", .str "x=1", .str "red(1)", .str "r3d(x)", .str "(x=y,x=y)"]
theorem Sh (m : Int) : BZ [.int m] = runO ((atI TAB (m % 52)).map fun d => .rt d [.fz (.int m), .fz (.lst TAB)]) := by kernel_rfl
theorem Sq (m : Int) : BZ [.int m] = atI TAB (m % 52) := by
 rw [Sh]
 cases atI TAB (m % 52) <;> rfl
theorem Vk : ∃ L : List D, ∀ m : Int, BZ [.int m] = atI L (m % 52) := ⟨TAB, Sq⟩
theorem Ss (m : Int) : BZ [.int m] = BZ [.int (m % 52)] := by
 obtain ⟨L, h⟩ := Vk
 rw [h, h, Int.emod_emod_of_dvd m (Int.dvd_refl 52)]
theorem Kw (t : D) (m : Int) : BK [t, .int m] = BK [t, .int (m % 4)] := by
 have e : m % 4 % 4 = m % 4 := Int.emod_emod_of_dvd m (Int.dvd_refl 4)
 have e1 := JG m 4 (by decide)
 have e2 := JG (m % 4) 4 (by decide)
 rw [e] at e2
 rcases (show m % 4 = 0 ∨ m % 4 = 1 ∨ m % 4 = 2 ∨ m % 4 = 3 by omega) with h | h | h | h <;> (rw [h] at e1 e2 ⊢; simp only [cK, BK, Dj, e1, e2, N8])
 ·cases addD (.str "not ") t <;> rfl
 ·cases addD (.str "some x ") t <;> rfl
 ·cases addD (.str "(") t with
  | none => rfl
  | some u =>
   show runO (HQ (retO _ (addD u (.str " and x=y)"))) _) = runO (HQ (retO _ (addD u (.str " and x=y)"))) _)
   cases addD u (.str " and x=y)") <;> rfl
theorem step (i : Int) : (BZ [.int (i / 4)]).bind (fun t => (BK [t, .int i]).bind fun u => Bv [u]) = some (.bl true) := by
 have a0 : 0 ≤ i / 4 % 52 := Int.emod_nonneg _ (by decide)
 have a1 : i / 4 % 52 < 52 := Int.emod_lt_of_pos _ (by decide)
 have b0 : 0 ≤ i % 4 := Int.emod_nonneg _ (by decide)
 have b1 : i % 4 < 4 := Int.emod_lt_of_pos _ (by decide)
 obtain ⟨a, ea⟩ : ∃ a : Nat, (a : Int) = i / 4 % 52 := ⟨(i / 4 % 52).toNat, by omega⟩
 obtain ⟨b, eb⟩ : ∃ b : Nat, (b : Int) = i % 4 := ⟨(i % 4).toNat, by omega⟩
 have := Vj (Sg a (by omega) b (by omega))
 rw [Ss, ← ea]
 rw [← this]
 unfold one
 congr 1
 funext t
 rw [Kw, ← eb]
theorem Su : noX Jb [.str "not x=y"] = some (.tup [.str "not", .tup [.str "same", .str "x", .str "y"]]) := by kernel_rfl
theorem Qw : ∀ ns : List Int, ns.length ≤ 63 → J_ [.lst (ns.map .int)] = some (.bl true) := by
 intro ns hn
 obtain ⟨xs, ex⟩ : ∃ xs : List Int, slD (.lst (ns.map .int)) none (some 63) = some (.lst (xs.map .int)) := by
  refine ⟨cutD ns none (some 63), ?_⟩
  show some (D.lst (cutD (ns.map D.int) none (some 63))) = _
  unfold cutD
  rw [List.length_map, List.map_take, List.map_drop]
 have xl : xs.length ≤ 63 := by
  have : slD (.lst (ns.map .int)) none (some 63) = some (.lst (cutD (ns.map D.int) none (some 63))) := rfl
  rw [this] at ex
  have e2 := congrArg (fun o : Option D => match o with | some (.lst l) => l.length | _ => 0) ex
  simp only [cutD, List.length_take, List.length_drop, List.length_map] at e2
  omega
 have a3 := Uz (i := [D.int 0]) (j := xs.map .int) (by simp only [List.length_cons, List.length_nil, List.length_map]; omega)
 obtain ⟨ys, hys⟩ : ∃ ys : List Int, ys = 0 :: xs := ⟨_, rfl⟩
 have e3 : [D.int 0] ++ xs.map .int = ys.map .int := by rw [hys]; rfl
 rw [e3] at a3
 obtain ⟨ρ', ef, y1, rfl⟩ := Jq (b := tgB (LC 1) Jc) (ds := ys.map D.int) (ρ := [.fz (.lst (ns.map .int)), .un]) (P := fun _ ρ => ∃ y1 : Slot, ρ = [.fz (.lst (ns.map .int)), y1]) 0 ⟨.un, rfl⟩ (by
  rintro k d ρ hd ⟨y1, rfl⟩
  obtain ⟨i, _, rfl⟩ := List.mem_map.mp (List.mem_of_getElem? hd)
  refine ⟨_, ?_, .fz (.int i), rfl⟩
  rw [e_tg, Ke, Pb]
  have d4 := JH i 4 (by decide) (by decide)
  have st := step i
  cases h1 : BZ [.int (i / 4)] with
  | none => rw [h1] at st; cases st
  | some t =>
   rw [h1, Option.bind_some] at st
   cases h2 : BK [t, .int i] with
   | none => rw [h2] at st; cases st
   | some u =>
    rw [h2, Option.bind_some] at st
    simp only [cK, Jc, d4, h1, h2, st])
 have rd := Su
 have eq : eqD false (.tup [.str "not", .tup [.str "same", .str "x", .str "y"]]) (.tup [.str "not", .tup [.str "same", .str "x", .str "y"]]) = some (.bl true) := by kernel_rfl
 simp only [cK, J_, Qs, ex, a3, ef, rd, eq]
end K25
end
open PySem PySem.W PyProof.Rows
theorem L2.both_map {α β γ : Type} {o : Option α} {f : α → β} {g : α → γ} {a : β} {b : γ} (h1 : o.map f = some a) (h2 : o.map g = some b) : o.map (fun s => (f s, g s)) = some (a, b) := by
 cases o with
 | none => cases h1
 | some x => cases h1; cases h2; rfl
theorem L2.head_at {r : OpenRow} {q : Program} {loose : List Str} {d : DefRec} {kwd : List (Str × Expr)} {N : Nat} (H : Hook)
  (l1 : ∀ w : World, (openEnds treeTable r.prog w N).map (fun s => openSeen q loose (importedModules r.prog.main.body) (fun s => xlAt q [] s && recOk r.records s) true s) = some (openGood q loose))
  (l2 : ∀ w : World, (openEnds treeTable r.prog w N).map H.obs = some (H.val w))
  (e1 : defOf q r.name = some (d, kwd)) (e2 : r.prog.theDef r.name = some (d.params, d.body, d.scope)) (e3 : kwWritten? d.params.kwonlyargs d.params.kw_defaults = some kwd)
  (e4 : (!r.writes || r.records.isEmpty) = true) (e5 : r.wellSaid = true) (e6 : (chainsOk q && opensWell r.prog && (frees r.toRowW && r.within.isEmpty)) = true) (e7 : r.prog.bare) (e8 : r.toRowW.promised)
  (e9 : WalkO q loose (XL q []) H.says r.toRowW d kwd fun f vs => PySem.call f vs) : r.Holds :=
 holds_open (XP := XL q []) (fun w => L2.both_map (l1 w) (l2 w)) H.of H.keeps (fun s e => xl_of s (Bool.and_eq_true_iff.mp e).1) XL.keeps e1 e2 e3 (fun _ e => recFacts_of (Bool.and_eq_true_iff.mp e).2) e4 e5 e6 e7 e8 e9
set_option maxRecDepth 100000 in
set_option maxHeartbeats 0 in
theorem PySem.Challenge.cw_twinrounds_k25_no_saying_holds : PySem.Challenge.rw_twinrounds_k25_no_saying.Holds := by
 w_on; o_law; refine L2.head_at (q := K25.vw) (loose := []) (N := 6000) K25.hook K25.look1 K25.look2 (by rfl) (by rfl) (by rfl) (by rfl) (by assumption) (by decide +kernel) ⟨rfl, rfl, rfl, rfl, rfl, by decide +kernel⟩ ?_ ?_
 ·w_witness2
 unfold K25.hook
 k_fill
 refine L2.RP (l := PySem.Challenge.rw_twinrounds_k25_no_saying) (n := 63) (k := 47) (x := "_law_script") (CX := fun _ => L2.CX0) (sp := fun w => K25.UJ _) rfl (by decide) rfl ⟨rfl, by decide, by decide⟩ (fun w h Y => PySem.W.kIn_of Y) ?F (fun _ _ a ns hl _ hS => ⟨a, ns, rfl, hS, hl, fun _ => rfl⟩) fun _ _ _ _ _ z => z
 case F =>
  intro w mg fa h KX G hmg
  have TT : ∃ C_Reader : Addr, ∃ l : List (Str × Addr), ∃ T : K25.Tx (K25.gx (L2.KOf KX) C_Reader l) mg, ∀ (s : Shared) (u : Value), BindsTo s T.x_law.fd ⟨[u], []⟩ [("_law_script", u)] := by
   dsimp only [L2.KOf]
   refine' ⟨_, [("NoSaying", _)], { C_Reader := _, gc_Reader := PV.Ve, cl_Reader := (PV.cls KX ?pg_Reader ?hd_Reader ?po_Reader ?sa_Reader :), mC_Reader := PySem.W.mg_of KX G ?aC_Reader, x_Reader___init__ := (PV.ix KX ?mk_Reader ?kc_Reader ?a0 ?i0 ?l0 ?c0 ?k0 ?b0 :), x_Reader_is_ahead := (PV.mx KX ?a1 ?i1 ?l1 ?c1 ?k1 ?b1 :), x_Reader_is_at_letter := (PV.mx KX ?a2 ?i2 ?l2 ?c2 ?k2 ?b2 :), x_Reader_take_letters := (PV.mx KX ?a3 ?i3 ?l3 ?c3 ?k3 ?b3 :), x_Reader_take := (PV.mx KX ?a4 ?i4 ?l4 ?c4 ?k4 ?b4 :), x_read_both_or_either := (PV.dx KX G ?a5 ?l5 ?c5 ?k5 ?b5 :), x_Reader_take_name := (PV.mx KX ?a6 ?i6 ?l6 ?c6 ?k6 ?b6 :), x_is_word := (PV.dx KX G ?a7 ?l7 ?c7 ?k7 ?b7 :), x_read_mark_or_tie := (PV.dx KX G ?a8 ?l8 ?c8 ?k8 ?b8 :), x_read_same := (PV.dx KX G ?a9 ?l9 ?c9 ?k9 ?b9 :), x_read_some_or_all := (PV.dx KX G ?a10 ?l10 ?c10 ?k10 ?b10 :), x_read_saying := (PV.dx KX G ?a11 ?l11 ?c11 ?k11 ?b11 :), x_read := (PV.dx KX G ?a12 ?l12 ?c12 ?k12 ?b12 :), x__law_refused := (PV.dx KX G ?a13 ?l13 ?c13 ?k13 ?b13 :), x__law_within := (PV.dx KX G ?a14 ?l14 ?c14 ?k14 ?b14 :), x__law_odd := (PV.dx KX G ?a15 ?l15 ?c15 ?k15 ?b15 :), x_law := (PV.dx KX G ?a16 ?l16 ?c16 ?k16 ?b16 :), fl_line := (PV.Qi KX (PV.cls KX ?pg_Reader ?hd_Reader ?po_Reader ?sa_Reader) ?n_Reader_line :), fl_at := (PV.Qi KX (PV.cls KX ?pg_Reader ?hd_Reader ?po_Reader ?sa_Reader) ?n_Reader_at :), z_ValueError := PySem.W.mg_none_of KX G ?z_ValueError, z_all := PySem.W.mg_none_of KX G ?z_all, z_isinstance := PySem.W.mg_none_of KX G ?z_isinstance, z_len := PySem.W.mg_none_of KX G ?z_len, s_LETTERS := (PV.sx (f := (.str "abcdefghijklmnopqrstuvwxyz")) KX G ?a_LETTERS :), s_AND := (PV.sx (f := (.str " and ")) KX G ?a_AND :), s_OR := (PV.sx (f := (.str " or ")) KX G ?a_OR :), s_MOST_LETTERS := (PV.sx (f := (.int 8)) KX G ?a_MOST_LETTERS :), c_KEPT_TEXTS := (PV.kx2 (xs := ["not", "and", "or", "some", "all"]) KX G ?a_KEPT_TEXTS ?l_KEPT_TEXTS ?h_KEPT_TEXTS ?v_KEPT_TEXTS :), c_BINDERS := (PV.kx2 (xs := ["some", "all"]) KX G ?a_BINDERS ?l_BINDERS ?h_BINDERS ?v_BINDERS :), r := (PV.rx KX G ?rA ?rE ?r1 ?r2 ?r3 :), xt := (PV.Vf KX ?xt :), e_NoSaying := (PV.xx KX G ?eA_NoSaying ?eg_NoSaying ⟨?x1_NoSaying, ?x2_NoSaying, ?x3_NoSaying, ?x4_NoSaying, ?x5_NoSaying⟩ ?hi_NoSaying ?ii_NoSaying ?kp_NoSaying ?na_NoSaying ?el_NoSaying ?ec_NoSaying ?ek_NoSaying ?eb_NoSaying :), a_NoName := (PV.ax KX G ?sA_NoName :), a_NoPointing := (PV.ax KX G ?sA_NoPointing :), a_NoThing := (PV.ax KX G ?sA_NoThing :), a_NoWord := (PV.ax KX G ?sA_NoWord :), a_TooGreat := (PV.ax KX G ?sA_TooGreat :), a_Unlike := (PV.ax KX G ?sA_Unlike :), k_0 := (PV.JZ KX ?k0a ?k0b ?k0c ?k0d ?k0e :), k_1 := (PV.JZ KX ?k1a ?k1b ?k1c ?k1d ?k1e :), k_2 := (PV.JZ KX ?k2a ?k2b ?k2c ?k2d ?k2e :), nf_line := (PV.Vg KX ?nf_line :) }, ?bt⟩
   case aC_Reader | pg_Reader | hd_Reader | po_Reader | sa_Reader | mk_Reader | kc_Reader | n_Reader_line | n_Reader_at | a0 | i0 | l0 | c0 | k0 | a1 | i1 | l1 | c1 | k1 | a2 | i2 | l2 | c2 | k2 | a3 | i3 | l3 | c3 | k3 | a4 | i4 | l4 | c4 | k4 | a5 | l5 | c5 | k5 | a6 | i6 | l6 | c6 | k6 | a7 | l7 | c7 | k7 | a8 | l8 | c8 | k8 | a9 | l9 | c9 | k9 | a10 | l10 | c10 | k10 | a11 | l11 | c11 | k11 | a12 | l12 | c12 | k12 | a13 | l13 | c13 | k13 | a14 | l14 | c14 | k14 | a15 | l15 | c15 | k15 | a16 | l16 | c16 | k16 | z_ValueError | z_all | z_isinstance | z_len | a_LETTERS | a_AND | a_OR | a_MOST_LETTERS | a_KEPT_TEXTS | l_KEPT_TEXTS | a_BINDERS | l_BINDERS | rA | eA_NoSaying | hi_NoSaying | ii_NoSaying | kp_NoSaying | el_NoSaying | ec_NoSaying | ek_NoSaying | sA_NoName | sA_NoPointing | sA_NoThing | sA_NoWord | sA_TooGreat | sA_Unlike => k_is
   case b2 | b3 | b5 | b6 | b7 | b11 | b12 | b13 | b15 | b16 => exact fun _ _ _ _ _ _ us hl => match us, hl with | [_], _ => rfl
   case b0 | b1 | b4 | b8 | b9 | b10 | b14 | eb_NoSaying => exact fun _ _ _ _ _ _ us hl => match us, hl with | [_, _], _ => rfl
   case h_KEPT_TEXTS => decide
   case v_KEPT_TEXTS => exact .cons ⟨_, rfl⟩ (.cons ⟨_, rfl⟩ (.cons ⟨_, rfl⟩ (.cons ⟨_, rfl⟩ (.cons ⟨_, rfl⟩ (.nil)))))
   case h_BINDERS => decide
   case v_BINDERS => exact .cons ⟨_, rfl⟩ (.cons ⟨_, rfl⟩ (.nil))
   case eg_NoSaying => rfl
   case rE | r1 | r2 | r3 | x1_NoSaying | x2_NoSaying | x3_NoSaying | x4_NoSaying | x5_NoSaying | na_NoSaying | k0a | k0b | k0c | k0d | k1a | k1b | k1c | k1d | k2a | k2b | k2c | k2d => kernel_rfl
   case xt => exact fun p hp => by (rcases List.mem_cons.mp hp with rfl | hp; (exact ⟨⟨by kernel_rfl, by kernel_rfl, by kernel_rfl, by kernel_rfl, by kernel_rfl⟩, ⟨by kernel_rfl, by kernel_rfl, by kernel_rfl⟩⟩); cases hp)
   case k0e => exact fun p hp => by (rcases List.mem_cons.mp hp with rfl | hp; (exact by kernel_rfl); cases hp)
   case k1e => exact fun p hp => by (rcases List.mem_cons.mp hp with rfl | hp; (exact by kernel_rfl); cases hp)
   case k2e => exact fun p hp => by (rcases List.mem_cons.mp hp with rfl | hp; (exact by kernel_rfl); cases hp)
   case nf_line => exact fun p hp => by (rcases List.mem_cons.mp hp with rfl | hp; (exact by kernel_rfl); cases hp)
   case bt => exact fun s u => .of_eq rfl
  obtain ⟨C_Reader, l, T, e1⟩ := TT
  have e0 : fa = T.x_law.f := by
   have q := hmg.symm.trans T.x_law.m
   cases q
   rfl
  subst e0
  exact ⟨T.x_law.fd, e1, fun base kb nb => (K25.Vh (w := w) (base := base) T).imp (K25.Vi K25.Qw)⟩
